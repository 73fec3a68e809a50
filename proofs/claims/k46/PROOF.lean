import PyProof.Rows.All
import Wide.All
import OpenK.AllK
import Wide.FinOn
import HandS.ForMost
import HandS.Codes
import HandS.IsInst
import HandS.Wide
import HandS.CallLocal
import HandS.StrMore
import HandS.Replace
import HandS.ReplaceDef
import HandS.ReplaceLit
import HandS.ReplaceList
import Wide.Txt
import HandS.Exc
import HandS.ExcInit
import HandS.Defaults
import HandS.MakeKw
import HandS.TryOnly
import HandS.ExcField
import KE.KExcIs
import KE.KExcInit
import PyProof.P3Eq
import HandS.ExcIs
import HandS.OwnEq
import HandS.Property
import HandS.ExcOwn
import HandS.NamedTupSort
import KE.KOpsOwn
import PyProof.InstNe
import HandS.MakeKwOnly
import PyProof.InstEq
import PyProof.DictUpdate
import PyProof.DictDisplay
import HandS.DictComp
import KE.KEqDict
import HandS.More
import HandS.TryMany
import HandS.WordsDict
import PyProof.Rows.StrMeet
import HandS.RaiseMore
import HandS.TupAny
import KE.KRevSl
import PyProof.SliceList
import HandS.Bytes
import KE.KStrBytes
import HandS.FStr
import KE.KxField
import PyProof.FString3
import HandS.Zip
import KE.KBytesWalk
import HandS.IterVal
import PyProof.ZipIter
import HandS.Iter
import HandS.List
import HandS.Conv
import PyProof.ListStr
import HandS.SetTxt0
import HandS.SetFor
import HandS.TupSets
import HandS.Strs
import PySem.Challenge.RW_forkhaul_k46_one_field_alone
import HandS.Text
import HandS.BytesMake
import HandS.Style
import HandS.ListItems
import HandS.SetKeys
set_option Elab.async false
set_option linter.all false
set_option maxRecDepth 100000
set_option maxHeartbeats 4000000
/-! The base of the proofs: repetition of texts, defs by their names, comprehensions by an invariant, frames. -/
namespace Fk
open PySem PySem.Spec PyProof.Rows L2

/-! ### a text repeated -/
theorem fold_cps (x : Array Nat) : ∀ (n : Nat) (acc : Array Nat), ((List.replicate n x).foldl (· ++ ·) acc).toList = acc.toList ++ (List.replicate n x.toList).flatten
  | 0, acc => by simp
  | n + 1, acc => by
    rw [List.replicate_succ, List.foldl_cons, fold_cps x n (acc ++ x), List.replicate_succ, List.flatten_cons, Array.toList_append, List.append_assoc]
def repS (x : Str) (n : Nat) : Str := ⟨(List.replicate n x.cps.toList).flatten.toArray⟩
theorem tl_rep (x : Str) (n : Nat) : TL.tl (repS x n) = (List.replicate n (TL.tl x)).flatten := rfl
theorem rep_len (x : Str) (n : Nat) : (repS x n).length = n * x.length := by
  rw [TL.len_tl, tl_rep, TL.len_tl]
  induction n with
  | zero => simp
  | succ n ih => rw [List.replicate_succ, List.flatten_cons, List.length_append, ih, Nat.succ_mul, Nat.add_comm]
theorem tooLong_no {n : Nat} (h : n ≤ 16777216) : Builtin.Str.tooLong n = false := by
  unfold Builtin.Str.tooLong
  have e : (16777216 : Nat) = sizeLine ∨ 16777216 ≤ sizeLine := by right; decide
  have h2 : 16777216 ≤ sizeLine := by rcases e with e | e <;> omega
  simp
  omega
def rMulSI : R2 := fun x y H Q => ∃ (z : Str) (k : Int), x = .str z ∧ y = .int k ∧ 0 ≤ k ∧ k ≤ 10000 ∧ z.length * k.toNat ≤ 1000000 ∧ Q (.str (repS z k.toNat)) H
theorem op_mul_si {X : Cx} : OpR X (binaryOp .Mult) rMulSI := by
  intro pins s σ H x y v u Q I rx ry h
  obtain ⟨z, k, rfl, rfl, h0, h1, h2, q⟩ := h
  obtain ⟨t, rfl⟩ := rx
  obtain ⟨t', rfl⟩ := ry
  refine PySem.P.mul_str ?_ (fun h3 h4 => ?_) (fun h3 h4 => ?_) ?_
  · have e1 : ¬ k < -(2 ^ 63 : Int) := by omega
    have e2 : ¬ k ≥ 2 ^ 63 := by omega
    rw [decide_eq_false e1, decide_eq_false e2]
    rfl
  · have hk : 1 ≤ k := by omega
    have hz : z.length ≤ 1000000 := by
      have h5 : z.length * 1 ≤ z.length * k.toNat := Nat.mul_le_mul_left _ (by omega)
      omega
    have h6 : (10 ^ 14 : Int) ≤ (2 ^ 63 - 1) / k := by
      refine Int.le_ediv_of_mul_le (by omega) ?_
      have h7 : (10 ^ 14 : Int) * k ≤ 10 ^ 14 * 10000 := Int.mul_le_mul_of_nonneg_left h1 (by decide)
      have h8 : ((10 ^ 14 : Int) * 10000) ≤ 2 ^ 63 - 1 := by decide
      omega
    have h9 : ((z.length : Nat) : Int) ≤ 1000000 := by omega
    have h10 : (1000000 : Int) < 10 ^ 14 := by decide
    omega
  · exact tooLong_no (by omega)
  · by_cases h3 : k < 1
    · rw [if_pos h3]
      have e : k.toNat = 0 := by omega
      rw [e] at q
      have ez : repS z 0 = Str.empty := TL.ext_tl rfl
      rw [ez] at q
      exact ⟨by decide, V.str Str.empty, H, I.tok _, ⟨_, rfl⟩, q⟩
    · rw [if_neg h3]
      by_cases h4 : (k == 1 || z.length == 0) = true
      · rw [if_pos h4]
        have ez : repS z k.toNat = z := by
          apply TL.ext_tl
          rw [tl_rep]
          rcases Bool.or_eq_true_iff.mp h4 with h5 | h5
          · have e : k.toNat = 1 := by
              have := eq_of_beq h5
              omega
            rw [e]
            simp
          · have e : TL.tl z = [] := by
              have := eq_of_beq h5
              rw [TL.len_tl] at this
              exact List.length_eq_zero_iff.mp this
            rw [e]
            simp
        rw [ez] at q
        exact ⟨V.str z, H, I, ⟨_, rfl⟩, q⟩
      · rw [if_neg h4]
        have ez : (⟨(List.replicate k.toNat z.cps).foldl (· ++ ·) #[]⟩ : Str) = repS z k.toNat := by
          apply TL.ext_tl
          show ((List.replicate k.toNat z.cps).foldl (· ++ ·) #[]).toList = _
          rw [fold_cps]
          rfl
        have hl : (repS z k.toNat).length ≤ sizeLine := by
          rw [rep_len, Nat.mul_comm]
          exact Nat.le_trans h2 (by decide)
        rw [← ez] at q hl
        exact ⟨hl, V.str _, H, I.tok _, ⟨_, rfl⟩, q⟩

section
variable {P : Program} {w : World} {K : PySem.W.Frag} {mg : Str → Option Value} {base : Heap}
/-! ### defs by their names -/
/-- a def of the module whose parameters have no defaults -/
def IsDef (K : PySem.W.Frag) (mg : Str → Option Value) (x : Str) (st : Stmt) : Prop := ∃ f fd, C8.Def K mg x st f fd ∧ fd.defaults = .none
theorem cal_of {x : Str} {st : Stmt} {N ps : List Str} {k : Nat} {sp : Sp} (D : IsDef K mg x st) (S : FnScope N ps (C8.fnScope st))
    (hb : ∀ (kV doc pm : Value) (an : Option Addr) (cdv ct : Value) (us : List Value), us.length = ps.length → bindArgs (PySem.W.fnOf x x (C8.fnArgs st) (C8.fnBody st) (C8.fnScope st) .none kV doc pm an cdv ct) ⟨us, []⟩ = pure (ps.zip us))
    (len : ∀ vs H Q E, sp vs H Q E → vs.length = ps.length)
    (hbody : ∀ (f : Addr) (cdv : Value) (A : Around) (outer : List Env) (s : Shared) (H : Hp) (vs : List V) (Q : VK) (E : XK), Room k (A.deeper (envOfC x (C8.fnScope st) s.heap.objs.size f cdv)) → sp vs H Q E →
      ∃ t, PSs (cxOf C8.CX0 P w K mg base N x (C8.fnScope st) f cdv A outer s H E).nox (C8.fnBody st) t ∧ t { nx := fun _ H' => Q .non H', rt := Q } (start N vs) H) : C8.Cal P w K mg base (k + 1) x sp [] := by
  obtain ⟨f, fd, D, df⟩ := D
  exact C8.cal0 D (D.fn.binds df hb) .nil S len (hbody f)
theorem pe_c0 {X : Cx} {k j : Nat} {x : Str} {sp : Sp} {dvs : List V} {p pos : Pos} (c : C8.Cal X.prog X.w X.K X.mg X.base k x sp dvs) (hr : Room j X.A) (hk : k ≤ j) (hg : Gl X x)
    (hdb : (x == ("__debug__" : Str)) = false := by decide) : PE X (.Call (.Name x p) [] [] pos) (tCall sp dvs C8.E0 tNil) := by
  obtain ⟨f, fd, ps, ds, F, hm, kp, b, d⟩ := c.ex
  exact pe_call0 F (hr.mono hk) hg hm kp b d C8.pass0 hdb
/-- a def's address as a value, with its promise -/
theorem held_of {k : Nat} {x : Str} {sp : Sp} {f : Addr} (c : C8.Cal P w K mg base k x sp []) (h : mg x = some (.ref f)) : Held P w K mg base k f sp := by
  obtain ⟨f', fd, ps, ds, F, hm, kp, b, d⟩ := c.ex
  rw [h] at hm
  cases hm
  cases d
  exact ⟨fd, ps, F, kp, b⟩
end

/-! ### heaps -/
/-- all that was tracked is as it was, but what stands at a -/
def Fr (a : Addr) (H H' : Hp) : Prop := ∀ b o, b ≠ a → H b = some o → H' b = some o
theorem Fr.refl (a : Addr) (H : Hp) : Fr a H H := fun _ _ _ h => h
theorem Fr.trans {a : Addr} {H H1 H2 : Hp} (x : Fr a H H1) (y : Fr a H1 H2) : Fr a H H2 := fun b o n h => y b o n (x b o n h)
theorem Fr.at {a : Addr} {H : Hp} {o : HO} : Fr a H (upd H a o) := fun b u n h => by
  rw [upd_ne n]
  exact h
theorem Fr.new {a p : Addr} {H : Hp} {o : HO} (h : H p = none) : Fr a H (upd H p o) := fun b u _ e => by
  rw [upd_ne (ne_of_none e h)]
  exact e
/-- what came later may change -/
theorem Fr.mut {a p : Addr} {H H' : Hp} {o : HO} (x : Fr a H H') (h : H p = none) : Fr a H (upd H' p o) := fun b u n e => by
  rw [upd_ne (ne_of_none e h)]
  exact x b u n e
theorem Fr.same {a : Addr} {H H' : Hp} (h : Same H H') : Fr a H H' := fun b o _ e => h b o e
theorem Fr.free {a p : Addr} {H H' : Hp} (x : Fr a H H') (n : p ≠ a) (h : H' p = none) : H p = none := by
  cases q : H p with
  | none => rfl
  | some o =>
    rw [x p o n q] at h
    cases h
theorem same_new {H : Hp} {p : Addr} {o : HO} (h : H p = none) : Same H (upd H p o) := fun b u e => by
  rw [upd_ne (ne_of_none e h)]
  exact e
theorem same_mut {H H' : Hp} {p : Addr} {o : HO} (x : Same H H') (h : H p = none) : Same H (upd H' p o) := fun b u e => by
  rw [upd_ne (ne_of_none e h)]
  exact x b u e
theorem small_line {n : Nat} (h : n ≤ 1000000) : n ≤ sizeLine := Nat.le_trans h (by decide)
theorem small_lt {n : Nat} (h : n ≤ 1000000) : n < sizeLine := Nat.lt_of_le_of_lt h (by decide)

/-! ### comprehensions -/
theorem set_set {σ : L2.St} {i : Nat} {x y : Option V} : (σ.set i x).set i y = σ.set i y := by
  rw [List.set_set]
/-- what an iterator yields while the list at D grows: the items of a list -/
structure Yields (J : It) (items : List V) (G : Hp → Prop) : Prop where
  go : ∀ k H, G H → k < items.length → J.go k H
  stop : ∀ H, G H → J.stop items.length H
  yld : ∀ k H x H', k < items.length → G H → J.yld k H x H' → H' = H ∧ items[k]? = some x
theorem yields_str (x : Str) : Yields (Its x) (x.cps.toList.map fun c => V.str ⟨#[c]⟩) (fun _ => True) where
  go := fun k H _ h => by
    rw [List.length_map] at h
    exact (by simpa using h : k < x.cps.size)
  stop := fun H _ => by
    show x.cps.size ≤ _
    simp
  yld := fun k H v H' _ _ h => by
    obtain ⟨e, c, hc, hv⟩ := h
    refine ⟨e, ?_⟩
    rw [List.getElem?_map, Array.getElem?_toList, hc, hv]
    rfl
theorem yields_list {K : PySem.W.Frag} {a : Addr} {xs : List V} : Yields (Itl K a) xs (fun H => SqL K H a xs) where
  go := fun k H g h => ⟨xs, xs[k], g, List.getElem?_eq_getElem h⟩
  stop := fun H g => ⟨xs, g, Nat.le_refl _⟩
  yld := fun k H x H' _ g h => ⟨h.1, h.2 xs g⟩
theorem yields_range {lo : Int} {n : Nat} : Yields (Itr lo n) ((List.range n).map fun (i : Nat) => V.int (lo + (i : Int))) (fun _ => True) where
  go := fun k H _ h => by
    rw [List.length_map, List.length_range] at h
    exact h
  stop := fun H _ => by
    show n ≤ _
    rw [List.length_map, List.length_range]
    exact Nat.le_refl _
  yld := fun k H x H' hk _ h => by
    obtain ⟨e, hx⟩ := h
    rw [List.length_map, List.length_range] at hk
    refine ⟨e, ?_⟩
    rw [List.getElem?_map, List.getElem?_range hk, hx]
    rfl
/-- behind k turns of a comprehension: the list at D holds acc, of which I speaks -/
def LcN (I : Nat → List V → Hp → Prop) (D : Addr) (k : Nat) (H : Hp) : Prop := ∃ acc, H D = some (.lst acc) ∧ acc.length ≤ k ∧ I k acc H
theorem lc_take {I : Nat → List V → Hp → Prop} {D : Addr} {k : Nat} {H4 : Hp} {y : V} {acc : List V} (h : H4 D = some (.lst acc)) (l : acc.length ≤ k) (hk : k < 1000000) (q : I (k + 1) (acc ++ [y]) (upd H4 D (.lst (acc ++ [y])))) :
    ∃ acc, H4 D = some (.lst acc) ∧ acc.length < sizeLine ∧ LcN I D (k + 1) (upd H4 D (.lst (acc ++ [y]))) :=
  ⟨acc, h, small_lt (by omega), acc ++ [y], upd_same, by rw [List.length_append, List.length_singleton]; omega, q⟩
theorem lc_skip {I : Nat → List V → Hp → Prop} {D : Addr} {k : Nat} {H4 : Hp} {acc : List V} (h : H4 D = some (.lst acc)) (l : acc.length ≤ k) (q : I (k + 1) acc H4) : LcN I D (k + 1) H4 := ⟨acc, h, by omega, q⟩
/-- a comprehension by an invariant I over (turns, what the new list holds, the heap) -/
theorem lc_inv {J : It} {items : List V} {G : Hp → Prop} {H1 : Hp} {D : Addr} {σ : L2.St} {i : Nat} {tt : TT} {te : TE} {Q : Hp → Prop} (Y : Yields J items G) (I : Nat → List V → Hp → Prop)
    (hG : ∀ k acc H, I k acc H → H D = some (.lst acc) → G H) (h0 : I 0 [] (upd H1 D (.lst [])))
    (hs : ∀ k acc H x, I k acc H → H D = some (.lst acc) → items[k]? = some x → acc.length ≤ k → k < 1000000 → tt (σ.set i (some x)) H fun b H3 =>
      if b = true then te (σ.set i (some x)) H3 fun y H4 => ∃ acc, H4 D = some (.lst acc) ∧ acc.length < sizeLine ∧ LcN I D (k + 1) (upd H4 D (.lst (acc ++ [y]))) else LcN I D (k + 1) H3)
    (hl : items.length ≤ 1000000) (hd : ∀ acc H, I items.length acc H → H D = some (.lst acc) → acc.length ≤ items.length → Q H) :
    ∃ W : Nat → Nat → Hp → Prop, (∃ m, W 0 m (upd H1 D (.lst []))) ∧ ∀ k m H, W k m H →
      (J.stop k H ∧ Q H) ∨ (J.go k H ∧ ∃ Nx : Hp → Prop, (∀ H', Nx H' → ∃ m', m' < m ∧ W (k + 1) m' H') ∧ ∀ x H', J.yld k H x H' → gName i x (wipe σ [i]) H' fun σ2 H2 => wipe σ2 [i] = wipe σ [i] ∧ tt σ2 H2 fun b H3 =>
        if b = true then te σ2 H3 fun y H4 => ∃ acc, H4 D = some (.lst acc) ∧ acc.length < sizeLine ∧ Nx (upd H4 D (.lst (acc ++ [y]))) else Nx H3) := by
  refine ⟨fun k m H => m = items.length - k ∧ k ≤ items.length ∧ LcN I D k H, ⟨items.length, by omega, Nat.zero_le _, [], upd_same, Nat.zero_le _, h0⟩, ?_⟩
  rintro k m H ⟨rfl, hk, acc, hD, hacc, hI⟩
  by_cases hlt : k < items.length
  · refine .inr ⟨Y.go k H (hG _ _ _ hI hD) hlt, LcN I D (k + 1), fun H' q => ⟨items.length - (k + 1), by omega, rfl, hlt, q⟩, fun x H' y => ?_⟩
    obtain ⟨rfl, hx⟩ := Y.yld k H x H' hlt (hG _ _ _ hI hD) y
    show wipe ((wipe σ [i]).set i (some x)) [i] = wipe σ [i] ∧ tt ((wipe σ [i]).set i (some x)) _ _
    have e1 : (wipe σ [i]).set i (some x) = σ.set i (some x) := set_set
    have e2 : wipe (σ.set i (some x)) [i] = wipe σ [i] := set_set
    rw [e1]
    exact ⟨e2, hs k acc _ x hI hD hx hacc (by omega)⟩
  · have e : k = items.length := by omega
    subst e
    exact .inl ⟨Y.stop H (hG _ _ _ hI hD), hd acc H hI hD hacc⟩
/-- a comprehension whose element and test change nothing that is tracked -/
theorem lc_pure {α : Type} {J : It} {us : List α} {g : α → V} {G : Hp → Prop} {H1 : Hp} {D : Addr} {σ : L2.St} {i : Nat} {tt : TT} {te : TE} {Q : Hp → Prop} (Y : Yields J (us.map g) G) (f : α → V) (p : α → Bool) (hD1 : H1 D = none)
    (hG : ∀ H, Same H1 H → G H)
    (hs : ∀ H u, Same H1 H → u ∈ us → ∀ (R : Bool → Hp → Prop), (∀ H3, Same H H3 → R (p u) H3) → tt (σ.set i (some (g u))) H R)
    (he : ∀ H u, Same H1 H → u ∈ us → p u = true → ∀ (R : VK), (∀ H3, Same H H3 → R (f u) H3) → te (σ.set i (some (g u))) H R)
    (hl : us.length ≤ 1000000) (hd : ∀ H, Same H1 H → H D = some (.lst ((us.filter p).map f)) → Q H) :
    ∃ W : Nat → Nat → Hp → Prop, (∃ m, W 0 m (upd H1 D (.lst []))) ∧ ∀ k m H, W k m H →
      (J.stop k H ∧ Q H) ∨ (J.go k H ∧ ∃ Nx : Hp → Prop, (∀ H', Nx H' → ∃ m', m' < m ∧ W (k + 1) m' H') ∧ ∀ x H', J.yld k H x H' → gName i x (wipe σ [i]) H' fun σ2 H2 => wipe σ2 [i] = wipe σ [i] ∧ tt σ2 H2 fun b H3 =>
        if b = true then te σ2 H3 fun y H4 => ∃ acc, H4 D = some (.lst acc) ∧ acc.length < sizeLine ∧ Nx (upd H4 D (.lst (acc ++ [y]))) else Nx H3) := by
  refine lc_inv Y (fun k acc H => Same H1 H ∧ acc = ((us.take k).filter p).map f) (fun k acc H h _ => hG H h.1) ⟨same_new hD1, rfl⟩ (fun k acc H x hI hD hx hacc hk => ?_) (by rw [List.length_map]; exact hl) (fun acc H hI hD _ => ?_)
  · obtain ⟨sm, ea⟩ := hI
    rw [List.getElem?_map] at hx
    cases hu : us[k]? with
    | none => rw [hu] at hx; cases hx
    | some u =>
      rw [hu] at hx
      cases hx
      have hm : u ∈ us := List.mem_of_getElem? hu
      have et : us.take (k + 1) = us.take k ++ [u] := by
        rw [List.take_add_one, hu]
        rfl
      refine hs H u sm hm _ (fun H3 s3 => ?_)
      by_cases hp : p u = true
      · rw [if_pos hp]
        refine he H3 u (sm.trans s3) hm hp _ (fun H4 s4 => ?_)
        refine lc_take (s4 _ _ (s3 _ _ hD)) hacc hk ⟨same_mut ((sm.trans s3).trans s4) hD1, ?_⟩
        rw [et, List.filter_append, List.map_append, ← ea, List.filter_cons, hp]
        rfl
      · rw [if_neg hp]
        refine lc_skip (s3 _ _ hD) hacc ⟨sm.trans s3, ?_⟩
        rw [et, List.filter_append, List.map_append, ← ea, List.filter_cons, if_neg hp]
        simp
  · obtain ⟨sm, ea⟩ := hI
    rw [List.length_map, List.take_length] at ea
    rw [ea] at hD
    exact hd H sm hD

/-! ### what may be asked -/
def evalV (f : Str → Bool) : V → Bool
  | .str x => f x
  | _ => false
/-- its signs are signs -/
def OkS (x : Str) : Prop := ∀ u ∈ TL.tl x, u < 1114112
/-- a text, not too long, or a thing that is no text -/
inductive Thing (H : Hp) : V → Prop where
  | str (x : Str) (h : x.length ≤ 100000) (o : OkS x) : Thing H (.str x)
  | non : Thing H .non
  | bl (b : Bool) : Thing H (.bl b)
  | int (i : Int) : Thing H (.int i)
  | lst (a : Addr) (xs : List V) (h : H a = some (.lst xs)) : Thing H (.ref a)
  | tup (a : Addr) (xs : List V) (h : H a = some (.tup xs)) : Thing H (.ref a)
  | dK (a : Addr) (kvs : List (Key × V)) (h : H a = some (.dK kvs)) : Thing H (.ref a)
theorem Thing.fr {a : Addr} {H H' : Hp} {v : V} (t : Thing H v) (n : v ≠ .ref a) (f : Fr a H H') : Thing H' v := by
  cases t with
  | str x h o => exact .str x h o
  | non => exact .non
  | bl b => exact .bl b
  | int i => exact .int i
  | lst b xs h => exact .lst b xs (f b _ (fun e => n (by rw [e])) h)
  | tup b xs h => exact .tup b xs (f b _ (fun e => n (by rw [e])) h)
  | dK b xs h => exact .dK b xs (f b _ (fun e => n (by rw [e])) h)
theorem Thing.same {H H' : Hp} {v : V} (t : Thing H v) (f : Same H H') : Thing H' v := by
  cases t with
  | str x h o => exact .str x h o
  | non => exact .non
  | bl b => exact .bl b
  | int i => exact .int i
  | lst b xs h => exact .lst b xs (f b _ h)
  | tup b xs h => exact .tup b xs (f b _ h)
  | dK b xs h => exact .dK b xs (f b _ h)
/-- isinstance(thing, str) -/
theorem Thing.isi {K : PySem.W.Frag} {H : Hp} {v : V} {Q : VK} (t : Thing H v) (h : Q (.bl (evalV (fun _ => true) v)) H) : rIsi K [v, .ty "str"] H Q := by
  cases t with
  | str x _ _ => exact ⟨_, _, .type "str", .type "str", true, rfl, .ty "str", .base (.str x), kit_ty (by decide +kernel), h⟩
  | non => exact ⟨_, _, .type "NoneType", .type "str", false, rfl, .ty "str", .base .non, kit_ty (by decide +kernel), h⟩
  | bl b => exact ⟨_, _, .type "bool", .type "str", false, rfl, .ty "str", .base (.bl b), kit_ty (by decide +kernel), h⟩
  | int i => exact ⟨_, _, .type "int", .type "str", false, rfl, .ty "str", .base (.int i), kit_ty (by decide +kernel), h⟩
  | lst a xs e => exact ⟨_, _, .type "list", .type "str", false, rfl, .ty "str", .base (.lst e), kit_ty (by decide +kernel), h⟩
  | tup a xs e => exact ⟨_, _, .type "tuple", .type "str", false, rfl, .ty "str", .base (.tup e), kit_ty (by decide +kernel), h⟩
  | dK a xs e => exact ⟨_, _, .type "dict", .type "str", false, rfl, .ty "str", .base (.dK e), kit_ty (by decide +kernel), h⟩
theorem Thing.cases {H : Hp} {v : V} (t : Thing H v) : (∃ x, v = .str x ∧ x.length ≤ 100000 ∧ OkS x) ∨ ∀ f, evalV f v = false := by
  cases t with
  | str x h o => exact .inl ⟨x, rfl, h, o⟩
  | _ => exact .inr fun _ => rfl
/-- the promise of a def that tells whether its argument is such a text -/
def spWord (f : Str → Bool) : Sp := fun vs H Q _ => ∃ v, vs = [v] ∧ Thing H v ∧ ∀ H', Same H H' → Q (.bl (evalV f v)) H'

/-! ### the words, as functions of a text -/
def HEX : Str := "0123456789abcdef"
def LET : Str := "abcdefghijklmnopqrstuvwxyz"
def RSG : Str := "abcdefghijklmnopqrstuvwxyz0123456789-"
def SSG : Str := "abcdefghijklmnopqrstuvwxyz0123456789._-"
def sgn (c : Nat) : V := .str ⟨#[c]⟩
def hasOnly (x y : Str) : Bool := (TL.tl x).all fun c => decide (c ∈ TL.tl y)
def dots (x : Str) : Bool := !(Builtin.Str.occurrences x (".." : Str) 0 x.length 1).isEmpty
def isWordF (y x : Str) : Bool := decide (1 ≤ x.length) && (decide (x.length ≤ 12) && hasOnly x y)
def isSegF (x : Str) : Bool := isWordF SSG x && (!decide (x = ".") && !dots x)
def segs (x : Str) : List Str := Txt.split x "/"
def isIdF (x : Str) : Bool := decide (x.length = 16) && hasOnly x HEX
def isPathF (x : Str) : Bool := decide ((segs x).length ≤ 6) && (segs x).all isSegF
def mostF (x : Str) : Nat := if (segs x)[0]? = some ("far" : Str) then 7 else 5
def isRefF (x : Str) : Bool := decide ((segs x).length ≤ mostF x) && (segs x).all (isWordF RSG)
def plainC (c : Nat) : Bool := !decide ([c] < [32]) && !decide ([126] < [c])
def isTextF (x : Str) : Bool := decide (x.length ≤ 2000) && (TL.tl x).all fun c => decide (c = 10) || plainC c
end Fk
namespace Fk
open PySem PySem.Spec PyProof.Rows L2
theorem sql_fr {K : PySem.W.Frag} {a b : Addr} {H H' : Hp} {xs : List V} (h : SqL K H b xs) (n : b ≠ a) (f : Fr a H H') : SqL K H' b xs := by
  rcases h with (h | ⟨o, h⟩) | h
  · exact .inl (.inl (f _ _ n h))
  · exact .inl (.inr ⟨o, f _ _ n h⟩)
  · exact .inr h
/-- a well of numbers at a, from which c were drawn -/
def Wl (H : Hp) (a : Addr) (c : Int) : Prop := 0 ≤ c ∧ ∃ x y : Int, H a = some (.lst [.int x, .int y, .int c])
theorem Wl.same {H H' : Hp} {a : Addr} {c : Int} (h : Wl H a c) (f : Same H H') : Wl H' a c := by
  obtain ⟨h0, x, y, e⟩ := h
  exact ⟨h0, x, y, f _ _ e⟩
/-- behind at most d draws from the well at a -/
def Aft (a : Addr) (c d : Int) (H : Hp) (R : Hp → Prop) : Prop := ∀ H' c', Fr a H H' → Wl H' a c' → c ≤ c' → c' ≤ c + d → R H'
theorem join_signs : ∀ cs : List Nat, TL.tl (Txt.join ("" : Str) (cs.map fun c => (⟨#[c]⟩ : Str))) = cs := by
  intro cs
  rw [TL.join_eq, TL.tl_join]
  have e : TL.tl ("" : Str) = [] := by decide +kernel
  rw [e]
  induction cs with
  | nil => rfl
  | cons c r ih =>
    cases r with
    | nil => rfl
    | cons d r =>
      show [c] ++ [] ++ TL.joinL [] (((d :: r).map fun c => (⟨#[c]⟩ : Str)).map TL.tl) = _
      rw [ih]
      rfl
theorem signs_sum : ∀ cs : List Nat, ((cs.map fun c => (⟨#[c]⟩ : Str)).map (·.length)).sum = cs.length
  | [] => rfl
  | c :: r => by
    rw [List.map_cons, List.map_cons, List.sum_cons, signs_sum r, List.length_cons]
    show 1 + _ = _
    omega
theorem atI_int {α : Type} {xs : List α} {r : Int} (h0 : 0 ≤ r) (h1 : r < xs.length) : ∃ v, v ∈ xs ∧ xs[r.toNat]? = some v ∧ atI xs r = some v := by
  have h2 : r.toNat < xs.length := by omega
  have e : r = ((r.toNat : Nat) : Int) := by omega
  refine ⟨xs[r.toNat], List.getElem_mem h2, List.getElem?_eq_getElem h2, ?_⟩
  have q := atI_nat (List.getElem?_eq_getElem h2)
  rw [← e] at q
  exact q
theorem Wl.upd {H : Hp} {a : Addr} {x y c : Int} (h : 0 ≤ c) : Wl (upd H a (.lst [.int x, .int y, .int c])) a c := ⟨h, x, y, upd_same⟩
theorem Fr.fr_new {a p : Addr} {H H' : Hp} {o : HO} (x : Fr a H H') (h : H' p = none) : Fr a H (L2.upd H' p o) := x.trans (Fr.new h)
theorem Wl.new {H : Hp} {a p : Addr} {c : Int} {o : HO} (h : Wl H a c) (n : H p = none) : Wl (L2.upd H p o) a c := h.same (same_new n)
theorem Wl.mut {H : Hp} {a p : Addr} {c : Int} {o : HO} (h : Wl H a c) (n : p ≠ a) : Wl (L2.upd H p o) a c := by
  obtain ⟨h0, x, y, e⟩ := h
  exact ⟨h0, x, y, by rw [upd_ne n.symm]; exact e⟩
theorem Wl.ne {H : Hp} {a p : Addr} {c : Int} (h : Wl H a c) (n : H p = none) : p ≠ a := by
  obtain ⟨h0, x, y, e⟩ := h
  exact (ne_of_none e n).symm
theorem Aft.start {a : Addr} {c d : Int} {H : Hp} {R : Hp → Prop} (h : Aft a c d H R) (w : Wl H a c) (hd : 0 ≤ d) : R H := h H c (Fr.refl a H) w (Int.le_refl _) (by omega)
theorem Aft.more {a : Addr} {c c1 d d1 : Int} {H H1 : Hp} {R : Hp → Prop} (h : Aft a c d H R) (f : Fr a H H1) (h1 : c ≤ c1) (h2 : c1 + d1 ≤ c + d) : Aft a c1 d1 H1 R := fun H' c' f' w h3 h4 => h H' c' (f.trans f') w (by omega) (by omega)
theorem yes_ {σ : L2.St} {H : Hp} {A B : Hp → Prop} (h : A H) : tYes σ H (fun b H3 => if b = true then A H3 else B H3) := by
  show (if true = true then A H else B H)
  rw [if_pos rfl]
  exact h
end Fk

set_option maxHeartbeats 4000000
namespace Fk
open PySem PySem.Spec PyProof.Rows L2
/-! ### texts that are drawn: what holds of them -/
theorem tl_cut (z : Str) (lo hi : Option Int) : TL.tl (cutS z lo hi) = ((TL.tl z).drop (HT.sIx z.length 0 lo)).take (HT.sIx z.length z.length hi - HT.sIx z.length 0 lo) := rfl
theorem cut_to (z : Str) (n : Nat) : TL.tl (cutS z none (some (n : Int))) = (TL.tl z).take n := by
  rw [tl_cut, HT.sIx_none, HT.sIx_nat, List.drop_zero, Nat.sub_zero, TL.len_tl]
  rcases Nat.le_total n (TL.tl z).length with h | h
  · rw [Nat.min_eq_left h]
  · rw [Nat.min_eq_right h, List.take_length, List.take_of_length_le h]
theorem cut_from (z : Str) (n : Nat) : TL.tl (cutS z (some (n : Int)) none) = (TL.tl z).drop n := by
  rw [tl_cut, HT.sIx_none, HT.sIx_nat, TL.len_tl]
  rcases Nat.le_total n (TL.tl z).length with h | h
  · rw [Nat.min_eq_left h, List.take_of_length_le (by rw [List.length_drop]; omega)]
  · rw [Nat.min_eq_right h, List.drop_length, List.take_nil, List.drop_of_length_le h]
theorem cutS_le (z : Str) (lo hi : Option Int) : (cutS z lo hi).length ≤ z.length := cutS_length z lo hi
def LTS : Str := "abcdefghijklmnopqrstuvwxyz0123456789_-"
theorem dots_count {x : Str} (h : dots x = true) : 2 ≤ (TL.tl x).count 46 := by
  obtain ⟨i, _, h2⟩ := (StrLaws.found_iff x (".." : Str)).mp h
  rw [StrLaws.subAt_eq] at h2
  have e : ((TL.tl x).drop i).take 2 = [46, 46] := by
    have e1 := eq_of_beq h2
    have e2 : (".." : Str).length = 2 := by decide +kernel
    have e3 : (".." : Str).cps.toList = [46, 46] := by decide +kernel
    rw [e2, e3] at e1
    exact e1
  have s : List.Sublist [46, 46] (TL.tl x) := by
    rw [← e]
    exact (List.take_sublist _ _).trans (List.drop_sublist _ _)
  exact s.count_le 46
theorem has_only {x y : Str} (h : ∀ u ∈ TL.tl x, u ∈ TL.tl y) : hasOnly x y = true := by
  unfold hasOnly
  rw [List.all_eq_true]
  exact fun u hu => decide_eq_true (h u hu)
theorem dot_tl : TL.tl ("." : Str) = [46] := by decide +kernel
theorem seg_of {x : Str} (h : ∀ u ∈ TL.tl x, u ∈ TL.tl SSG) (h1 : 1 ≤ x.length) (h2 : x.length ≤ 12) (h3 : (TL.tl x).count 46 ≤ 1) (h4 : (TL.tl x).count 46 = 0 ∨ 2 ≤ x.length) : isSegF x = true := by
  unfold isSegF isWordF
  have d : dots x = false := Bool.eq_false_iff.mpr fun z => by
    have := dots_count z
    omega
  have n : ¬ x = "." := fun e => by
    have e1 : TL.tl x = [46] := by rw [e]; exact dot_tl
    rw [TL.len_tl, e1] at h4
    rcases h4 with h4 | h4
    · exact absurd h4 (by decide)
    · exact absurd h4 (by decide)
  rw [decide_eq_true h1, decide_eq_true h2, has_only h, decide_eq_false n, d]
  rfl
theorem lts_ssg : ∀ u ∈ TL.tl LTS, u ∈ TL.tl SSG := by decide +kernel
theorem lts_dot : 46 ∉ TL.tl LTS := by decide +kernel
theorem seg_plain {x : Str} (h : ∀ u ∈ TL.tl x, u ∈ TL.tl LTS) (h1 : 1 ≤ x.length) (h2 : x.length ≤ 12) : isSegF x = true := by
  have c0 : (TL.tl x).count 46 = 0 := List.count_eq_zero.mpr fun z => lts_dot (h _ z)
  exact seg_of (fun u hu => lts_ssg u (h u hu)) h1 h2 (by omega) (.inl c0)
theorem seg_dotted {x : Str} (n : Nat) (h : ∀ u ∈ TL.tl x, u ∈ TL.tl LTS) (h1 : 1 ≤ x.length) (h2 : x.length < 12) :
    isSegF ((cutS x none (some (n : Int)) ++ ("." : Str)) ++ cutS x (some (n : Int)) none) = true ∧ ((cutS x none (some (n : Int)) ++ ("." : Str)) ++ cutS x (some (n : Int)) none).length ≤ 12 := by
  have e : TL.tl ((cutS x none (some (n : Int)) ++ ("." : Str)) ++ cutS x (some (n : Int)) none) = ((TL.tl x).take n ++ [46]) ++ (TL.tl x).drop n := by
    rw [TL.tl_append, TL.tl_append, cut_to, cut_from, dot_tl]
  have c0 : (TL.tl x).count 46 = 0 := List.count_eq_zero.mpr fun z => lts_dot (h _ z)
  have len : (((TL.tl x).take n ++ [46]) ++ (TL.tl x).drop n).length = x.length + 1 := by
    have := congrArg List.length (List.take_append_drop n (TL.tl x))
    rw [List.length_append] at this
    rw [List.length_append, List.length_append, List.length_singleton, TL.len_tl]
    omega
  have cnt : (((TL.tl x).take n ++ [46]) ++ (TL.tl x).drop n).count 46 = 1 := by
    have := congrArg (List.count 46) (List.take_append_drop n (TL.tl x))
    rw [List.count_append, c0] at this
    rw [List.count_append, List.count_append]
    have : [46].count 46 = 1 := rfl
    omega
  refine ⟨seg_of (fun u hu => ?_) (by rw [TL.len_tl, e, len]; omega) (by rw [TL.len_tl, e, len]; omega) (by rw [e, cnt]; exact Nat.le_refl _) (.inr (by rw [TL.len_tl, e, len]; omega)), by rw [TL.len_tl, e, len]; omega⟩
  rw [e] at hu
  rcases List.mem_append.mp hu with hu | hu
  · rcases List.mem_append.mp hu with hu | hu
    · exact lts_ssg u (h u (List.mem_of_mem_take hu))
    · rw [List.mem_singleton.mp hu]
      decide +kernel
  · exact lts_ssg u (h u (List.mem_of_mem_drop hu))
theorem slash_tl : TL.tl ("/" : Str) = [47] := by decide +kernel
theorem seg_slash {x : Str} (h : isSegF x = true) : 47 ∉ TL.tl x := by
  unfold isSegF isWordF hasOnly at h
  simp only [Bool.and_eq_true] at h
  have h1 := h.1.2.2
  rw [List.all_eq_true] at h1
  intro z
  have h2 := of_decide_eq_true (h1 47 z)
  exact absurd h2 (by decide +kernel)
theorem seg_len {x : Str} (h : isSegF x = true) : x.length ≤ 12 := by
  unfold isSegF isWordF at h
  simp only [Bool.and_eq_true] at h
  exact of_decide_eq_true h.1.2.1
theorem path_of {ps : List Str} (h0 : ps ≠ []) (h1 : ps.length ≤ 6) (h : ∀ p ∈ ps, isSegF p = true) : isPathF (Txt.join "/" ps) = true := by
  unfold isPathF segs
  rw [TL.split_join (S := []) slash_tl (by decide +kernel) h0 fun p hp => seg_slash (h p hp), decide_eq_true h1, List.all_eq_true.mpr h]
  rfl
theorem join_len (y : Str) : ∀ ps : List Str, (∀ p ∈ ps, p.length ≤ 12) → (Txt.join y ps).length ≤ ps.length * (12 + y.length) := by
  intro ps h
  rw [TL.join_eq]
  refine Nat.le_trans (StrLaws.join_length_le y ps) ?_
  rw [Nat.mul_add]
  refine Nat.add_le_add_right ?_ _
  induction ps with
  | nil => exact Nat.le_refl _
  | cons p r ih =>
    rw [List.map_cons, List.sum_cons, List.length_cons, Nat.succ_mul]
    have := ih fun q hq => h q (List.mem_cons_of_mem _ hq)
    have := h p List.mem_cons_self
    omega
theorem sum_len : ∀ ps : List Str, (∀ p ∈ ps, p.length ≤ 12) → (ps.map (·.length)).sum ≤ ps.length * 12 := by
  intro ps h
  induction ps with
  | nil => exact Nat.le_refl _
  | cons p r ih =>
    rw [List.map_cons, List.sum_cons, List.length_cons, Nat.succ_mul]
    have := ih fun q hq => h q (List.mem_cons_of_mem _ hq)
    have := h p List.mem_cons_self
    omega
def ALL : Str := (" !\"#$&'()*+,-./0123456789:;<=>?@ABCDEFGHIJKLMNOPQRSTUVWXYZ[]^_`abcdefghijklmnopqrstuvwxyz{|}~" : Str) ++ ("\\" : Str) ++ ("\n" : Str)
theorem all_plain : ∀ u ∈ TL.tl ALL, (decide (u = 10) || plainC u) = true := by decide +kernel
theorem text_of {x : Str} (h : ∀ u ∈ TL.tl x, u ∈ TL.tl ALL) (h1 : x.length ≤ 2000) : isTextF x = true := by
  unfold isTextF
  rw [decide_eq_true h1, List.all_eq_true.mpr fun u hu => all_plain u (h u hu)]
  rfl
theorem id_of {x : Str} (h : ∀ u ∈ TL.tl x, u ∈ TL.tl HEX) (h1 : x.length = 16) : isIdF x = true := by
  unfold isIdF
  rw [decide_eq_true h1, has_only h]
  rfl
theorem filt_all {α : Type} (l : List α) : l.filter (fun _ => true) = l := List.filter_eq_self.mpr fun _ _ => rfl
theorem of_ev {f : Str → Bool} {x : Str} {b : Bool} {Q : VK} {H : Hp} (q : Q (.bl (evalV f (.str x))) H) (e : f x = b) : Q (.bl b) H := by
  rw [← e]
  exact q
theorem of_ev0 {f : Str → Bool} {v : V} {Q : VK} {H : Hp} (hn : ∀ f, evalV f v = false) (q : Q (.bl (evalV f v)) H) : Q (.bl false) H := by
  rw [← hn f]
  exact q
theorem segs_ne (x : Str) : segs x ≠ [] := by
  intro h
  have e := TL.split_spl x "/" (by decide +kernel) (TL.kind_ok (by decide +kernel))
  have h' : Txt.split x "/" = [] := h
  rw [h'] at e
  have e2 : ∀ l k acc, TL.spl (TL.tl "/") k acc l ≠ [] := by
    intro l
    induction l with
    | nil => intro k acc h; rw [TL.spl_nil] at h; cases h
    | cons c r ih =>
      intro k acc h
      cases k with
      | zero =>
        unfold TL.spl at h
        split at h
        · cases h
        · exact ih _ _ h
      | succ k => exact ih _ _ h
  exact e2 _ _ _ e.symm
theorem segs_len (x : Str) (h : x.length ≤ 100000) : (segs x).length ≤ 100001 ∧ ∀ y ∈ segs x, y.length ≤ 100000 := by
  have e := TL.split_spl x "/" (by decide +kernel) (TL.kind_ok (by decide +kernel))
  have e2 : ∀ l k acc, (TL.spl (TL.tl "/") k acc l).length ≤ l.length + 1 ∧ ∀ y ∈ TL.spl (TL.tl "/") k acc l, y.length ≤ acc.length + l.length := by
    intro l
    induction l with
    | nil => intro k acc; rw [TL.spl_nil]; exact ⟨Nat.le_refl _, fun y hy => by rw [List.mem_singleton.mp hy]; simp⟩
    | cons c r ih =>
      intro k acc
      cases k with
      | zero =>
        unfold TL.spl
        split
        · obtain ⟨i1, i2⟩ := ih ((TL.tl "/").length - 1) []
          refine ⟨by simp only [List.length_cons]; omega, fun y hy => ?_⟩
          rcases List.mem_cons.mp hy with rfl | hy
          · simp only [List.length_cons]; omega
          · have := i2 y hy
            simp only [List.length_cons, List.length_nil] at this ⊢
            omega
        · obtain ⟨i1, i2⟩ := ih 0 (acc ++ [c])
          refine ⟨by simp only [List.length_cons]; omega, fun y hy => ?_⟩
          have := i2 y hy
          simp only [List.length_cons, List.length_append, List.length_nil] at this ⊢
          omega
      | succ k =>
        obtain ⟨i1, i2⟩ := ih k acc
        unfold TL.spl
        refine ⟨by simp only [List.length_cons]; omega, fun y hy => ?_⟩
        have := i2 y hy
        simp only [List.length_cons] at this ⊢
        omega
  obtain ⟨i1, i2⟩ := e2 (TL.tl x) 0 []
  rw [← e] at i1 i2
  rw [List.length_map, ← TL.len_tl] at i1
  refine ⟨?_, fun y hy => ?_⟩
  · show (Txt.split x "/").length ≤ _
    omega
  · have := i2 (TL.tl y) (List.mem_map_of_mem hy)
    rw [← TL.len_tl, ← TL.len_tl] at this
    simp at this
    omega
theorem segs_ok (x : Str) (h : OkS x) : ∀ y ∈ segs x, OkS y := by
  have e := TL.split_spl x "/" (by decide +kernel) (TL.kind_ok (by decide +kernel))
  have e2 : ∀ l k acc, (∀ u ∈ l, u < 1114112) → (∀ u ∈ acc, u < 1114112) → ∀ y ∈ TL.spl (TL.tl "/") k acc l, ∀ u ∈ y, u < 1114112 := by
    intro l
    induction l with
    | nil =>
      intro k acc h1 h2 y hy
      rw [TL.spl_nil] at hy
      rw [List.mem_singleton.mp hy]
      exact h2
    | cons c r ih =>
      intro k acc h1 h2 y hy
      have h3 : ∀ u ∈ r, u < 1114112 := fun u hu => h1 u (List.mem_cons_of_mem _ hu)
      cases k with
      | zero =>
        unfold TL.spl at hy
        split at hy
        · rcases List.mem_cons.mp hy with rfl | hy
          · exact h2
          · exact ih _ _ h3 (fun u hu => (List.not_mem_nil hu).elim) y hy
        · refine ih _ _ h3 (fun u hu => ?_) y hy
          rcases List.mem_append.mp hu with hu | hu
          · exact h2 u hu
          · rw [List.mem_singleton.mp hu]
            exact h1 c List.mem_cons_self
      | succ k => exact ih _ _ h3 h2 y hy
  intro y hy
  have i2 := e2 (TL.tl x) 0 [] h (fun u hu => (List.not_mem_nil hu).elim) (TL.tl y)
  rw [← e] at i2
  exact i2 (List.mem_map_of_mem hy)
theorem dp_nil {K : PySem.W.Frag} {H : Hp} {p : Addr} (h : H p = some (.lst [])) : Dp K H (.ref p) (.list []) := .lst (SqL.of h) .nil
theorem dp_strs {K : PySem.W.Frag} {H : Hp} : ∀ ys : List Str, DpAll K H (ys.map V.str) (ys.map PyData.str)
  | [] => .nil
  | y :: r => .cons (.str y) (dp_strs r)
theorem strOk_of {x : Str} (h : OkS x) : PyData.strOk x = true := by
  unfold PyData.strOk
  rw [← Array.all_toList, List.all_eq_true]
  exact fun u hu => decide_eq_true (h u hu)
theorem lay_strs : ∀ ys : List Str, (∀ y ∈ ys, OkS y) → PyData.canLayAll0 (ys.map PyData.str) = true
  | [], _ => rfl
  | y :: r, h => by simp [PyData.canLayAll0, PyData.canLay0, lay_strs r fun z hz => h z (List.mem_cons_of_mem _ hz), strOk_of (h y List.mem_cons_self)]
theorem depth_strs : ∀ ys : List Str, PyData.depthAll (ys.map PyData.str) = 0
  | [] => rfl
  | _ :: r => by simp [PyData.depthAll, PyData.depth, depth_strs r]
theorem shaped_strs (ys : List Str) (h : ∀ y ∈ ys, OkS y) : SeqAt.shaped (.list (ys.map PyData.str)) = true := by
  simp [SeqAt.shaped, PyData.canLay0, PyData.depth, lay_strs ys h, depth_strs]
theorem shaped_nil : SeqAt.shaped (.list []) = true := shaped_strs [] fun _ h => (List.not_mem_nil h).elim
theorem eqv_nil (ys : List Str) : PyData.eqv (.list (ys.map PyData.str)) (.list []) = ys.isEmpty := by
  cases ys with
  | nil => simp [PyData.eqv, PyData.eqvAll]
  | cons y r => simp [PyData.eqv, PyData.eqvAll]
theorem ifF {c A B : Prop} [Decidable c] (h : ¬ c) (b : B) : if c then A else B := by
  rw [if_neg h]
  exact b
theorem ifT {c A B : Prop} [Decidable c] (h : c) (b : A) : if c then A else B := by
  rw [if_pos h]
  exact b
/-- a list of texts is asked for being empty -/
theorem ask_nil {K : PySem.W.Frag} {H' : Hp} {p q : Addr} {ys : List Str} {Q : VK} (ho : ∀ y ∈ ys, OkS y) (h : H' p = some (.lst (ys.map V.str))) (hq : H' q = some (.lst [])) (k : Q (.bl ys.isEmpty) H') : rEqD K (.ref p) (.ref q) H' Q :=
  ⟨_, _, .lst (SqL.of h) (dp_strs ys), dp_nil hq, shaped_strs ys ho, shaped_nil, by rw [eqv_nil]; exact k⟩
theorem filt_empty {α : Type} (l : List α) (p : α → Bool) : (l.filter fun u => !p u).isEmpty = l.all p := by
  induction l with
  | nil => rfl
  | cons a r ih =>
    rw [List.filter_cons, List.all_cons]
    cases h : p a with
    | true => simpa [h] using ih
    | false => simp [h]
theorem map_sgn (cs : List Nat) : cs.map sgn = (cs.map fun c => (⟨#[c]⟩ : Str)).map V.str := by
  rw [List.map_map]
  rfl
theorem ok_sgn {c : Nat} (h : c < 1114112) : OkS ⟨#[c]⟩ := fun u hu => by
  have e : u = c := List.mem_singleton.mp hu
  rw [e]
  exact h
theorem ok_sgns {x : Str} (h : OkS x) (p : Nat → Bool) : ∀ y ∈ ((TL.tl x).filter p).map fun c => (⟨#[c]⟩ : Str), OkS y := fun y hy => by
  obtain ⟨c, hc, rfl⟩ := List.mem_map.mp hy
  exact ok_sgn (h c ((List.mem_filter.mp hc).1))
end Fk
namespace Fk
open PySem PySem.Spec PyProof.Rows L2
theorem ok_app {x y : Str} (hx : OkS x) (hy : OkS y) : OkS (x ++ y) := fun u hu => by
  rw [TL.tl_append] at hu
  rcases List.mem_append.mp hu with hu | hu
  · exact hx u hu
  · exact hy u hu
theorem ok_cut {x : Str} (hx : OkS x) (lo hi : Option Int) : OkS (cutS x lo hi) := fun u hu => by
  rw [tl_cut] at hu
  exact hx u (List.mem_of_mem_drop (List.mem_of_mem_take hu))
theorem ok_rep {x : Str} (hx : OkS x) (n : Nat) : OkS (repS x n) := fun u hu => by
  rw [tl_rep] at hu
  obtain ⟨l, hl, hu⟩ := List.mem_flatten.mp hu
  rw [(List.mem_replicate.mp hl).2] at hu
  exact hx u hu
theorem ok_join {y : Str} (hy : OkS y) {ps : List Str} (h : ∀ p ∈ ps, OkS p) : OkS (Txt.join y ps) := fun u hu => by
  rw [TL.join_eq, TL.tl_join] at hu
  have e : ∀ ls : List (List Nat), (∀ l ∈ ls, ∀ u ∈ l, u < 1114112) → ∀ u ∈ TL.joinL (TL.tl y) ls, u < 1114112 := by
    intro ls
    induction ls with
    | nil => intro _ u hu; exact (List.not_mem_nil hu).elim
    | cons l r ih =>
      intro h u hu
      cases r with
      | nil => exact h l List.mem_cons_self u hu
      | cons m r =>
        have hu : u ∈ l ++ (TL.tl y ++ TL.joinL (TL.tl y) (m :: r)) := hu
        rcases List.mem_append.mp hu with hu | hu
        · exact h l List.mem_cons_self u hu
        · rcases List.mem_append.mp hu with hu | hu
          · exact hy u hu
          · exact ih (fun l hl => h l (List.mem_cons_of_mem _ hl)) u hu
  refine e _ (fun l hl => ?_) u hu
  obtain ⟨p, hp, rfl⟩ := List.mem_map.mp hl
  exact h p hp
theorem ok_by {x : Str} (h : (TL.tl x).all (fun u => decide (u < 1114112)) = true) : OkS x := fun u hu => of_decide_eq_true (List.all_eq_true.mp h u hu)
theorem ok_sub {x y : Str} (h : ∀ u ∈ TL.tl x, u ∈ TL.tl y) (hy : OkS y) : OkS x := fun u hu => hy u (h u hu)
theorem ok_hex : OkS HEX := ok_by (by decide +kernel)
theorem ok_ssg : OkS SSG := ok_by (by decide +kernel)
theorem ok_rsg : OkS RSG := ok_by (by decide +kernel)
theorem ok_let : OkS LET := ok_by (by decide +kernel)
theorem ok_all : OkS ALL := ok_by (by decide +kernel)
theorem ok_slash : OkS "/" := ok_by (by decide +kernel)
theorem only_sub {x y : Str} (h : hasOnly x y = true) : ∀ u ∈ TL.tl x, u ∈ TL.tl y := fun u hu => of_decide_eq_true (List.all_eq_true.mp h u hu)
theorem ok_seg {x : Str} (h : isSegF x = true) : OkS x := by
  unfold isSegF isWordF at h
  simp only [Bool.and_eq_true] at h
  exact ok_sub (only_sub h.1.2.2) ok_ssg
theorem word_of {x y : Str} (h : ∀ u ∈ TL.tl x, u ∈ TL.tl y) (h1 : 1 ≤ x.length) (h2 : x.length ≤ 12) : isWordF y x = true := by
  unfold isWordF
  rw [decide_eq_true h1, decide_eq_true h2, has_only h]
  rfl
theorem Same.of_fr {a : Addr} {H H1 H2 : Hp} (h : H a = none) (s : Same H H1) (f : Fr a H1 H2) : Same H H2 := fun b o e => f b o (ne_of_none e h) (s b o e)
theorem def_ne {K : PySem.W.Frag} {mg : Str → Option Value} {x y : Str} {st st' : Stmt} {f f' : Addr} {fd fd' : FuncData} (D : C8.Def K mg x st f fd) (D' : C8.Def K mg y st' f' fd') (h : x ≠ y) : f ≠ f' := by
  intro e
  subst e
  obtain ⟨oc, od, dV, kV, doc, pm, an, cdv, ct, osl, rfl, lk, _⟩ := D.fn.ex
  obtain ⟨oc', od', dV', kV', doc', pm', an', cdv', ct', osl', rfl, lk', _⟩ := D'.fn.ex
  rw [lk] at lk'
  have e1 := Option.some.inj lk'
  injection e1 with e1 e2 e3 e4
  injection e3 with e3
  exact h (congrArg FuncData.name e3)
end Fk
namespace Fk
open PySem PySem.Spec PyProof.Rows L2
theorem plain_lt {c : Nat} (h : (decide (c = 10) || plainC c) = true) : c < 1114112 := by
  rcases Bool.or_eq_true_iff.mp h with h | h
  · have := of_decide_eq_true h
    omega
  · unfold plainC at h
    have h2 := (Bool.and_eq_true_iff.mp h).2
    have h3 : ¬ ([126] < [c]) := fun z => by
      rw [decide_eq_true z] at h2
      exact absurd h2 (by decide)
    have h4 : ¬ 126 < c := fun z => h3 (List.Lex.rel z)
    omega
theorem ok_text {x : Str} (h : isTextF x = true) : OkS x := fun u hu => plain_lt (List.all_eq_true.mp (Bool.and_eq_true_iff.mp h).2 u hu)
end Fk

set_option maxHeartbeats 4000000
/-! strip(signs), isascii, replace, isprintable: what they say of the words; a def that begins with a token out. -/
namespace Fk
open PySem PySem.Spec PyProof.Rows L2
section
variable {X : Cx} {a b o : Expr} {rest : List Expr} {ta tb t to : TE} {pos : Pos}
theorem pet_one {op} (h : PET X a t) : PET X (.BoolOp op [a] pos) t := fun pins s σ H Q h0 I hw => BoolOp_one (h pins s σ H Q h0 I hw)
theorem pet_and (ha : PE X a ta) (hb : PET X (.BoolOp .And (b :: rest) pos) tb) : PET X (.BoolOp .And (a :: b :: rest) pos) (tAndV ta tb) := by
  intro pins s σ H Q h0 I h
  refine BoolOp_and (wpAny_mono (PySem.wpAny_toks (ha.run pins s σ H _ I h)) (fun v s1 q => ?_) fun _ _ z => z.2)
  obtain ⟨hk, x, H1, I1, r1, q1⟩ := q
  obtain ⟨c, rfl, q1⟩ := q1
  cases r1
  refine wpAny_truthy_bool ?_
  cases c with
  | true => exact hb pins s1 σ H1 Q (by omega) I1 q1
  | false => exact ⟨.bl false, H1, I1, rfl, q1⟩
theorem pet_bm0 {T id name : String} {apos cpos : Pos} {r : V → List V → Hp → VK → Prop} (pa : PlainAttrs T) (slot : Slot T name id) (hty : typeOf (.builtin id) = pure (.type "method_descriptor")) (hm : MtR X id r) (ho : PET X o to)
    (hbase : attributeBase o name X.env (eval o X.env) = eval o X.env := by rfl) (hline : (apos.endLine == cpos.line) = true := by rfl) : PET X (.Call (.Attribute o name apos) [] [] cpos) (tBM0 X.K T r to) := by
  intro pins s σ H Q h0 I h
  refine wpAny_Call_method0_late hbase hline (thn (ho pins s σ H _ h0 I h) fun v s1 ⟨x, H1, I1, r1, ty, q1⟩ => ?_)
  obtain ⟨h1, h2⟩ := tyV_is I1 r1 ty
  exact ⟨T, id, pa, slot, hty, h1, h2, Calls.callWith_builtin rfl (PySem.evalArgs_none (hm pins s1 σ H1 x [] v [] Q I1 r1 .nil q1))⟩
end
section
variable {P : Program} {w : World} {K : PySem.W.Frag} {mg : Str → Option Value} {base : Heap}
/-- a def whose parameters are no cells: a token is out when its body begins -/
theorem cal_ofT {x : Str} {st : Stmt} {N ps : List Str} {k : Nat} {sp : Sp} (D : IsDef K mg x st) (S : FnScope N ps (C8.fnScope st))
    (hnc : ∀ y ∈ (C8.fnScope st).names, y.2 ≠ .cell) (hps : 1 ≤ ps.length)
    (hb : ∀ (kV doc pm : Value) (an : Option Addr) (cdv ct : Value) (us : List Value), us.length = ps.length → bindArgs (PySem.W.fnOf x x (C8.fnArgs st) (C8.fnBody st) (C8.fnScope st) .none kV doc pm an cdv ct) ⟨us, []⟩ = pure (ps.zip us))
    (len : ∀ vs H Q E, sp vs H Q E → vs.length = ps.length)
    (hbody : ∀ (f : Addr) (cdv : Value) (A : Around) (outer : List Env) (s : Shared) (H : Hp) (vs : List V) (Q : VK) (E : XK), Room k (A.deeper (envOfC x (C8.fnScope st) s.heap.objs.size f cdv)) → sp vs H Q E →
      ∃ t, PSsT (cxOf C8.CX0 P w K mg base N x (C8.fnScope st) f cdv A outer s H E) (C8.fnBody st) t ∧ t { nx := fun _ H' => Q .non H', rt := Q } (start N vs) H) : C8.Cal P w K mg base (k + 1) x sp [] := by
  obtain ⟨f, fd, D, df⟩ := D
  obtain ⟨oc, od, dV, kV, doc, pm, an, cdv, ct, osl, rfl, lk, hcd⟩ := D.fn.ex
  have e : dV = .none := df
  subst e
  exact ⟨f, _, ps, [], fn_ofT lk hcd S hnc hps len (hbody f cdv), D.mgf, D.kp, .all (hb kV doc pm an cdv ct), .nil⟩
end

/-! ### what strip leaves -/
theorem tw_all {p : Nat → Bool} {l : List Nat} (h : ∀ c ∈ l, p c = true) : l.takeWhile p = l := by
  induction l with
  | nil => rfl
  | cons c r ih =>
    rw [List.takeWhile_cons, h c List.mem_cons_self, if_pos rfl, ih fun d hd => h d (List.mem_cons_of_mem _ hd)]
theorem tw_short {p : Nat → Bool} {l : List Nat} {c : Nat} (h : p c = false) : ((l ++ [c]).takeWhile p).length ≤ l.length := by
  induction l with
  | nil => simp [List.takeWhile_cons, h]
  | cons d r ih =>
    rw [List.cons_append, List.takeWhile_cons]
    cases hd : p d with
    | true => simpa using ih
    | false => simp
theorem dw_head {p : Nat → Bool} : ∀ {l : List Nat}, (∃ c ∈ l, p c = false) → ∃ c r, l.drop (l.takeWhile p).length = c :: r ∧ p c = false ∧ (l.takeWhile p).length + r.length + 1 = l.length
  | [], h => by
    obtain ⟨c, hc, _⟩ := h
    exact (List.not_mem_nil hc).elim
  | d :: r, h => by
    cases hd : p d with
    | false => exact ⟨d, r, by simp [List.takeWhile_cons, hd], hd, by simp [List.takeWhile_cons, hd]⟩
    | true =>
      have h' : ∃ c ∈ r, p c = false := by
        obtain ⟨c, hc, q⟩ := h
        rcases List.mem_cons.mp hc with rfl | hc
        · rw [hd] at q
          cases q
        · exact ⟨c, hc, q⟩
      obtain ⟨c, r', e1, e2, e3⟩ := dw_head h'
      refine ⟨c, r', ?_, e2, ?_⟩
      · rw [List.takeWhile_cons, hd, if_pos rfl, List.length_cons, List.drop_succ_cons, e1]
      · rw [List.takeWhile_cons, hd, if_pos rfl, List.length_cons, List.length_cons]
        omega
theorem strip_tl (g : Nat → Bool) (x : Str) : TL.tl (Txt.stripBy g true true x) = ((TL.tl x).drop ((TL.tl x).takeWhile g).length).take (x.length - (((TL.tl x).drop ((TL.tl x).takeWhile g).length).reverse.takeWhile g).length - ((TL.tl x).takeWhile g).length) := by
  rw [PySem.W.stripBy_eq]
  exact StrLaws.strSub_toList x _ _
theorem strip_none (x y : Str) : decide (V.str (Txt.stripChars x y) = V.str "") = hasOnly x y := by
  have e0 : TL.tl ("" : Str) = [] := by decide +kernel
  have hg : ∀ c, y.cps.contains c = decide (c ∈ TL.tl y) := fun c => by
    rw [Bool.eq_iff_iff]
    simp [TL.tl]
  have key : (Txt.stripChars x y = ("" : Str)) ↔ hasOnly x y = true := by
    have et := strip_tl (fun c => y.cps.contains c) x
    constructor
    · intro h
      refine Bool.not_eq_false _ ▸ fun hf => ?_
      have hx : ∃ c ∈ TL.tl x, y.cps.contains c = false := by
        refine Classical.byContradiction fun z => ?_
        have : hasOnly x y = true := by
          unfold hasOnly
          refine List.all_eq_true.mpr fun c hc => ?_
          rw [← hg]
          cases q : y.cps.contains c with
          | true => rfl
          | false => exact absurd ⟨c, hc, q⟩ z
        rw [this] at hf
        cases hf
      obtain ⟨c, r, e1, e2, e3⟩ := dw_head (p := fun c => y.cps.contains c) hx
      have h' : Txt.stripBy (fun c => y.cps.contains c) true true x = ("" : Str) := h
      rw [h', e0, e1] at et
      have hs := tw_short (p := fun c => y.cps.contains c) (l := r.reverse) e2
      rw [List.length_reverse, ← List.reverse_cons] at hs
      rw [← TL.len_tl] at e3
      have hp : ∃ m, x.length - (((c :: r).reverse.takeWhile fun c => y.cps.contains c)).length - ((TL.tl x).takeWhile fun c => y.cps.contains c).length = m + 1 := ⟨x.length - (((c :: r).reverse.takeWhile fun c => y.cps.contains c)).length - ((TL.tl x).takeWhile fun c => y.cps.contains c).length - 1, by omega⟩
      obtain ⟨m, hm⟩ := hp
      rw [hm, List.take_succ_cons] at et
      cases et
    · intro h
      have hx : ∀ c ∈ TL.tl x, y.cps.contains c = true := fun c hc => by
        rw [hg]
        unfold hasOnly at h
        exact List.all_eq_true.mp h c hc
      apply TL.ext_tl
      rw [e0]
      refine Eq.trans et ?_
      rw [tw_all hx, List.drop_length, List.take_nil]
  rw [Bool.eq_iff_iff, decide_eq_true_iff, ← key]
  exact ⟨fun h => V.str.inj h, fun h => by rw [h]⟩

/-! ### texts of plain signs -/
theorem plain_of {c : Nat} (h : c < 128) : plainC c = Unicode.isPrintable c := by
  have : ∀ c < 128, plainC c = Unicode.isPrintable c := by decide +kernel
  exact this c h
theorem plain_far {c : Nat} (h : ¬ c < 128) : plainC c = false := by
  have h2 : [126] < [c] := List.Lex.rel (by omega)
  unfold plainC
  rw [decide_eq_true h2]
  simp
theorem repl_one (k : Nat) : ∀ l : List Nat, StrLaws.replL [k] [] l = l.filter fun c => !decide (c = k)
  | [] => by rw [StrLaws.replL_nil]; rfl
  | c :: r => by
    by_cases h : c = k
    · rw [StrLaws.replL_hit (by simp) (by simp [h])]
      rw [List.filter_cons, h]
      simp [repl_one k r]
    · rw [StrLaws.replL_miss (by simp [h]), repl_one k r, List.filter_cons]
      simp [h]
def plainT (x : Str) : Bool := Txt.isascii x && Txt.isprintable (Txt.replace x "\n" "")
theorem plain_text (x : Str) : plainT x = (TL.tl x).all fun c => decide (c = 10) || plainC c := by
  have e10 : ("\n" : Str).cps.toList = [10] := by decide +kernel
  have e00 : ("" : Str).cps.toList = [] := by decide +kernel
  have hr : (Txt.replace x "\n" "").cps.toList = (TL.tl x).filter fun c => !decide (c = 10) := by
    rw [StrLaws.replace_list (by decide +kernel), e10, e00, repl_one]
  unfold plainT Txt.isascii Txt.isprintable
  rw [← Array.all_toList, ← Array.all_toList, hr]
  show ((TL.tl x).all _ && _) = _
  induction TL.tl x with
  | nil => rfl
  | cons c r ih =>
    rw [List.all_cons, List.all_cons, ← ih, List.filter_cons]
    by_cases h1 : c < 128
    · rw [plain_of h1]
      by_cases h2 : c = 10
      · simp [h1, h2]
      · simp [h1, h2]
        cases Unicode.isPrintable c <;> simp
    · rw [plain_far h1]
      have h2 : ¬ c = 10 := by omega
      simp [h1, h2]
end Fk

set_option maxHeartbeats 4000000
/-! An error of an own class as a value: made with keywords or without, its base any whose making is the plain one. -/
namespace Fk
open PySem PySem.Spec L2
open Builtin
section
variable {prog : Program} {w : World} {A : Around} {R : Result → Shared → Prop} {h : Heap} {g : Array GenState} {d : Drawn} {t : Nat} {os : OsState}
variable {nm q : Str} {C N : Addr} {bs bm bmB : List Value} {hdct : Bool} {sn : List Str} {sub : List Value} {ab : Bool} {col : Option Bool} {dd : Option Addr} {k0 k1 k2 k3 k5 : Option Value} {B newId initId : String} {kws : List (Str × Value)}
/-- what the class's own list of bases must say -/
structure BmOk (B : String) (bm : List Value) : Prop where
  b : bm.contains (.type B) = true
  a : bm.contains (.type "AttributeError") = false
  n : bm.contains (.type "NameError") = false
theorem BmOk.b' (o : BmOk B bm) : (Value.ref C :: bm).contains (.type B) = true := by
  have := o.b
  simp only [List.contains_cons, this, Bool.or_true]
theorem BmOk.a' (o : BmOk B bm) : (Value.ref C :: bm).contains (.type "AttributeError") = false := by
  have := o.a
  rw [List.contains_cons, this] <;> rfl
theorem BmOk.n' (o : BmOk B bm) : (Value.ref C :: bm).contains (.type "NameError") = false := by
  have := o.n
  rw [List.contains_cons, this] <;> rfl
theorem xcheck_new (F : ExcBaseFacts B newId initId bmB) (o : BmOk B bm) {rest : List Value} {M : Model} {E : Value → Shared → Prop} {Q : Unit → Shared → Prop} (hC : h.get? C = some (excClassObj nm q C N bs bm hdct sn sub ab col dd k0 k1 k2 k3 k5 newId))
    (hq : Q () ⟨h, g, d, t, os⟩) : wpAny M A (checkBuiltinCall newId ⟨.ref C :: rest, kws⟩) Q E ⟨h, g, d, t, os⟩ := by
  have z1 := o.b' (C := C)
  have z2 := F.noStar
  simp only [checkBuiltinCall, F.newKind, F.newSplit, F.newRow]
  repeat (first
    | refine wpAny_loadPart_at hC ?_
    | (refine wpAny_isSubtype_exc hC ?_; rw [z1])
    | refine wpAny_staticBase_exc hC ?_
    | refine wpAny_madeBy_exc hC ?_
    | simp only [bne_self_eq_false, Bool.false_eq_true, if_false]
    | wp_step)
  exact hq
theorem xnew (F : ExcBaseFacts B newId initId bmB) (o : BmOk B bm) {rest : List Value} (hC : h.get? C = some (excClassObj nm q C N bs bm hdct sn sub ab col dd k0 k1 k2 k3 k5 newId)) (hrest : rest.length ≤ sizeLine)
    (hq : R (.ok (.ret (.ref (h.objs.size + 1)))) ⟨(h.push (W.kdv_tup rest)).push (PySem.HandSPX.excO C h.objs.size), g, d, t, os⟩) :
    codeAny (model prog w) A (.builtin newId ⟨.ref C :: rest, kws⟩) R ⟨h, g, d, t, os⟩ := by
  have z0 := F.ends
  have z1 := o.b' (C := C)
  have z2 := o.a' (C := C)
  have z3 := o.n' (C := C)
  refine codeAny_builtinAt F.entry ?_
  unfold Builtin.«BaseException.__new__»
  refine wpAt_bind ?_
  show wpAt _ _ _ (stack >>= _) _ _ _
  refine wpAt_bind (wpAt_stack fun p below => wpAt_of_wpAny ?_)
  wp_walk
  refine wpAt_of_wpAny ?_
  rw [F.owner]
  repeat (first
    | with_reducible refine wpAny_madeHere_exc F.canon hC ?_
    | with_reducible refine wpAny_loadPart_at hC ?_
    | (with_reducible refine wpAny_isSubtype_exc hC ?_; first | rw [z1] | rw [z2] | rw [z3])
    | wp_step)
  show R _ _
  rw [Heap.size_push]
  exact hq
theorem xtype_call (F : ExcBaseFacts B newId initId bmB) (o : BmOk B bm) {rest : List Value} {fI : Addr} {Q : Fin → Shared → Prop} {E : Value → Shared → Prop} (hC : h.get? C = some (excClassObj nm q C N bs bm hdct sn sub ab col dd k0 k1 k2 k3 k5 newId))
    (hi : W.Looks (model prog w) h (typeLookup (.ref C) "__init__") (some (.ref fI))) (hb : ∀ self, W.Looks (model prog w) h (bindSpecial (.ref fI) self) (.ref fI, [self])) (hrest : rest.length ≤ sizeLine)
    (hq : codeAny (model prog w) A (.call (.ref fI) ⟨.ref (h.objs.size + 1) :: rest, kws⟩) (fun r s' => match r with | .ok (.ret v) => v = .none ∧ Q (.done (.ret (.ref (h.objs.size + 1)))) s' | .ok _ => False | .error e => E e s')
      ⟨(h.push (W.kdv_tup rest)).push (PySem.HandSPX.excO C h.objs.size), g, d, t, os⟩) :
    wpAny (model prog w) A (Builtin.«type.__call__» ⟨.ref C :: rest, kws⟩) Q E ⟨h, g, d, t, os⟩ := by
  repeat (first
    | with_reducible refine wpAny_loadPart_at hC ?_
    | with_reducible refine wpAny_madeBy_exc hC ?_
    | wp_step)
  refine codeAny_call_builtin_code (Code.quiet_builtin _ F.quiet) (xcheck_new F o hC ?_)
  refine xnew F o hC hrest ?_
  show wpAny _ _ _ _ _ _
  have kk : ∀ b u, h.get? b = some u → ((h.push (W.kdv_tup rest)).push (PySem.HandSPX.excO C h.objs.size)).get? b = some u := fun b u e => Heap.get?_push_of_some _ (Heap.get?_push_of_some _ e)
  have c1 := kk _ _ hC
  have gt : ((h.push (W.kdv_tup rest)).push (PySem.HandSPX.excO C h.objs.size)).get? (h.objs.size + 1) = some (PySem.HandSPX.excO C h.objs.size) := by heap_get
  have zC : (Value.ref C :: bm).contains (.ref C) = true := by
    rw [List.contains_cons, beq_self_eq_true, Bool.true_or]
  have j1 := hi.keeps kk
  have j2 := (hb (.ref (h.objs.size + 1))).keeps kk
  unfold isInstance
  repeat (first
    | with_reducible refine wpAny_loadPart_at gt ?_
    | (with_reducible refine wpAny_isSubtype_exc c1 ?_; rw [zC])
    | wp_step)
  show wpAny _ _ (typeLookup (.ref C) _) _ _ _
  refine j1.at (wpAny_holding (wpAny_bind (j2.at (wpAny_bind (wpAny_call (codeAny_mono hq fun r s' z => ?_))))))
  rcases r with e | (v | _ | _ | _) <;> first | exact z | exact z.elim | skip
  obtain ⟨rfl, z⟩ := z
  first
    | exact wpAny_pure (wpAny_pure z)
    | (wp_walk; exact z)

theorem xcall (F : ExcBaseFacts B newId initId bmB) (o : BmOk B bm) {rest : List Value} {fI : Addr} (hC : h.get? C = some (excClassObj nm q C N bs bm hdct sn sub ab col dd k0 k1 k2 k3 k5 newId))
    (hi : W.Looks (model prog w) h (typeLookup (.ref C) "__init__") (some (.ref fI))) (hb : ∀ self, W.Looks (model prog w) h (bindSpecial (.ref fI) self) (.ref fI, [self])) (hrest : rest.length ≤ sizeLine)
    (hq : codeAny (model prog w) (A.under (.builtin "type.__call__" ⟨.ref C :: rest, kws⟩)) (.call (.ref fI) ⟨.ref (h.objs.size + 1) :: rest, kws⟩) (W.InitBack (h.objs.size + 1) R) ⟨(h.push (W.kdv_tup rest)).push (PySem.HandSPX.excO C h.objs.size), g, d, t, os⟩) :
    codeAny (model prog w) A (.call (.ref C) ⟨rest, kws⟩) R ⟨h, g, d, t, os⟩ := by
  have z1 := tc_lookup
  have z2 := tc_bind (.ref C)
  have zT : (⟨h, g, d, t, os⟩ : Shared).TypeIs (.ref C) "type" := ⟨_, hC, rfl⟩
  refine codeAny_of_tree ?_
  show wpAny _ _ (callAny (.ref C) _) _ _ _
  repeat (any_goals (first
    | assumption
    | with_reducible refine wpAny_loadPart_at hC ?_
    | wp_step))
  refine ⟨rfl, codeAny_call_builtin_at (Code.quiet_builtin _ (by decide +kernel)) entry_typeCall (wpAny_check_type_call_sub hC (xtype_call F o hC hi hb hrest (codeAny_mono hq fun r s' z => ?_)))⟩
  rcases r with e | (v | _ | _ | _) <;> exact z

open Builtin.ObjectAttr in
theorem xosa {K : W.Frag} {name : Str} {tk : Tok} {v : Value} {x C : Addr} {fv : Array Value} {cd : ClassData} (XK : K.In h) (hx : h.get? x = some { cls := .ref C, data := .fields fv }) (hcd : W.clsIn K C = some cd) (hne : cd.mro.isEmpty = false)
    (hob : cd.mro.contains (.type "object") = true) (hps : refuseLoop (.ref x) "__setattr__" cd.mro = pure ()) (hh : cd.hasDict = true) (ha : W.findIn K (.ref C) name = some none)
    (hq : ∀ h' tk' dx, (∀ b u, b ≠ x → h.get? b = some u → h'.get? b = some u) → h.objs.size ≤ dx → dx ≠ x → h'.get? x = some { cls := .ref C, dict := some dx, data := .fields fv } → h'.Ns1 dx (fun y => if y = name then some v else none) → R (.ok (.ret .none)) ⟨h', g, d, tk', os⟩) :
    codeAny (model prog w) A (.call (.builtin "object.__setattr__") ⟨[.ref x, .str name tk, v], []⟩) R ⟨h, g, d, t, os⟩ := by
  have iT : W.InstAt h x { cls := .ref C, data := .fields fv } C none := ⟨hx, rfl, rfl, trivial⟩
  have sF := PySem.F.store_object
  have nx : x ≠ h.objs.size := Nat.ne_of_lt (Heap.lt_size hx)
  have isO : W.Looks (model prog w) h (isInstance (.ref x) (.type "object")) true := by
    refine iT.type.andThen (W.looks_mroIn XK ?_)
    unfold W.mroIn
    rw [hcd, Option.bind_some, if_neg (by rw [hne]; decide), hob]
  refine codeAny_call_builtin sF.slot.plain sF.entry (@W.check_slot (model prog w) _ _ ⟨h, g, d, t, os⟩ "object.__setattr__" "object" "__setattr__" (.ref x)
    [.str name tk, v] [] _ sF.kind sF.split isO (sF.args (.ref x) (.str name tk) v) ?_)
  have y1 : W.Looks (model prog w) h (mroOf (.ref C)) cd.mro := (W.looks_clsIn XK hcd).andThen .now
  have y2 : W.Looks (model prog w) h (storeTaker? none) none := .now
  have y3 : W.Looks (model prog w) h (classData C) cd := W.looks_clsIn XK hcd
  rw [W.osa_eq, refuse_eq]
  refine wpAny_bind (wpAny_bind (iT.type.at (wpAny_bind (y1.at ?_))))
  rw [hps]
  refine wpAny_pure (wpAny_bind (iT.type.at (wpAny_bind ((W.looks_findIn XK ha).at (wpAny_bind (y2.at ?_))))))
  show wpAny _ _ (storeInOwnDict (.ref x) (.ref C) (.str name tk) name v false) _ _ _
  obtain ⟨z1, z2, z3, z4, z5, hd, z6, z7, z8, z9, z10⟩ := cd
  dsimp only at hh
  subst hh
  unfold storeInOwnDict ownDictForStores
  repeat (first
    | with_reducible refine PySem.HandSPX.store_in_new ?_ ?_
    | with_reducible refine wpAny_loadPart_at hx ?_
    | with_reducible refine y3.at ?_
    | wp_step)
  · exact ⟨_, #[], _, (Heap.get?_update_ne _ _ _ _ nx.symm).trans (Heap.get?_push_at rfl rfl), rfl, fun e he => absurd he (by simp), fun _ => rfl⟩
  · intro h' tk' hn' hs
    have hx' : (h.push { cls := .type "dict", data := .dict #[] }).get? x = some { cls := .ref C, data := .fields fv } := Heap.get?_push_of_some _ hx
    refine hq h' tk' h.objs.size (fun b u hb hu => ?_) (Nat.le_refl _) nx.symm ?_ hn'
    · exact (hs.2 b (Nat.ne_of_lt (Heap.lt_size hu))).trans ((Heap.get?_update_ne _ _ _ _ hb).trans (Heap.get?_push_of_some _ hu))
    · exact (hs.2 x nx).trans (Heap.get?_update_self _ hx' rfl)
end
end Fk

set_option maxHeartbeats 4000000
namespace Fk
open PySem PySem.Spec L2
/-- what the written part says of an error's class, whose __init__ stands at fI -/
structure XC (K : PySem.W.Frag) (C fI : Addr) : Prop where
  cls : ∃ (B newId initId : String) (bmB : List Value) (nm q : Str) (N : Addr) (bs bm : List Value) (sn : List Str) (sub : List Value) (ab : Bool) (col : Option Bool) (dd : Option Addr) (k0 k1 k2 k3 k5 : Option Value),
    ExcBaseFacts B newId initId bmB ∧ BmOk B bm ∧ (∀ self, refuseLoop self "__setattr__" bm = pure ()) ∧ bm.contains (.type "object") = true ∧ K.lookup C = some (excClassObj nm q C N bs bm true sn sub ab col dd k0 k1 k2 k3 k5 newId)
  sa : PySem.W.findIn K (.ref C) "__setattr__" = some (some (.builtin "object.__setattr__"))
  kC : PySem.W.keepIn K (.ref C) = true
  iC : PySem.W.findIn K (.ref C) "__init__" = some (some (.ref fI))
  tI : PySem.W.typeIn K (.ref fI) = some (.type "function")
  ga : PySem.W.findIn K (.ref C) "__getattribute__" = some (some (.builtin "BaseException.__getattribute__"))
  gg : PySem.W.findIn K (.ref C) "__getattr__" = some none
  su : PySem.W.subIn K (.ref C) (.type "BaseException") = some true
  hd : PySem.W.hasDictIn K C = true
  ha : PySem.W.findIn K (.ref C) "__class__" = some (some (.builtin "object.__class__"))
  hn : PySem.W.specialIn K (.builtin "object.__class__") "__get__" = some (some (.builtin "getset_descriptor.__get__"))
  ht : PySem.W.takesIn K (.builtin "object.__class__") = some true
  hm : PySem.W.mroIn K C (.type "object") = some true
section
variable {X : Cx} {CX : CXT} {k : Nat} {fI C : Addr} {fd : FuncData} {ps : List Str} {sp : Sp}
theorem run_mkv {pins : List (Addr × Obj)} {σ : L2.St} {H : Hp} {s : Shared} {Q : VK} {us vals : List Value} {kz : List (Str × Value)} {vvs : List V} (T : XC X.K C fI) (F1 : FnOk X.prog X.w X.K X.mg X.base CX k fI fd ps sp) (hr : Room (k + 1) X.A)
    (hx : Passes CX X (fun _ _ _ => False)) (I : Inv X pins σ H s) (rv : Vals vvs vals) (hus : us.length ≤ 1000) (hbind : ∀ (s' : Shared) (self : Value), X.K.In s'.heap → BindsTo s' fd ⟨self :: us, kz⟩ (ps.zip (self :: vals)))
    (h : ∀ a, H a = none → sp (.ref a :: vvs) (upd H a (exo a C none)) (fun v H2 => v = .non ∧ Q (.ref a) H2) (fun _ _ _ => False)) :
    wpAny (model X.prog X.w) X.A (call (.ref C) us kz) (EP X pins σ Q) X.xe s := by
  obtain ⟨B, newId, initId, bmB, nm, q, N, bs, bm, sn, sub, ab, col, dd, k0, k1, k2, k3, k5, FB, ok, _, _, hC⟩ := T.cls
  obtain ⟨hp, g, dr, tk, os⟩ := s
  have hsz : hp.objs.size ≤ hp.objs.size + 1 := Nat.le_succ _
  have hq := h (hp.objs.size + 1) (I.hok.fresh hsz)
  have gt : ((hp.push (PySem.W.kdv_tup us)).push (PySem.HandSPX.excO C hp.objs.size)).get? (hp.objs.size + 1) = some (PySem.HandSPX.excO C hp.objs.size) := by heap_get
  have I2 : Inv X pins σ (upd H (hp.objs.size + 1) (exo (hp.objs.size + 1) C none)) ⟨(hp.push (PySem.W.kdv_tup us)).push (PySem.HandSPX.excO C hp.objs.size), g, dr, tk, os⟩ :=
    I.laid (t' := tk) (a := hp.objs.size + 1) (o := exo (hp.objs.size + 1) C none) (fun b u e => Heap.get?_push_of_some _ (Heap.get?_push_of_some _ e)) hsz (exo_ok gt)
  have r2 : Vals (V.ref (hp.objs.size + 1) :: vvs) (Value.ref (hp.objs.size + 1) :: vals) := .cons rfl rv
  have hz : us.length ≤ sizeLine := Nat.le_trans hus (by decide)
  refine wpAny_call (xcall FB ok (I.kIn _ _ hC) (PySem.W.looks_findIn I.kIn T.iC) (fun self => PySem.W.bind_fn I.kIn self T.tI) hz
    (codeAny_mono (F1.run _ X.stack _ _ ⟨Value.ref (hp.objs.size + 1) :: us, kz⟩ _ _ _ (fun _ _ _ => False) (hr.make C us kz) (I2.env0.make C us kz) (hbind _ _ I2.kIn) r2 hq) fun r s' z => ?_))
  cases r with
  | error e => exact hx pins σ _ _ e s' I2 z
  | ok fl =>
    cases fl with
    | ret u =>
      obtain ⟨v, H', I3, rv', ev, q3⟩ := I2.after z
      subst ev
      exact ⟨rv', ⟨V.ref (hp.objs.size + 1), H', I3, rfl, q3⟩⟩
    | next => exact z.elim
    | brk => exact z.elim
    | cont => exact z.elim
variable {x : Str} {p p' pos : Pos} {e o : Expr} {es : List Expr} {kws : List Keyword} {t tk : TA} {ds : List Value} {dvs : List V} {ks : List Str} {te to : TE} {f : Str}
/-- C(e, ..) as a value: an error's object stands at a, then __init__ -/
def tMkV (C : Addr) (sp : Sp) (dvs : List V) (t : TA) : TE := fun σ H Q => t σ H fun vs H1 => vs.length ≤ 1000 ∧ ∀ a, H1 a = none → sp (.ref a :: (vs ++ dvs)) (upd H1 a (exo a C none)) (fun v H2 => v = .non ∧ Q (.ref a) H2) (fun _ _ _ => False)
theorem pe_mkv (T : XC X.K C fI) (F1 : FnOk X.prog X.w X.K X.mg X.base CX k fI fd ps sp) (hr : Room (k + 1) X.A) (hb : Binds X.K fd ps ds) (hd : Vals dvs ds) (hx : Passes CX X (fun _ _ _ => False)) (hg : Gl X x) (hm : X.mg x = some (.ref C)) (ha : PA X (e :: es) t)
    (hdb : (x == ("__debug__" : Str)) = false := by decide) (he : starEach (e :: es) X.env = (false, eval e X.env) :: starEach es X.env := by rfl) (hpl : (backTo pos (starEach es X.env)).any (·.1) = false := by rfl) :
    PE X (.Call (.Name x p) (e :: es) [] pos) (tMkV C sp dvs t) := by
  refine ⟨fun pins s σ H Q I h => ?_⟩
  refine wpAny_Call_Name_kw (ld_glob I hg hm ?_ hdb)
  refine PySem.W.callWith_K (h₀ := X.base) I.ok.mod.kin T.kC (thn (ha.run pos pins s σ H _ I h) fun us s1 ⟨vs, H1, I1, r1, hz, q1⟩ => ⟨I1.kIn, ?_⟩) he hpl
  have q0 := q1 _ (I1.hok.fresh (Nat.le_refl _))
  have l0 := F1.len _ _ _ _ q0
  have l1 := (r1.append hd).length
  rw [List.length_cons] at l0
  exact run_mkv (us := us) (kz := []) T F1 hr hx I1 (r1.append hd) (by rw [← r1.length]; exact hz) (fun s' self X1 => hb s' (self :: us) X1 (by rw [List.cons_append, List.length_cons, ← l1]; exact l0)) q1
theorem pe_mkv0 (T : XC X.K C fI) (F1 : FnOk X.prog X.w X.K X.mg X.base CX k fI fd ps sp) (hr : Room (k + 1) X.A) (hb : Binds X.K fd ps ds) (hd : Vals dvs ds) (hx : Passes CX X (fun _ _ _ => False)) (hg : Gl X x) (hm : X.mg x = some (.ref C))
    (hdb : (x == ("__debug__" : Str)) = false := by decide) : PE X (.Call (.Name x p) [] [] pos) (tMkV C sp dvs tNil) := by
  refine ⟨fun pins s σ H Q I h => ?_⟩
  obtain ⟨_, q1⟩ := h
  refine wpAny_Call_Name_kw (ld_glob I hg hm ?_ hdb)
  refine PySem.W.callWith_K0 I.kIn T.kC ?_
  have q0 := q1 _ (I.hok.fresh (Nat.le_refl _))
  have l0 := F1.len _ _ _ _ q0
  rw [List.length_cons] at l0
  exact run_mkv (us := []) (kz := []) T F1 hr hx I hd (Nat.zero_le _) (fun s' self X1 => hb s' [self] X1 (by rw [List.singleton_append, List.length_cons, ← hd.length]; exact l0)) q1
/-- C(k = e, ..) as a value -/
def tMkVK (C : Addr) (n : Nat) (sp : Sp) (t : TA) : TE := fun σ H Q => t σ H fun zs H1 => zs.length = n ∧ ∀ a, H1 a = none → sp (.ref a :: zs) (upd H1 a (exo a C none)) (fun v H2 => v = .non ∧ Q (.ref a) H2) (fun _ _ _ => False)
theorem pe_mkvK (T : XC X.K C fI) (F1 : FnOk X.prog X.w X.K X.mg X.base CX k fI fd ps sp) (hr : Room (k + 1) X.A) (hb : ∀ (s : Shared) (self : Value) (ws : List Value), X.K.In s.heap → ws.length = ks.length → BindsTo s fd ⟨[self], ks.zip ws⟩ (ps.zip (self :: ws))) (hx : Passes CX X (fun _ _ _ => False))
    (hg : Gl X x) (hm : X.mg x = some (.ref C)) (hkw : PK X kws tk) (hall : (backToKw pos (keywordEach kws X.env)).all (·.1.isSome) = true := by rfl) (hks : (backToKw pos (keywordEach kws X.env)).filterMap (·.1) = ks := by rfl) (hdb : (x == ("__debug__" : Str)) = false := by decide)
    (hpl : ((backTo pos (starEach [] X.env)).any (·.1) || (backToKw pos (keywordEach kws X.env)).any (·.1.isNone)) = false := by rfl) : PE X (.Call (.Name x p) [] kws pos) (tMkVK C ks.length sp tk) := by
  refine ⟨fun pins s σ H Q I h => ?_⟩
  refine wpAny_Call_Name_kw (ld_glob I hg hm ?_ hdb)
  refine PySem.W.callWith_KW0 (h₀ := X.base) I.ok.mod.kin T.kC hall ?_ hpl
  refine thn (hkw.run pos pins s σ H _ I h) fun ws s2 ⟨zs, H2, I2, rz, l2, q2⟩ => ⟨I2.kIn, ?_⟩
  rw [hks]
  exact run_mkv (us := []) T F1 hr hx I2 rz (Nat.zero_le _) (fun s' self X1 => hb s' self ws X1 (by rw [← rz.length]; exact l2)) q2

theorem inst_v {H : Hp} {h : Heap} {P : Program} {w : World} {a d : Addr} {fs : List (Str × V)} (hok : HOk P w H h) (ea : H a = some (exo a C (some d))) (ed : H d = some (exd d fs)) :
    ∃ (ox od : Obj) (mA : Str → Option Value), PySem.W.InstAt h a ox C (some od) ∧ h.get? d = some od ∧ h.Ns1 d mA ∧ ∀ g, RelO (fs.lookup g) (mA g) := by
  obtain ⟨t1, ho⟩ := exo_at hok ea
  obtain ⟨mA, hns, rel⟩ := exd_at hok ed
  obtain ⟨od, es', ep, h1, h2, h3⟩ := id hns
  exact ⟨_, od, mA, ⟨ho, rfl, rfl, h1⟩, h1, hns, rel⟩
/-- e.f, e an error's value -/
def tFv (K : PySem.W.Frag) (f : Str) (te : TE) : TE := fun σ H Q => te σ H fun x H1 => ∃ (a C fI d : Addr) (fs : List (Str × V)) (v : V), x = .ref a ∧ XC K C fI ∧ PySem.W.findIn K (.ref C) f = some none ∧ H1 a = some (exo a C (some d)) ∧ H1 d = some (exd d fs) ∧ fs.lookup f = some v ∧ Q v H1
theorem pe_fv (he : PE X e te) (hb : attributeBase e f X.env (eval e X.env) = eval e X.env := by rfl) : PE X (.Attribute e f pos) (tFv X.K f te) := by
  refine ⟨fun pins s σ H Q I h => ?_⟩
  refine attr_of hb (thn (he.run pins s σ H _ I h) fun u s1 hh => ?_)
  obtain ⟨x, H1, I1, rx, a, C, fI, d, fs, v, ex, T, hno, ea, ed, l, q⟩ := hh
  subst ex
  obtain rfl : u = Value.ref a := rx
  obtain ⟨ox, od, mA, J, hod, hns, rel⟩ := inst_v I1.hok ea ed
  obtain ⟨od', ho', hl'⟩ := lookIn_ns hns
  rw [hod] at ho'
  cases ho'
  obtain ⟨u, hu, ru⟩ := RelO.some_of (v := v) (o := mA f) (by rw [← l]; exact rel f)
  exact PySem.HandSPX.exc_get I1.kIn J T.ga T.gg T.su (PySem.W.findObj_own T.hd hno rfl (by rw [hl', hu])) (handed_of ru) ⟨v, H1, I1.tok _, ru, q⟩
theorem kit_v {K : PySem.W.Frag} {a : Addr} {od : Option Obj} {ox : Obj} (T : XC K C fI) : PySem.W.KitX K (.ref a) (.ref C) (fun h => PySem.W.InstAt h a ox C od) := by
  refine PySem.W.kitx_exc ?_ T.ga T.gg T.su T.ha T.hn T.ht T.hm
  obtain ⟨B, newId, initId, bmB, nm, q, N, bs, bm, sn, sub, ab, col, dd, k0, k1, k2, k3, k5, FB, ok, _, _, hC⟩ := T.cls
  unfold PySem.W.clsIn
  rw [hC]
  rfl
/-- isinstance(e, c), e an error's value -/
def rIsV (K : PySem.W.Frag) : List V → Hp → VK → Prop := fun xs H Q => ∃ (a C fI d : Addr) (fs : List (Str × V)) (c : V) (u : Value) (b : Bool), xs = [.ref a, c] ∧ ClsV c u ∧ XC K C fI ∧ H a = some (exo a C (some d)) ∧ H d = some (exd d fs) ∧ PySem.W.kitOne K (.ref C) u = some b ∧ Q (.bl b) H
theorem call_isv : CallR X (.builtin "isinstance") (rIsV X.K) := by
  intro pins s σ H xs us Q I r h
  obtain ⟨a, C, fI, d, fs, c, u, b, rfl, kc, T, ea, ed, e, q⟩ := h
  obtain ⟨u1, u2, rfl, r1, r2⟩ := vals2 r
  have e2 := kc.eq r2
  subst e2
  obtain rfl : u1 = Value.ref a := r1
  obtain ⟨ox, od, mA, J, hod, hns, rel⟩ := inst_v I.hok ea ed
  exact PySem.W.kia_one (kit_v T) I.kIn J e (fun z => nomatch z) fun tk => ⟨.bl b, H, I.tok tk, rfl, q⟩
/-- isinstance(e, (c, ..)), e the error that the suite holds -/
def rIsS (K : PySem.W.Frag) (a : Addr) (cls : Value) (d : Option Addr) : List V → Hp → VK → Prop := fun xs H Q => ∃ (C fI tp dd : Addr) (fs : List (Str × V)) (cs : List V) (us : List Value) (b : Bool), xs = [.ref a, .ref tp] ∧ cls = .ref C ∧ d = some dd ∧ XC K C fI ∧ H dd = some (.xd fs) ∧
  H tp = some (.tup cs) ∧ Paired ClsV cs us ∧ PySem.W.kitAny K (.ref C) us = some b ∧ Q (.bl b) H
theorem call_isS {a : Addr} {oe : Obj} {cls : Value} {d : Option Addr} {pn : List (Addr × Obj)} (hz : Zc cls d oe) (hf : ∃ vs, oe.data = .fields vs) : CallR (X.suite a ((a, oe) :: pn)) (.builtin "isinstance") (rIsS X.K a cls d) := by
  intro pins s σ H xs us Q I r h
  obtain ⟨C, fI, tp, dd, fs, cs, ws, b, rfl, rfl, rfl, T, ed, hT, kc, e, q⟩ := h
  obtain ⟨u1, u2, rfl, r1, r2⟩ := vals2 r
  obtain rfl : u1 = Value.ref a := r1
  cases (show u2 = Value.ref tp from r2)
  obtain ⟨hget, _⟩ := I.pin (a, oe) (List.mem_append_left _ List.mem_cons_self)
  obtain ⟨vs, hv⟩ := hf
  obtain ⟨mA, hns, rel⟩ := (show ObjOk X.prog X.w H s.heap dd (.xd fs) from I.hok dd _ ed)
  obtain ⟨od, ho, hl⟩ := lookIn_ns hns
  have J : PySem.W.InstAt s.heap a oe C (some od) := ⟨hget, hz.1, by unfold PySem.W.notCls; rw [hv] <;> rfl, by rw [hz.2]; exact ho⟩
  obtain ⟨_, its, rv, o, h1, h2, n, h3⟩ := (show ObjOk X.prog X.w H s.heap tp (.tup cs) from I.hok tp _ hT)
  have e3 := ClsV.all kc rv
  subst e3
  obtain ⟨oc, od', dt, sl⟩ := o
  simp only at h2 h3
  subst h2 h3
  exact PySem.W.kia_tup (kit_v T) I.kIn J h1 e (fun z => nomatch z) fun tk => ⟨.bl b, H, I.tok tk, rfl, q⟩
theorem xost {pins : List (Addr × Obj)} {σ : L2.St} {H : Hp} {s : Shared} {a : Addr} {y : V} {u : Value} {Q : Unit → Shared → Prop} {E : Value → Shared → Prop} {A : Around} (T : XC X.K C fI) (I : Inv X pins σ H s) (ea : H a = some (exo a C none))
    (hno : PySem.W.findIn X.K (.ref C) f = some none) (ry : RelV y u)
    (h : ∀ dx s', H dx = none → dx ≠ a → Inv X pins σ (upd (upd H dx (exd dx [(f, y)])) a (exo a C (some dx))) s' → Q () s') : wpAny (model X.prog X.w) A (setAttr (.ref a) f u) Q E s := by
  obtain ⟨B, newId, initId, bmB, nm, q, N, bs, bm, sn, sub, ab, col, dd, k0, k1, k2, k3, k5, FB, ok, hps, hob, hC⟩ := T.cls
  have hcl : PySem.W.clsIn X.K C = some { name := nm, bases := bs, mro := .ref C :: bm, ns := N, qualname := q, hasDict := true, slotNames := sn, subclasses := sub, abstract := ab, collection := col, hasDel := false } := by
    unfold PySem.W.clsIn
    rw [hC]
  obtain ⟨t1, ho⟩ := exo_at I.hok ea
  obtain ⟨hp, g, d, t, os⟩ := s
  refine PySem.W.set_plain I.kIn (ox := { cls := .ref C, dict := none, data := .fields #[.ref t1, .none, .none, .none, .bool false, .none] }) (od := none) ⟨ho, rfl, rfl, trivial⟩ T.sa ?_
  refine xosa I.kIn ho hcl rfl (by rw [List.contains_cons, hob, Bool.or_true]) (by rw [refuseLoop_ref]; exact hps _) rfl hno (fun h' tk' dx kp dn dne hx hn => ?_)
  have zd : H dx = none := I.hok.fresh dn
  have nd : ∀ {b : Addr} {o : Obj}, hp.get? b = some o → b ≠ dx := fun {b o} w => Nat.ne_of_lt (Nat.lt_of_lt_of_le (Heap.lt_size w) dn)
  have na : ∀ {b : Addr}, H b = none → b ≠ a := fun {b} n z => by
    rw [z, ea] at n
    cases n
  have U : Un X.fs [] H (upd (upd H dx (exd dx [(f, y)])) a (exo a C (some dx))) hp h' := by
    refine ⟨fun b o w n _ _ => kp b o (na n) w, fun b o w n _ _ => ⟨o.slots, kp b o (na n) w⟩, fun b o w n _ => ?_, fun b o w _ => ?_, fun b xs w => ?_, fun b o v w => ?_, fun b ps w => ⟨#[], ?_⟩⟩
    · rw [upd_ne (na n), upd_ne (nd w)]
      exact n
    · by_cases hb : b = a
      · rw [hb]
        exact ⟨_, hx⟩
      · exact ⟨o, kp b o hb w⟩
    · rw [upd_ne (at_ne ea w exo_tup), upd_ne (ne_of_none w zd)]
      exact w
    · rw [upd_ne (at_ne ea w exo_frz), upd_ne (ne_of_none w zd)]
      exact w
    · rw [upd_ne (at_ne ea w exo_tbl), upd_ne (ne_of_none w zd), w]
      simp
  refine h dx _ zd dne (I.un (t' := tk') U fun b o w => ?_)
  by_cases hb : b = a
  · rw [hb, upd_same] at w
    cases w
    rw [hb]
    exact exo_ok hx
  rw [upd_ne hb] at w
  by_cases hd : b = dx
  · rw [hd, upd_same] at w
    cases w
    rw [hd]
    exact exd_ok hn (relO_put (fs := []) ry fun g => True.intro)
  rw [upd_ne hd] at w
  refine (I.hok b o w).stay (fun c v hc z => kp c v ?_ z) (fun c hc => ?_) (fun c xs hc => ?_)
  · rcases hc with hc | hc
    · rw [hc]
      exact hb
    · exact at_ne ea hc exo_own
  · rw [upd_ne (at_ne ea hc exo_own), upd_ne (ne_of_none hc zd)]
    exact hc
  · rw [upd_ne (at_ne ea hc exo_tup), upd_ne (ne_of_none hc zd)]
    exact hc
/-- self.f = e, self an error that has no field yet -/
def tOsv (K : PySem.W.Frag) (f : Str) (to te : TE) : TS := fun D σ H => te σ H fun y H1 => to σ H1 fun x H2 => ∃ a C fI : Addr, x = .ref a ∧ XC K C fI ∧ PySem.W.findIn K (.ref C) f = some none ∧ H2 a = some (exo a C none) ∧
  ∀ dx, H2 dx = none → dx ≠ a → D.nx σ (upd (upd H2 dx (exd dx [(f, y)])) a (exo a C (some dx)))
theorem ps_osv (ho : PE X o to) (he : PE X e te) (hs : swapsWith e (some (.Attribute o f p')) pos.line X.env = pure false := by rfl) : PS X (.Assign [.Attribute o f p'] e pos) (tOsv X.K f to te) := by
  refine ⟨fun pins s σ H D I h => ?_⟩
  refine plainObj_wpAny_Assign_Attribute (thn (he.run pins s σ H _ I h) fun v s1 ⟨y, H1, I1, r1, q1⟩ => thn (ho.run pins s1 σ H1 _ I1 q1) fun u s2 ⟨x, H2, I2, r2, a, C, fI, ex, T, hno, ea, q⟩ => ?_) hs
  subst ex
  obtain rfl : u = Value.ref a := r2
  exact xost T I2 ea hno r1 fun dx s' n ne J => ⟨σ, _, J, q dx n ne⟩
end
end Fk

set_option maxHeartbeats 4000000
/-! What is known of an error's class by its entry in the written part. -/
namespace Fk
open PySem PySem.Spec L2
def VE : List Value := [.type "ValueError", .type "Exception", .type "BaseException", .type "object"]
def KE : List Value := [.type "KeyError", .type "LookupError", .type "Exception", .type "BaseException", .type "object"]
structure CF (K : PySem.W.Frag) (nm : Str) (newId : String) (bm : List Value) (C : Addr) : Prop where
  x : ∃ (q : Str) (N : Addr) (bs : List Value) (sn : List Str) (sub : List Value) (ab : Bool) (col : Option Bool) (dd : Option Addr) (k0 k1 k2 k3 k5 : Option Value), K.lookup C = some (excClassObj nm q C N bs bm true sn sub ab col dd k0 k1 k2 k3 k5 newId)
section
variable {K : PySem.W.Frag} {nm nm' : Str} {newId newId' : String} {bm bm' : List Value} {C C' : Addr}
theorem CF.sub (c : CF K nm newId bm C) (u : Value) : PySem.W.subIn K (.ref C) u = some ((Value.ref C :: bm).contains u) := by
  obtain ⟨q, N, bs, sn, sub, ab, col, dd, k0, k1, k2, k3, k5, e⟩ := c.x
  show PySem.W.mroIn K C u = _
  unfold PySem.W.mroIn PySem.W.clsIn
  rw [e]
  rfl
theorem CF.mro (c : CF K nm newId bm C) (u : Value) : PySem.W.mroIn K C u = some ((Value.ref C :: bm).contains u) := c.sub u
theorem CF.typ (c : CF K nm newId bm C) : PySem.W.typeIn K (.ref C) = some (.type "type") := by
  obtain ⟨q, N, bs, sn, sub, ab, col, dd, k0, k1, k2, k3, k5, e⟩ := c.x
  show (K.lookup C).map (·.cls) = _
  rw [e]
  rfl
theorem CF.hd (c : CF K nm newId bm C) : PySem.W.hasDictIn K C = true := by
  obtain ⟨q, N, bs, sn, sub, ab, col, dd, k0, k1, k2, k3, k5, e⟩ := c.x
  unfold PySem.W.hasDictIn PySem.W.clsIn
  rw [e]
  rfl
theorem CF.isc (c : CF K nm newId bm C) : (PySem.W.clsIn K C).isSome = true := by
  obtain ⟨q, N, bs, sn, sub, ab, col, dd, k0, k1, k2, k3, k5, e⟩ := c.x
  unfold PySem.W.clsIn
  rw [e]
  rfl
theorem CF.kit (c : CF K nm newId bm C) (c' : CF K nm' newId' bm' C') : PySem.W.kitOne K (.ref C) (.ref C') = some ((Value.ref C :: bm).contains (.ref C')) := by
  unfold PySem.W.kitOne
  by_cases h : C = C'
  · subst h
    have e : (Value.ref C == .ref C) = true := beq_self_eq_true _
    rw [if_pos e, List.contains_cons, e, Bool.true_or]
  · have e : ¬ (Value.ref C == .ref C') = true := fun z => by
      have := eq_of_beq z
      cases this
      exact h rfl
    have t : ((PySem.W.clsIn K C').isSome && PySem.W.typeIn K (.ref C') == some (.type "type")) = true := by
      rw [c'.isc, c'.typ] <;> rfl
    rw [if_neg e]
    show (if ((PySem.W.clsIn K C').isSome && PySem.W.typeIn K (.ref C') == some (.type "type")) = true then PySem.W.subIn K (.ref C) (.ref C') else none) = _
    rw [if_pos t]
    exact c.sub _
theorem CF.kitT (c : CF K nm newId bm C) {n : String} (h : PySem.W.kitMeta n = true) : PySem.W.kitOne K (.ref C) (.type n) = some ((Value.ref C :: bm).contains (.type n)) := by
  unfold PySem.W.kitOne
  have e : ¬ (Value.ref C == .type n) = true := fun z => by
    have := eq_of_beq z
    cases this
  rw [if_neg e]
  show (if PySem.W.kitMeta n = true then PySem.W.subIn K (.ref C) (.type n) else none) = _
  rw [if_pos h]
  exact c.sub _
theorem CF.name (c : CF K nm newId bm C) (c' : CF K nm' newId' bm' C) : nm = nm' := by
  obtain ⟨q, N, bs, sn, sub, ab, col, dd, k0, k1, k2, k3, k5, e⟩ := c.x
  obtain ⟨q', N', bs', sn', sub', ab', col', dd', k0', k1', k2', k3', k5', e'⟩ := c'.x
  rw [e] at e'
  have z := Option.some.inj e'
  injection z with z1 z2 z3 z4
  injection z3 with z5
  injection z5
theorem CF.oex (c : CF K nm "ValueError.__new__" bm C) (h : PySem.HandSPX.refsVE bm = true) (sa : PySem.W.findIn K (.ref C) "__setattr__" = some (some (.builtin "object.__setattr__"))) (kC : PySem.W.keepIn K (.ref C) = true) (hb : bm.contains (.type "BaseException") = true) : OexC K C := by
  obtain ⟨q, N, bs, sn, sub, ab, col, dd, k0, k1, k2, k3, k5, e⟩ := id c.x
  refine { cls := ⟨nm, q, N, bs, bm, sn, sub, ab, col, dd, k0, k1, k2, k3, k5, e, h⟩, sa := sa, exC := ?_, tyC := c.typ, kC := kC }
  rw [c.sub, List.contains_cons, hb, Bool.or_true]
theorem CF.exm (c : CF K nm newId bm C) (c' : CF K nm' newId' bm' C') (hb : bm'.contains (.type "BaseException") = true) {b : Bool} (e : (Value.ref C :: bm).contains (.ref C') = b) : PySem.W.exmOne K (.ref C) (.ref C') = some b := by
  refine PySem.W.exm_ref ?_ c'.hd c'.typ ((c.sub _).trans (congrArg some e))
  rw [c'.sub, List.contains_cons, hb, Bool.or_true]
theorem CF.xc (c : CF K nm newId bm C) {B initId : String} {bmB : List Value} {fI : Addr} (FB : ExcBaseFacts B newId initId bmB) (ok : BmOk B bm) (ps : ∀ self, refuseLoop self "__setattr__" bm = pure ()) (ob : bm.contains (.type "object") = true) (hb : bm.contains (.type "BaseException") = true)
    (sa : PySem.W.findIn K (.ref C) "__setattr__" = some (some (.builtin "object.__setattr__"))) (kC : PySem.W.keepIn K (.ref C) = true) (iC : PySem.W.findIn K (.ref C) "__init__" = some (some (.ref fI))) (tI : PySem.W.typeIn K (.ref fI) = some (.type "function"))
    (ga : PySem.W.findIn K (.ref C) "__getattribute__" = some (some (.builtin "BaseException.__getattribute__"))) (gg : PySem.W.findIn K (.ref C) "__getattr__" = some none) (ha : PySem.W.findIn K (.ref C) "__class__" = some (some (.builtin "object.__class__")))
    (hn : PySem.W.specialIn K (.builtin "object.__class__") "__get__" = some (some (.builtin "getset_descriptor.__get__"))) (ht : PySem.W.takesIn K (.builtin "object.__class__") = some true) : XC K C fI := by
  obtain ⟨q, N, bs, sn, sub, ab, col, dd, k0, k1, k2, k3, k5, e⟩ := id c.x
  refine { cls := ⟨B, newId, initId, bmB, nm, q, N, bs, bm, sn, sub, ab, col, dd, k0, k1, k2, k3, k5, FB, ok, ps, ob, e⟩, sa := sa, kC := kC, iC := iC, tI := tI, ga := ga, gg := gg, su := ?_, hd := c.hd, ha := ha, hn := hn, ht := ht, hm := ?_ }
  · rw [c.sub, List.contains_cons, hb, Bool.or_true]
  · rw [c.mro, List.contains_cons, ob, Bool.or_true]
end
theorem ve_ok : BmOk "ValueError" VE := ⟨by decide +kernel, by decide +kernel, by decide +kernel⟩
theorem ke_ok : BmOk "LookupError" KE := ⟨by decide +kernel, by decide +kernel, by decide +kernel⟩
theorem rve_ok (c : Addr) : BmOk "ValueError" (.ref c :: VE) := ⟨ve_ok.b', ve_ok.a', ve_ok.n'⟩
theorem ve_pass (self : Value) : refuseLoop self "__setattr__" VE = pure () := PySem.F.store_ValueError.passes self
theorem rve_pass (c : Addr) (self : Value) : refuseLoop self "__setattr__" (.ref c :: VE) = pure () := by
  rw [refuseLoop_ref]
  exact ve_pass self
theorem ke_pass (self : Value) : refuseLoop self "__setattr__" KE = pure () := by
  kernel_rfl
end Fk

set_option maxHeartbeats 4000000
/-! Operators of an own class: ==, !=, +, unary -. -/
namespace Fk
open PySem PySem.Spec PyProof.Rows L2
/-- nothing is let out where E0 is asked -/
def NoEx (CX : CXT) : Prop := ∀ outer H s u s', CX outer H s C8.E0 u s' → False
theorem noEx0 : NoEx C8.CX0 := fun _ _ _ _ _ h => h
theorem noExL {P : Program} {w : World} : NoEx (L2.CX P w) := fun outer H s u s' h => by
  obtain ⟨_, _, _, _, _, _, _, _, _, _, _, _, e⟩ := h
  exact e
/-- a method of an own class -/
structure OwnM (P : Program) (w : World) (K : PySem.W.Frag) (mg : Str → Option Value) (base : Heap) (CX : CXT) (k : Nat) (C : Addr) (m : Str) (sp : Sp) : Prop where
  ex : ∃ (f : Addr) (fd : FuncData) (ps : List Str), PySem.W.findIn K (.ref C) m = some (some (.ref f)) ∧ PySem.W.isFn K (.ref f) = true ∧ FnOk P w K mg base CX k f fd ps sp ∧ Binds K fd ps []
section
variable {X : Cx} {CX : CXT} {k : Nat} {C a dx : Addr} {sp : Sp} {fs : List (Str × V)} {y : V} {u tb : Value} {pins : List (Addr × Obj)} {σ : L2.St} {H : Hp} {s : Shared} {Q : VK}
/-- a def runs, somewhere below the body; it lets nothing out -/
theorem run_in {f : Addr} {fd : FuncData} {ps : List Str} {us : List Value} {vs : List V} {E' : Value → Shared → Prop} {A : Around} (F : FnOk X.prog X.w X.K X.mg X.base CX k f fd ps sp) (hr : Room k A) (hA : Env0 X.prog X.w X.K X.mg X.base A X.stack s H) (hb : Binds X.K fd ps []) (hx : NoEx CX)
    (I : Inv X pins σ H s) (r : Vals vs us) (h : sp vs H Q C8.E0) : wpAny (model X.prog X.w) A (call (.ref f) us) (EP X pins σ Q) E' s := by
  have hl : us.length = ps.length := by
    rw [← r.length]
    exact F.len _ _ _ _ h
  have b := hb s us I.kIn (by rw [List.append_nil]; exact hl)
  rw [List.append_nil] at b
  refine wpAny_call (codeAny_mono (F.run A X.stack s H ⟨us, []⟩ us vs Q C8.E0 hr hA b r h) fun r s' hq => ?_)
  cases r with
  | error e => exact (hx _ _ _ _ _ hq).elim
  | ok fl =>
    cases fl with
    | ret u => exact I.after hq
    | next => exact hq.elim
    | brk => exact hq.elim
    | cont => exact hq.elim
/-- x == y, x an own object -/
def rOwnEq (K : PySem.W.Frag) (C : Addr) (sp : Sp) : R2 := fun x y H Q => ∃ (a dx : Addr) (fs : List (Str × V)) (tb : Value), x = .ref a ∧ H a = some (.ins C dx fs) ∧ TyX K H y tb ∧ PySem.W.notFirst K C tb = true ∧ sp [x, y] H (fun v H' => ∃ b, v = .bl b ∧ Q (.bl b) H') C8.E0
theorem op_ownEq (M : OwnM X.prog X.w X.K X.mg X.base CX k C "__eq__" sp) (hr : Room k X.A) (hx : NoEx CX) : OpR X (compareOp .Eq) (rOwnEq X.K C sp) := by
  intro pins s σ H x y v u Q I rx ry h
  obtain ⟨a, dx, fs, tb, rfl, ha, ty, hn, q⟩ := h
  obtain ⟨f, fd, ps, hs, hf, F, hb⟩ := M.ex
  cases (show v = Value.ref a from rx)
  obtain ⟨mA, J, _⟩ := ins_get I.hok ha
  obtain ⟨od, J, _⟩ := J.look
  obtain ⟨m, hF⟩ := I.fr
  obtain ⟨P', Z, p, _⟩ := kit_of I ry ty
  show wpAny (model X.prog X.w) X.A (richCompare .Eq (.ref a) u) (EP X pins σ Q) X.xe s
  refine PySem.W.cmp_K (op := .Eq) hr.units0 hF I.ok.mod.kin J (Z.ty _ _ I.kIn p) hn hs hf (wpAny_mono (run_in F hr I.env0 hb hx I (show Vals [V.ref a, y] [Value.ref a, u] from .cons rfl (.cons ry .nil)) q) (fun v s' z => ?_) fun _ _ x => x)
  obtain ⟨x, H', I', rv, b, rfl, q'⟩ := z
  cases (show v = Value.bool b from rv)
  exact ⟨.bl b, H', I', rfl, q'⟩
/-- x != y by object.__ne__, which asks x's own == -/
def rOwnNe (K : PySem.W.Frag) (C : Addr) (sp : Sp) : R2 := fun x y H Q => ∃ (a dx : Addr) (fs : List (Str × V)) (tb : Value), x = .ref a ∧ H a = some (.ins C dx fs) ∧ TyX K H y tb ∧ PySem.W.notFirst K C tb = true ∧ sp [x, y] H (fun v H' => ∃ b, v = .bl b ∧ Q (.bl (!b)) H') C8.E0
theorem op_ownNe (M : OwnM X.prog X.w X.K X.mg X.base CX k C "__eq__" sp) (hr : Room (k + 1) X.A) (hx : NoEx CX) (hne : PySem.W.findIn X.K (.ref C) "__ne__" = some (some (.builtin "object.__ne__"))) (hob : PySem.W.mroIn X.K C (.type "object") = some true) :
    OpR X (compareOp .NotEq) (rOwnNe X.K C sp) := by
  intro pins s σ H x y v u Q I rx ry h
  obtain ⟨a, dx, fs, tb, rfl, ha, ty, hn, q⟩ := h
  obtain ⟨f, fd, ps, hs, hf, F, hb⟩ := M.ex
  cases (show v = Value.ref a from rx)
  obtain ⟨mA, J, _⟩ := ins_get I.hok ha
  obtain ⟨od, J, _⟩ := J.look
  obtain ⟨P', Z, p, _⟩ := kit_of I ry ty
  have hbT := Z.ty (model X.prog X.w) s.heap I.kIn p
  have X0 := I.kIn
  have one : wpAny (model X.prog X.w) X.A (tryCompare (.ref a) "__ne__" u) (fun r s' => ∃ v, r = some v ∧ EP X pins σ Q v s') X.xe s := by
    unfold tryCompare
    have sp : PySem.W.Looks (model X.prog X.w) s.heap (specialOf (.ref a) "__ne__") (some (.builtin "object.__ne__")) := J.type.andThen (PySem.W.looks_findIn X0 hne)
    have iv : PySem.W.Looks (model X.prog X.w) s.heap (isInstance (.ref a) (.type "object")) true := J.type.andThen (PySem.W.looks_mroIn X0 hob)
    refine wpAny_bind (NtL.csib (E := X.xe) sp (PySem.F.cmp_object.ne.bind _) ?_)
    refine wpAny_call (codeAny_call_builtin PySem.F.cmp_object.ne.plain PySem.F.cmpEntry_ne (PySem.W.check_slot PySem.F.cmpKind_ne PySem.F.cmpSplit_ne iv (PySem.F.cmpArgs_ne _ _) ?_))
    have hu : X.A.in1.units < cLine := hr.in1.units0
    unfold Builtin.«object.__ne__»
    repeat (first
      | with_reducible refine wpAny_cRoomFor hu ?_
      | (refine wpAny_bind (m := callSpecialIfBound? (.ref a) (Str.ofString "__eq__") [u]) (PySem.W.ifBound_K X0 J hs hf (wpAny_mono (run_in (E' := fun _ _ => False) F hr.in1 I.env0.in1 hb hx I (show Vals [V.ref a, y] [Value.ref a, u] from .cons rfl (.cons ry .nil)) q) (fun v s' z => ?_) fun _ _ x => x.elim)))
      | wp_step)
    obtain ⟨x, H', I', rv, b, rfl, q'⟩ := z
    cases (show v = Value.bool b from rv)
    show wpAny _ _ (truthy (.bool b) >>= _) _ _ _
    refine wpAny_bind (wpAny_truthy_bool ?_)
    exact wpAny_pure (wpAny_pure ⟨_, rfl, .bl (!b), H', I', rfl, q'⟩)
  show wpAny (model X.prog X.w) X.A (richCompare .NotEq (.ref a) u) (EP X pins σ Q) X.xe s
  unfold richCompare
  simp only [oneThing_ref]
  refine wpAny_holding (wpAny_bind (wpAny_cRoomFor hr.units0 ?_))
  refine wpAny_bind (J.type.here (wpAny_bind (hbT.here ?_)))
  split
  · rename_i z
    have e : PySem.W.subIn X.K tb (.ref C) = some false := by
      rcases Bool.or_eq_true_iff.mp hn with e | e
      · rw [beq_iff_eq.mp e] at z
        simp at z
      · exact beq_iff_eq.mp e
    refine wpAny_bind ((PySem.W.looks_subIn X0 e).here ?_)
    simp only [Bool.false_eq_true, if_false]
    refine wpAny_bind (wpAny_mono one (fun r s' z => ?_) fun _ _ e => e)
    obtain ⟨v, rfl, hq⟩ := z
    exact wpAny_pure hq
  · refine wpAny_bind (wpAny_pure ?_)
    simp only [Bool.false_eq_true, if_false]
    refine wpAny_bind (wpAny_mono one (fun r s' z => ?_) fun _ _ e => e)
    obtain ⟨v, rfl, hq⟩ := z
    exact wpAny_pure hq
/-- -x -/
def rOwnNeg (C : Addr) (sp : Sp) : V → Hp → VK → Prop := fun x H Q => ∃ (a dx : Addr) (fs : List (Str × V)), x = .ref a ∧ H a = some (.ins C dx fs) ∧ sp [x] H Q C8.E0
theorem un_ownNeg (M : OwnM X.prog X.w X.K X.mg X.base CX k C "__neg__" sp) (hr : Room k X.A) (hx : NoEx CX) : UnR X (unaryOp .USub) (rOwnNeg C sp) := by
  intro pins s σ H x v Q I rx h
  obtain ⟨a, dx, fs, rfl, ha, q⟩ := h
  obtain ⟨f, fd, ps, hs, hf, F, hb⟩ := M.ex
  cases (show v = Value.ref a from rx)
  obtain ⟨mA, J, _⟩ := ins_get I.hok ha
  obtain ⟨od, J, _⟩ := J.look
  obtain ⟨m, hF⟩ := I.fr
  exact PySem.W.ksp_neg hF I.ok.mod.kin J hs hf (run_in F hr I.env0 hb hx I (show Vals [V.ref a] [Value.ref a] from .cons rfl .nil) q)
end
end Fk
namespace PySem.W
open PySem PySem.Spec PyProof.Rows
section
variable {prog : Program} {w : World} {A : Around} {E : Value → Shared → Prop} {s : Shared} {K : Frag} {x C L f : Addr} {h₀ : Heap} {m : Str → Option Value} {ox : Obj} {od : Option Obj} {nm T : String}
theorem fk_binT {op : Operator} {b : Value} {fo ro rc : Option Value} {Q : Value → Shared → Prop} (F : Fr h₀ L s.heap m) (X₀ : K.In h₀) (I : InstAt s.heap x ox C od) (hb : Looks (model prog w) s.heap (typeOf b) (.type T)) (hc : selfFirst K C = true)
    (hs : findIn K (.ref C) (PySem.dunder op.info.2) = some (some (.ref f))) (hf : isFn K (.ref f) = true) (hr : findIn K (.ref C) (dunderR op.info.2) = some rc) (hp : rc = none ∨ ∃ g : Addr, rc = some (.ref g))
    (h1 : findIn K (.type T) (PySem.dunder op.info.2) = some fo) (h2 : findIn K (.type T) (dunderR op.info.2) = some ro) (hsub : subIn K (.type T) (.ref C) = some false)
    (h : wpAny (model prog w) A (call (.ref f) [.ref x, b]) (CmpBack Q) E s) : wpAny (model prog w) A (binaryOp op (.ref x) b) Q E s := by
  have X := X₀.keeps F.keep
  obtain ⟨cd, rest, hcd, hm⟩ := ksp_first hc
  rcases hi : op.info with ⟨sym, nm'⟩
  rw [hi] at hs hr h1 h2
  dsimp only at hs hr h1 h2
  have one := ksp_try X I hs hf h
  obtain ⟨hh, g, d, tt, os⟩ := s
  have L1 : Looks (model prog w) hh (typeOf (.ref x)) (.ref C) := I.type
  have L2 : Looks (model prog w) hh (typeOf b) (.type T) := hb
  have L3 : Looks (model prog w) hh (fillsNumberSlot (.ref C) nm') true := fills_K X hcd hm hs
  have L4 : Looks (model prog w) hh (fillsNumberSlot (.type T) nm') ((fo.isSome && !isSeqSlot fo) || (ro.isSome && !isSeqSlot ro)) := ksp_fillsT X h1 h2
  have L5 : Looks (model prog w) hh (isSubtype (.type T) (.ref C)) false := looks_subIn X hsub
  have L6 : Looks (model prog w) hh (numberSlotInPython (.ref C) nm') true := ksp_inPy X hs hr hp
  have L7 : Looks (model prog w) hh (numberSlotInPython (.type T) nm') false := Looks.of_pure rfl
  have L8 : Looks (model prog w) hh (typeLookup (.type T) (dunderR nm')) ro := looks_findIn X h2
  generalize ((fo.isSome && !isSeqSlot fo) || (ro.isSome && !isSeqSlot ro)) = right at L4
  have hne : (Value.ref C == Value.type T) = false := Bool.eq_false_iff.mpr fun q => by cases beq_iff_eq.mp q
  simp only [binaryOp, hi]
  refine wpAny_holding (wpAny_bind ?_)
  unfold binaryOp1
  refine wpAny_bind (L1.at (wpAny_bind (L2.at (wpAny_bind (L3.at ?_)))))
  simp only [hne, Bool.false_eq_true, if_false]
  cases right with
  | false =>
    ksp_lk
    refine wpAny_mono one (fun r s' hr' => ?_) fun _ _ e => e
    obtain ⟨v, rfl, hq⟩ := hr'
    ksp_lk
    exact hq
  | true =>
    ksp_lk
    refine wpAny_mono one (fun r s' hr' => ?_) fun _ _ e => e
    obtain ⟨v, rfl, hq⟩ := hr'
    ksp_lk
    exact hq
end
end PySem.W
namespace Fk
open PySem PySem.Spec PyProof.Rows L2
/-- what is asked of a class for its + -/
structure AddF (K : PySem.W.Frag) (C : Addr) : Prop where
  first : PySem.W.selfFirst K C = true
  noR : PySem.W.findIn K (.ref C) "__radd__" = some none
/-- what may stand on the right of an own + -/
inductive RightOf (K : PySem.W.Frag) (H : Hp) (C : Addr) : V → Prop where
  | ins {b dy : Addr} {gs : List (Str × V)} (h : H b = some (.ins C dy gs)) : RightOf K H C (.ref b)
  | ty {y : V} {T : String} {fo ro : Option Value} (h : TyX K H y (.type T)) (h1 : PySem.W.findIn K (.type T) "__add__" = some fo) (h2 : PySem.W.findIn K (.type T) "__radd__" = some ro) (hs : PySem.W.subIn K (.type T) (.ref C) = some false) : RightOf K H C y
/-- x + y by x's own +: what may be let out is E, at the slots; the answer is an object -/
def tOwnAdd (K : PySem.W.Frag) (C : Addr) (sp : Sp) (E : L2.St → XK) (ta tb : TE) : TE := fun σ H Q => ta σ H fun x H1 => tb σ H1 fun y H2 => ∃ (a dx : Addr) (fs : List (Str × V)), x = .ref a ∧ H2 a = some (.ins C dx fs) ∧ RightOf K H2 C y ∧
  sp [x, y] H2 (fun v H' => ∃ b, v = .ref b ∧ Q v H') (E σ)
theorem pe_ownAdd {X : Cx} {CX : CXT} {k : Nat} {C : Addr} {sp : Sp} {E : L2.St → XK} {a b : Expr} {ta tb : TE} {pos : Pos} (M : OwnM X.prog X.w X.K X.mg X.base CX k C "__add__" sp) (T : AddF X.K C) (hr : Room k X.A) (hx : ∀ σ, PassesAt CX X σ (E σ)) (ha : PE X a ta) (hb : PE X b tb) :
    PE X (.BinOp a .Add b pos) (tOwnAdd X.K C sp E ta tb) := by
  refine ⟨fun pins s σ H Q I h => ?_⟩
  refine wpAny_BinOp (binT ha hb I h fun v u s2 x y H2 I2 rx ry q => ?_)
  obtain ⟨a, dx, fs, rfl, ea, ri, q⟩ := q
  obtain ⟨f, fd, ps, hs, hf, F, hb⟩ := M.ex
  cases (show v = Value.ref a from rx)
  obtain ⟨mA, J, _⟩ := ins_get I2.hok ea
  obtain ⟨od, J, _⟩ := J.look
  obtain ⟨m, hF⟩ := I2.fr
  have go : wpAny (model X.prog X.w) X.A (call (.ref f) [.ref a, u]) (PySem.W.CmpBack (EP X pins σ Q)) X.xe s2 := by
    refine wpAny_mono (run_fnS F hr hb (hx σ) I2 (show Vals [V.ref a, y] [Value.ref a, u] from .cons rfl (.cons ry .nil)) q) (fun v s' z => ?_) fun _ _ e => e
    obtain ⟨x, H', I', rv, b, rfl, q'⟩ := z
    cases (show v = Value.ref b from rv)
    exact ⟨.ref b, H', I', rfl, q'⟩
  cases ri with
  | @ins b dy gs eb =>
    cases (show u = Value.ref b from ry)
    obtain ⟨mB, J', _⟩ := ins_get I2.hok eb
    obtain ⟨od', J', _⟩ := J'.look
    exact PySem.W.binop_K (op := .Add) hF I2.ok.mod.kin J J'.type T.first hs hf go
  | @ty _ T' fo ro ty h1 h2 hsb =>
    obtain ⟨P', Z, p, _⟩ := kit_of I2 ry ty
    exact PySem.W.fk_binT (op := .Add) hF I2.ok.mod.kin J (Z.ty _ _ I2.kIn p) T.first hs hf T.noR (.inl rfl) h1 h2 hsb go
end Fk

set_option maxHeartbeats 4000000
/-! len, in, [] of an own class; methods that may raise, in a try and out of it; classes made. -/
namespace Fk
open PySem PySem.Spec PyProof.Rows L2
section
variable {X : Cx} {CX : CXT} {k : Nat} {C : Addr} {sp : Sp}
/-- len(x) -/
theorem call_ownLen (M : OwnM X.prog X.w X.K X.mg X.base CX k C "__len__" sp) (hr : Room (k + 1) X.A) (hx : NoEx CX) :
    CallR X (.builtin "len") (fun xs H Q => ∃ (a dx : Addr) (fs : List (Str × V)), xs = [.ref a] ∧ H a = some (.ins C dx fs) ∧ sp xs H (fun v H' => ∃ n : Nat, v = .int n ∧ n ≤ 1000000 ∧ Q v H') C8.E0) := by
  intro pins s σ H xs us Q I r h
  obtain ⟨a, dx, fs, rfl, ha, q⟩ := h
  obtain ⟨u, rfl, ru⟩ := vals1 r
  cases (show u = Value.ref a from ru)
  obtain ⟨f, fd, ps, hs, hf, F, hb⟩ := M.ex
  obtain ⟨mA, J, _⟩ := ins_get I.hok ha
  obtain ⟨od, J, _⟩ := J.look
  obtain ⟨m, hF⟩ := I.fr
  refine PySem.W.len_K hF I.ok.mod.kin J hs hf (wpAny_mono (run_in F hr.in1 I.env0.in1 hb hx I (show Vals [V.ref a] [Value.ref a] from .cons rfl .nil) q) (fun v s' z => ?_) fun _ _ x => x)
  obtain ⟨x, H', I', rv, n, rfl, hn, q'⟩ := z
  obtain ⟨t, rfl⟩ := (show ∃ t, v = Value.int n t from rv)
  exact ⟨⟨by omega, by omega⟩, .int n, H', I'.tok _, ⟨_, rfl⟩, q'⟩
/-- y in x, y not in x -/
def rOwnIn (C : Addr) (sp : Sp) : R2 := fun y x H Q => ∃ (a dx : Addr) (fs : List (Str × V)), x = .ref a ∧ H a = some (.ins C dx fs) ∧ sp [x, y] H (fun v H' => ∃ b, v = .bl b ∧ Q (.bl b) H') C8.E0
def rOwnNotIn (C : Addr) (sp : Sp) : R2 := fun y x H Q => ∃ (a dx : Addr) (fs : List (Str × V)), x = .ref a ∧ H a = some (.ins C dx fs) ∧ sp [x, y] H (fun v H' => ∃ b, v = .bl b ∧ Q (.bl (!b)) H') C8.E0
theorem op_ownIn (M : OwnM X.prog X.w X.K X.mg X.base CX k C "__contains__" sp) (hr : Room k X.A) (hx : NoEx CX) : OpR X (compareOp .In) (rOwnIn C sp) := by
  intro pins s σ H y x u v Q I ry rx h
  obtain ⟨a, dx, fs, rfl, ha, q⟩ := h
  cases (show v = Value.ref a from rx)
  obtain ⟨f, fd, ps, hs, hf, F, hb⟩ := M.ex
  obtain ⟨mA, J, _⟩ := ins_get I.hok ha
  obtain ⟨od, J, _⟩ := J.look
  obtain ⟨m, hF⟩ := I.fr
  refine PySem.W.in_K hF I.ok.mod.kin J hs hf (wpAny_mono (run_in F hr I.env0 hb hx I (show Vals [V.ref a, y] [Value.ref a, u] from .cons rfl (.cons ry .nil)) q) (fun v s' z => ?_) fun _ _ x => x)
  obtain ⟨x, H', I', rv, b, rfl, q'⟩ := z
  cases (show v = Value.bool b from rv)
  exact wpAny_truthy_bool ⟨.bl b, H', I', rfl, q'⟩
theorem op_ownNotIn (M : OwnM X.prog X.w X.K X.mg X.base CX k C "__contains__" sp) (hr : Room k X.A) (hx : NoEx CX) : OpR X (compareOp .NotIn) (rOwnNotIn C sp) := by
  intro pins s σ H y x u v Q I ry rx h
  obtain ⟨a, dx, fs, rfl, ha, q⟩ := h
  cases (show v = Value.ref a from rx)
  obtain ⟨f, fd, ps, hs, hf, F, hb⟩ := M.ex
  obtain ⟨mA, J, _⟩ := ins_get I.hok ha
  obtain ⟨od, J, _⟩ := J.look
  obtain ⟨m, hF⟩ := I.fr
  refine PySem.W.notIn_K hF I.ok.mod.kin J hs hf (wpAny_mono (run_in F hr I.env0 hb hx I (show Vals [V.ref a, y] [Value.ref a, u] from .cons rfl (.cons ry .nil)) q) (fun v s' z => ?_) fun _ _ x => x)
  obtain ⟨x, H', I', rv, b, rfl, q'⟩ := z
  cases (show v = Value.bool b from rv)
  exact wpAny_truthy_bool ⟨.bl (!b), H', I', rfl, q'⟩
end
/-- a method of an own class with its defaults -/
structure MetX (P : Program) (w : World) (K : PySem.W.Frag) (mg : Str → Option Value) (base : Heap) (CX : CXT) (k : Nat) (C : Addr) (m : Str) (sp : Sp) (dvs : List V) : Prop where
  ex : ∃ (f : Addr) (fd : FuncData) (ps : List Str) (ds : List Value), Cls K C ∧ Meth K C m f ∧ FnOk P w K mg base CX k f fd ps sp ∧ Binds K fd ps ds ∧ Vals dvs ds
/-- a class that may be made -/
structure MakX (P : Program) (w : World) (K : PySem.W.Frag) (mg : Str → Option Value) (base : Heap) (CX : CXT) (k : Nat) (x : Str) (C : Addr) (sp : Sp) (dvs : List V) : Prop where
  ex : ∃ (f : Addr) (fd : FuncData) (ps : List Str) (ds : List Value), Mk K C f ∧ FnOk P w K mg base CX k f fd ps sp ∧ mg x = some (.ref C) ∧ Binds K fd ps ds ∧ Vals dvs ds
/-- a def that may raise -/
structure CalX (P : Program) (w : World) (K : PySem.W.Frag) (mg : Str → Option Value) (base : Heap) (CX : CXT) (k : Nat) (x : Str) (sp : Sp) (dvs : List V) : Prop where
  ex : ∃ (f : Addr) (fd : FuncData) (ps : List Str) (ds : List Value), FnOk P w K mg base CX k f fd ps sp ∧ mg x = some (.ref f) ∧ PySem.W.keepIn K (.ref f) = true ∧ Binds K fd ps ds ∧ Vals dvs ds
section
variable {X : Cx} {CX : CXT} {k j : Nat} {C : Addr} {sp : Sp} {dvs : List V} {m x : Str} {E : L2.St → XK} {o e : Expr} {es : List Expr} {ta : TE} {t : TA} {p pos apos : Pos}
theorem run_at {pins : List (Addr × Obj)} {σ : L2.St} {H : Hp} {s : Shared} {Q : VK} {f : Addr} {fd : FuncData} {ps : List Str} {us ds : List Value} {vs : List V} (F : FnOk X.prog X.w X.K X.mg X.base CX k f fd ps sp) (hr : Room k X.A) (hb : Binds X.K fd ps ds) (hd : Vals dvs ds) (hx : PassesAt CX X σ (E σ))
    (I : Inv X pins σ H s) (r : Vals vs us) (h : sp (vs ++ dvs) H Q (E σ)) : wpAny (model X.prog X.w) X.A (call (.ref f) us) (EP X pins σ Q) X.xe s := by
  have r2 : Vals (vs ++ dvs) (us ++ ds) := r.append hd
  have hl : (us ++ ds).length = ps.length := by
    rw [← r2.length]
    exact F.len _ _ _ _ h
  refine wpAny_call (codeAny_mono (F.run X.A X.stack s H ⟨us, []⟩ (us ++ ds) (vs ++ dvs) Q (E σ) hr I.env0 (hb s us I.kIn hl) r2 h) fun r s' hq => ?_)
  cases r with
  | error e => exact hx pins H s e s' I hq
  | ok fl =>
    cases fl with
    | ret u => exact I.after hq
    | next => exact hq.elim
    | brk => exact hq.elim
    | cont => exact hq.elim
/-- o.m(e, ..) -/
def tMx (C : Addr) (m : Str) (sp : Sp) (dvs : List V) (E : L2.St → XK) (ta : TE) (t : TA) : TE := fun σ H Q => ta σ H fun x H1 => ∃ (a dx : Addr) (fs : List (Str × V)), x = .ref a ∧ H1 a = some (.ins C dx fs) ∧ fs.lookup m = none ∧ t σ H1 fun vs H2 => sp (.ref a :: (vs ++ dvs)) H2 Q (E σ)
theorem pe_mx {pl : Sem Bool} (c : MetX X.prog X.w X.K X.mg X.base CX k C m sp dvs) (hr : Room j X.A) (hk : k ≤ j) (hx : ∀ σ, PassesAt CX X σ (E σ)) (he : PE X o ta) (ha : PA X (e :: es) t)
    (hst : starEach (e :: es) X.env = (false, eval e X.env) :: starEach es X.env := by rfl) (hpl : (backTo pos (starEach es X.env)).any (·.1) = false := by rfl)
    (ht : eval (.Call (.Attribute o m apos) (e :: es) [] pos) X.env = (do
      let ov ← eval o X.env
      standAt apos.atName
      let (f, first) ← holding [ov] (getMethod ov m pl)
      callWith pos f first (backTo pos (starEach (e :: es) X.env)) (backToKw pos (keywordEach [] X.env))) := by rfl) :
    PE X (.Call (.Attribute o m apos) (e :: es) [] pos) (tMx C m sp dvs E ta t) := by
  obtain ⟨f, fd, ps, ds, cl, hm, F, b, d⟩ := c.ex
  refine ⟨fun pins s σ H Q I h => ?_⟩
  refine PySem.W.methodCall_KW (pl := pl) (thn (he.run pins s σ H _ I h) fun u s1 ⟨x, H1, I1, rx, a, dx, fs, ex, ea, l, q⟩ => ?_) ht
  subst ex
  obtain rfl : u = Value.ref a := rx
  refine getmeth_ok I1 ea cl hm l ?_
  refine PySem.W.callWith_K (first := [.ref a]) (h₀ := X.base) I.ok.mod.kin hm.kp (thn (ha.run pos pins s1 σ H1 _ I1 q) fun us s2 ⟨vs, H2, I2, r, q2⟩ => ⟨I2.kIn, ?_⟩) hst hpl
  exact run_at (us := .ref a :: us) (vs := .ref a :: vs) F (hr.mono hk) b d (hx σ) I2 (.cons rfl r) q2
theorem pe_mx0 {pl : Sem Bool} (c : MetX X.prog X.w X.K X.mg X.base CX k C m sp dvs) (hr : Room j X.A) (hk : k ≤ j) (hx : ∀ σ, PassesAt CX X σ (E σ)) (he : PE X o ta)
    (ht : eval (.Call (.Attribute o m apos) [] [] pos) X.env = (do
      let ov ← eval o X.env
      standAt apos.atName
      let (f, first) ← holding [ov] (getMethod ov m pl)
      callWith pos f first (backTo pos (starEach [] X.env)) (backToKw pos (keywordEach [] X.env))) := by rfl) :
    PE X (.Call (.Attribute o m apos) [] [] pos) (tMx C m sp dvs E ta tNil) := by
  obtain ⟨f, fd, ps, ds, cl, hm, F, b, d⟩ := c.ex
  refine ⟨fun pins s σ H Q I h => ?_⟩
  refine PySem.W.methodCall_KW (pl := pl) (thn (he.run pins s σ H _ I h) fun u s1 ⟨x, H1, I1, rx, a, dx, fs, ex, ea, l, q⟩ => ?_) ht
  subst ex
  obtain rfl : u = Value.ref a := rx
  refine getmeth_ok I1 ea cl hm l ?_
  exact PySem.W.callWith_K0 (first := [.ref a]) I1.kIn hm.kp (run_at (us := [.ref a]) (vs := [.ref a]) F (hr.mono hk) b d (hx σ) I1 (.cons rfl .nil) q)
/-- a def by its name -/
def tCx (sp : Sp) (dvs : List V) (E : L2.St → XK) (t : TA) : TE := fun σ H Q => t σ H fun vs H1 => sp (vs ++ dvs) H1 Q (E σ)
theorem pe_cx (c : CalX X.prog X.w X.K X.mg X.base CX k x sp dvs) (hr : Room j X.A) (hk : k ≤ j) (hx : ∀ σ, PassesAt CX X σ (E σ)) (hg : Gl X x) (ha : PA X (e :: es) t)
    (hdb : (x == ("__debug__" : Str)) = false := by decide) (he : starEach (e :: es) X.env = (false, eval e X.env) :: starEach es X.env := by rfl) (hpl : (backTo pos (starEach es X.env)).any (·.1) = false := by rfl) :
    PE X (.Call (.Name x p) (e :: es) [] pos) (tCx sp dvs E t) := by
  obtain ⟨f, fd, ps, ds, F, hm, kp, b, d⟩ := c.ex
  refine ⟨fun pins s σ H Q I h => ?_⟩
  refine wpAny_Call_Name_kw (ld_glob I hg hm ?_ hdb)
  refine PySem.W.callWith_K (h₀ := X.base) I.ok.mod.kin kp (thn (ha.run pos pins s σ H _ I h) fun us s1 ⟨vs, H1, I1, r, q⟩ => ⟨I1.kIn, ?_⟩) he hpl
  exact run_at F (hr.mono hk) b d (hx σ) I1 r q
end
end Fk

set_option maxHeartbeats 4000000
/-! x != y of objects of one class without an own ==: whether they are two. -/
namespace Fk
open PySem PySem.Spec PyProof.Rows L2
structure PlainEq (K : PySem.W.Frag) (C : Addr) : Prop where
  ne : PySem.W.findIn K (.ref C) "__ne__" = some (some (.builtin "object.__ne__"))
  eq : PySem.W.findIn K (.ref C) "__eq__" = some (some (.builtin "object.__eq__"))
  ob : PySem.W.mroIn K C (.type "object") = some true
def rIdNe (C : Addr) : R2 := fun x y H Q => ∃ (a b dx dy : Addr) (fs gs : List (Str × V)), x = .ref a ∧ y = .ref b ∧ H a = some (.ins C dx fs) ∧ H b = some (.ins C dy gs) ∧ Q (.bl (!decide (a = b))) H
section
variable {X : Cx} {C : Addr}
theorem idEq {pins : List (Addr × Obj)} {σ : L2.St} {H : Hp} {s : Shared} {A : Around} {E : Value → Shared → Prop} {a b dx dy : Addr} {fs gs : List (Str × V)} {Q : Option Value → Shared → Prop} (T : PlainEq X.K C) (I : Inv X pins σ H s) (ha : H a = some (.ins C dx fs)) (hb : H b = some (.ins C dy gs))
    (h : Q (some (if a = b then .bool true else .notImplemented)) s) : wpAny (model X.prog X.w) A (callSpecialIfBound? (.ref a) "__eq__" [.ref b]) Q E s := by
  obtain ⟨mA, J, _⟩ := ins_get I.hok ha
  obtain ⟨od, J, _⟩ := J.look
  obtain ⟨mB, J', _⟩ := ins_get I.hok hb
  obtain ⟨od', J', _⟩ := J'.look
  have sp : PySem.W.Looks (model X.prog X.w) s.heap (specialOf (.ref a) "__eq__") (some (.builtin "object.__eq__")) := J.type.andThen (PySem.W.looks_findIn I.kIn T.eq)
  have iv : PySem.W.Looks (model X.prog X.w) s.heap (isInstance (.ref a) (.type "object")) true := J.type.andThen (PySem.W.looks_mroIn I.kIn T.ob)
  refine NtL.csib (E := E) sp (PySem.F.cmp_object.eq.bind _) ?_
  refine wpAny_call (codeAny_call_builtin PySem.F.cmp_object.eq.plain PySem.F.cmpEntry_eq (PySem.W.check_slot PySem.F.cmpKind_eq PySem.F.cmpSplit_eq iv (PySem.F.cmpArgs_eq _ _) ?_))
  by_cases e : a = b
  · subst e
    rw [if_pos rfl] at h
    exact objEq_entry_same h
  · rw [if_neg e] at h
    exact objEq_entry_other e J.at_ J'.at_ (by rw [J.cls]; intro z; cases z) h
theorem idNe {pins : List (Addr × Obj)} {σ : L2.St} {H : Hp} {s : Shared} {A : Around} {E : Value → Shared → Prop} {a b dx dy : Addr} {fs gs : List (Str × V)} {Q : Option Value → Shared → Prop} (T : PlainEq X.K C) (hu : A.units + 1 < cLine) (I : Inv X pins σ H s) (ha : H a = some (.ins C dx fs)) (hb : H b = some (.ins C dy gs))
    (h : Q (if a = b then some (.bool false) else none) s) : wpAny (model X.prog X.w) A (tryCompare (.ref a) "__ne__" (.ref b)) Q E s := by
  obtain ⟨mA, J, _⟩ := ins_get I.hok ha
  obtain ⟨od, J, _⟩ := J.look
  have sp : PySem.W.Looks (model X.prog X.w) s.heap (specialOf (.ref a) "__ne__") (some (.builtin "object.__ne__")) := J.type.andThen (PySem.W.looks_findIn I.kIn T.ne)
  have iv : PySem.W.Looks (model X.prog X.w) s.heap (isInstance (.ref a) (.type "object")) true := J.type.andThen (PySem.W.looks_mroIn I.kIn T.ob)
  have hu' : A.in1.units < cLine := hu
  unfold tryCompare
  refine wpAny_bind (NtL.csib (E := E) sp (PySem.F.cmp_object.ne.bind _) ?_)
  refine wpAny_call (codeAny_call_builtin PySem.F.cmp_object.ne.plain PySem.F.cmpEntry_ne (PySem.W.check_slot PySem.F.cmpKind_ne PySem.F.cmpSplit_ne iv (PySem.F.cmpArgs_ne _ _) ?_))
  unfold Builtin.«object.__ne__»
  repeat (first
    | with_reducible refine wpAny_cRoomFor hu' ?_
    | (refine wpAny_bind (m := callSpecialIfBound? (.ref a) (Str.ofString "__eq__") [.ref b]) (idEq T I ha hb ?_))
    | wp_step)
  by_cases e : a = b
  · rw [if_pos e] at h ⊢
    show wpAny _ _ (truthy (.bool true) >>= _) _ _ _
    refine wpAny_bind (wpAny_truthy_bool ?_)
    exact wpAny_pure (wpAny_pure h)
  · rw [if_neg e] at h ⊢
    exact wpAny_pure (wpAny_pure h)
theorem op_idNe (T : PlainEq X.K C) (hu : X.A.units + 1 < cLine) : OpR X (compareOp .NotEq) (rIdNe C) := by
  intro pins s σ H x y v u Q I rx ry h
  obtain ⟨a, b, dx, dy, fs, gs, rfl, rfl, ha, hb, q⟩ := h
  cases (show v = Value.ref a from rx)
  cases (show u = Value.ref b from ry)
  obtain ⟨mA, J, _⟩ := ins_get I.hok ha
  obtain ⟨od, J, _⟩ := J.look
  obtain ⟨mB, J', _⟩ := ins_get I.hok hb
  obtain ⟨od', J', _⟩ := J'.look
  show wpAny (model X.prog X.w) X.A (richCompare .NotEq (.ref a) (.ref b)) (EP X pins σ Q) X.xe s
  unfold richCompare
  simp only [oneThing_ref]
  refine wpAny_holding (wpAny_bind (wpAny_cRoomFor (by omega) ?_))
  refine wpAny_bind (J.type.here (wpAny_bind (J'.type.here ?_)))
  simp only [bne_self_eq_false, Bool.false_eq_true, if_false]
  refine wpAny_bind (wpAny_pure ?_)
  simp only [Bool.false_eq_true, if_false]
  refine wpAny_bind (idNe (E := X.xe) T hu I ha hb ?_)
  by_cases e : a = b
  · rw [if_pos e]
    exact wpAny_pure ⟨.bl false, H, I, rfl, by simpa [e] using q⟩
  · rw [if_neg e]
    simp only [Bool.not_false, if_true]
    refine wpAny_bind (idNe (E := X.xe) T hu I hb ha ?_)
    rw [if_neg (fun z => e z.symm)]
    refine wpAny_bind (m := isSame (.ref a) (.ref b)) (wpAny_isSame_ref_other e J.at_ J'.at_ (by rw [J.cls]; intro z; cases z) ?_)
    exact wpAny_pure ⟨.bl true, H, I, rfl, by simpa [e] using q⟩
end
end Fk

set_option maxHeartbeats 4000000
/-! dict(d); a displayed dict of ** alone. -/
namespace Fk
open PySem PySem.Spec PyProof.Rows L2
theorem call_dictC {X : Cx} : CallR X (.type "dict") (fun xs H Q => ∃ a kvs, xs = [.ref a] ∧ Rd H a (.dK kvs) ∧ ∀ p, H p = none → Q (.ref p) (upd H p (.dK kvs))) := by
  intro pins s σ H xs us Q I r h
  obtain ⟨a, kvs, rfl, e, q⟩ := h
  obtain ⟨u, rfl, ru⟩ := vals1 r
  cases (show u = Value.ref a from ru)
  exact d_copyOf I e fun p s' hp I' => ⟨.ref p, _, I', rfl, q p hp⟩
section
variable {prog : Program} {w : World} {K : Type} [DecidableEq K] {knd : KeyKind prog w K} {A : Around} {E : Value → Shared → Prop} {s : Shared}
theorem wpAny_dictPut {d : Addr} {kvs : List (K × Value)} {k : K} {key v : Value} {Q : Unit → Shared → Prop} (hkey : knd.is k key = true) (hm : s.heap.DictOf knd d kvs)
    (hQ : ∀ h', h'.DictOf knd d (stored kvs k v) → Heap.SameBut d s.heap h' → Q () { s with heap := h' }) (hsz : kvs.length ≤ sizeLine) :
    wpAny (model prog w) A (dictPut d (knd.hash k) key v) Q E s := by
  obtain ⟨o, es, ep, ho, hc, hd, hk, hp, hn⟩ := hm
  have hes : es.size ≤ sizeLine := by
    have e1 := hp.length
    have e2 : es.toList.length = es.size := by simp
    omega
  unfold dictPut
  try with_reducible refine wpAny_holding ?_
  refine wpAny_bind (wpAny_dictFind_of hkey ho hd hk ?_)
  have hidx : (es.findIdx? fun e => knd.is k e.key) = kvs.findIdx? fun kv => decide (kv.1 = k) := by
    rw [← hp.findIdx k]; obtain ⟨l⟩ := es; simp
  cases hi : es.findIdx? fun e => knd.is k e.key with
  | some i =>
    refine (wpAny_updateDict ho hd (hQ _ ⟨_, _, ep, Heap.get?_update_self _ ho (Obj.isFreed_of_dict (Obj.data_mapDict hd _)),
      hc.mapDict _, Obj.data_mapDict hd _, hk.modify _ _, ?_, ?_⟩ (Heap.SameBut.update ..)))
    · rw [stored, if_pos (any_of_findIdx_some (hidx ▸ hi))]
      have hl : (es.toList.findIdx? fun e => knd.is k e.key) = some i := by rw [← hi]; obtain ⟨l⟩ := es; simp
      have := hp.modify hn hl v
      obtain ⟨l⟩ := es
      simpa using this
    · rw [stored, if_pos (any_of_findIdx_some (hidx ▸ hi)), keys_map_store]; exact hn
  | none =>
    have hnot : k ∉ kvs.map (·.1) := not_mem_of_findIdx_none (hidx ▸ hi)
    have hany : ¬ (kvs.any fun kv => decide (kv.1 = k)) = true := by
      rw [List.any_eq_true]; rintro ⟨kv, hkv, he⟩
      exact hnot (List.mem_map.mpr ⟨kv, hkv, of_decide_eq_true he⟩)
    refine (wpAny_updateDictKeys (hz := hes) ho hd (hQ _ ⟨_, _, ep + 1, Heap.get?_update_self _ ho (Obj.isFreed_of_dict (Obj.data_mapDictKeys hd _)),
      hc.mapDictKeys _, Obj.data_mapDictKeys hd _, hk.push hkey _, ?_, ?_⟩ (Heap.SameBut.update ..)))
    · rw [stored, if_neg hany]
      have := hp.append hkey (knd.hash k) v
      obtain ⟨l⟩ := es
      simpa using this
    · rw [stored, if_neg hany, List.map_append, List.nodup_append]
      refine ⟨hn, by simp, ?_⟩
      intro a ha b hb
      simp only [List.map_cons, List.map_nil, List.mem_singleton] at hb
      subst hb
      exact fun e => hnot (e ▸ ha)
theorem dict_iter : typeLookup (.type "dict") "__iter__" = pure (some (.builtin "dict.__iter__")) := by rw [typeLookup_type, builtinLookup_eq_fast]; kernel_rfl
theorem wpAny_mergeMapping {d o : Addr} {kvs more : List (K × Value)} {Q : Unit → Shared → Prop} (hkr : ∀ (k : K) (a : Addr), knd.is k (.ref a) = false) (hdo : d ≠ o) (hoS : (o == sysModules) = false)
    (hd : s.heap.DictOf knd d kvs) (ho : s.heap.DictOf knd o more)
    (hQ : ∀ h', h'.DictOf knd d (merged kvs more) → h'.DictOf knd o more → Heap.SameBut d s.heap h' → Q () { s with heap := h' })
    (hsz : kvs.length + more.length ≤ sizeLine) :
    wpAny (model prog w) A (mergeMapping d (.ref o) false) Q E s := by
  obtain ⟨od, esd, epd, hod, hcd, hdd, hkd, hpd, hnd⟩ := id hd
  obtain ⟨oo, eso, epo, hoo, hco, hdo', hko, hpo, hno⟩ := id ho
  have hlen : more.length = eso.size := by rw [← hpo.length]; simp
  have loop : wpAny (model prog w) A (do
      let epoch ← dictEpoch o
      forIn (List.range eso.size) PUnit.unit fun i (_ : PUnit) => (do
          let l' ← dictEntries o
          match l'[i]? with
            | some e => do
              holding [e.key, e.val] (dictPut d e.hash e.key e.val)
              let ep' ← dictEpoch o
              if (ep' != epoch) = true then do
                  (unsupported "dict.changed-during-merge" : Sem PUnit)
                  pure (ForInStep.yield PUnit.unit)
                else pure (ForInStep.yield PUnit.unit)
            | _ => do
              (unsupported "dict.changed-during-merge" : Sem PUnit)
              pure (ForInStep.yield PUnit.unit) : Sem (ForInStep PUnit))
      pure ()) Q E s := by
    refine wpAny_bind (wpAny_dictEpoch hoo hdo' ?_)
    refine wpAny_bind ?_
    refine wpAny_forIn_list _
      (fun rest _ s' => ∃ h' i, s' = { s with heap := h' } ∧ rest = (List.range eso.size).drop i ∧ i ≤ eso.size ∧ h'.DictOf knd d (merged kvs (more.take i)) ∧ h'.get? o = some oo ∧ Heap.SameBut d s.heap h')
      _ ?_ ?_ _ _ ⟨s.heap, 0, rfl, rfl, Nat.zero_le _, by simpa [merged] using hd, hoo, Heap.SameBut.refl _ _⟩
    · rintro x rest b s' ⟨h', i, rfl, hr, hi, hd', hoo', hs'⟩
      have hlt : i < eso.size := by
        rcases Nat.lt_or_ge i eso.size with h | h
        · exact h
        · rw [List.drop_of_length_le (by rw [List.length_range]; exact h)] at hr; cases hr
      have hlt' : i < (List.range eso.size).length := by rw [List.length_range]; exact hlt
      rw [List.drop_eq_getElem_cons hlt', List.getElem_range] at hr
      injection hr with h1 hrest
      subst h1
      refine wpAny_bind (wpAny_dictEntries hoo' hdo' ?_)
      rw [Array.getElem?_eq_getElem hlt]
      obtain ⟨kv, hkv⟩ : ∃ kv, more[x]? = some kv := ⟨more[x]'(by rw [hlen]; exact hlt), List.getElem?_eq_getElem _⟩
      obtain ⟨k, v⟩ := kv
      obtain ⟨hkey, hval⟩ := hpo.get? (e := eso[x]) (by simp [hlt]) hkv
      obtain ⟨k', hkey', hhash⟩ := hko eso[x] (Array.getElem_mem hlt)
      obtain rfl : k' = k := knd.inj _ _ _ hkey' hkey
      show wpAny _ _ (holding [eso[x].key, eso[x].val] (dictPut d eso[x].hash eso[x].key eso[x].val) >>= _) _ _ _
      rw [hhash, hval]
      have hmx : (merged kvs (more.take x)).length ≤ sizeLine := by
        have e1 := merged_length_le kvs (more.take x)
        have e2 : (more.take x).length ≤ more.length := by rw [List.length_take]; omega
        omega
      refine wpAny_bind (wpAny_holding (wpAny_dictPut (hsz := hmx) hkey hd' fun h'' hd'' hs'' => ?_))
      have hoo'' : h''.get? o = some oo := (hs''.2 o (Ne.symm hdo)).trans hoo'
      refine wpAny_bind (wpAny_dictEpoch hoo'' hdo' ?_)
      rw [if_neg (by simp)]
      exact wpAny_pure ⟨h'', x + 1, rfl, hrest, hlt, by rw [merged_take_succ kvs more x (k', v) hkv]; exact hd'', hoo'', hs'.trans hs''⟩
    · rintro b s' ⟨h', i, rfl, hr, hi, hd', hoo', hs'⟩
      have hin : i = eso.size := by
        rcases Nat.lt_or_ge i eso.size with h | h
        · have hlt' : i < (List.range eso.size).length := by rw [List.length_range]; exact h
          rw [List.drop_eq_getElem_cons hlt'] at hr; exact nomatch hr
        · exact Nat.le_antisymm hi h
      refine wpAny_pure (hQ h' ?_ ⟨oo, eso, epo, hoo', hco, hdo', hko, hpo, hno⟩ hs')
      rw [hin, ← hlen, List.take_length] at hd'; exact hd'
  have loop2 : wpAny (model prog w) A (dictEntries o >>= fun l => (do
      let epoch ← dictEpoch o
      forIn (List.range l.size) PUnit.unit fun i (_ : PUnit) => (do
          let l' ← dictEntries o
          match l'[i]? with
            | some e => do
              holding [e.key, e.val] (dictPut d e.hash e.key e.val)
              let ep' ← dictEpoch o
              if (ep' != epoch) = true then do
                  (unsupported "dict.changed-during-merge" : Sem PUnit)
                  pure (ForInStep.yield PUnit.unit)
                else pure (ForInStep.yield PUnit.unit)
            | _ => do
              (unsupported "dict.changed-during-merge" : Sem PUnit)
              pure (ForInStep.yield PUnit.unit) : Sem (ForInStep PUnit))
      pure ())) Q E s := wpAny_bind (wpAny_dictEntries hoo hdo' loop)
  unfold mergeMapping
  refine wpAny_bind (m := isInstance (.ref o) (.type "dict")) (wpAny_isInstance ho.typeIs isSubtype_dict_dict ?_)
  simp only [if_true]
  refine wpAny_bind (m := specialOf (.ref o) "__iter__") (wpAny_specialOf ho.typeIs dict_iter ?_)
  rw [show ((some (Value.builtin "dict.__iter__") == some (Value.builtin "dict.__iter__")) = true) from beq_self_eq_true _]
  first | rw [if_neg (by rw [hoS]; exact Bool.false_ne_true)] | (refine wpAny_ite ?_; rw [if_neg (by rw [hoS]; exact Bool.false_ne_true)]) | (refine wpAny_pure ?_; rw [if_neg (by rw [hoS]; exact Bool.false_ne_true)])
  refine wpAny_bind (wpAny_dictEntries hod hdd ?_)
  split
  · refine wpAny_bind (wpAny_dictEntries hoo hdo' ?_)
    refine wpAny_bind ?_
    rw [← Array.forIn_toList]
    refine wpAny_forIn_list _ (fun rest _ s' => s' = s ∧ ∀ e ∈ rest, e ∈ eso.toList) _ ?_ ?_ _ _ ⟨rfl, fun e he => he⟩
    · rintro e rest b s' ⟨rfl, hr⟩
      obtain ⟨k, hk, _⟩ := hko e (Array.mem_toList_iff.mp (hr e List.mem_cons_self))
      have hrest : ∀ e' ∈ rest, e' ∈ eso.toList := fun e' he' => hr e' (List.mem_cons_of_mem _ he')
      cases hkey : e.key with
      | ref a =>
        rw [hkey, hkr] at hk
        cases hk
      | _ => exact wpAny_pure ⟨rfl, hrest⟩
    · rintro b s' ⟨rfl, _⟩
      exact loop2
  · exact loop2
end
end Fk

set_option maxHeartbeats 4000000
namespace Fk
open PySem PySem.Spec PyProof.Rows L2
section
variable {prog : Program} {w : World} {K : Type} [DecidableEq K] {knd : KeyKind prog w K} {A : Around} {E : Value → Shared → Prop} {s : Shared} {Q : Value → Shared → Prop}
theorem wp_stars {items : List (Option (Sem Value) × Sem Value)} (hkr : ∀ (k : K) (a : Addr), knd.is k (.ref a) = false) (hn : ∀ x ∈ items, x.1 = none) (hne : items ≠ []) (R : List (Option (Sem Value) × Sem Value) → Addr → Shared → Prop)
    (h0 : R items s.heap.objs.size { s with heap := s.heap.push { cls := .type "dict", data := .dict #[] } })
    (hs : ∀ x rest p s1, R (x :: rest) p s1 → wpAny (model prog w) A x.2 (fun m s2 => ∃ (a : Addr) (kvs more : List (K × Value)), m = .ref a ∧ p ≠ a ∧ (a == sysModules) = false ∧ s2.heap.DictOf knd p kvs ∧ s2.heap.DictOf knd a more ∧ kvs.length + more.length ≤ sizeLine ∧
      ∀ h', h'.DictOf knd p (merged kvs more) → h'.DictOf knd a more → Heap.SameBut p s2.heap h' → R rest p { s2 with heap := h' }) E s1)
    (hd : ∀ p s1, R [] p s1 → Q (.ref p) s1) : wpAny (model prog w) A (dictDisplay items) Q E s := by
  unfold dictDisplay
  dsimp only
  have turn : ∀ (x : Option (Sem Value) × Sem Value) (rest : List (Option (Sem Value) × Sem Value)) (p : Addr) (s1 : Shared) {Q' : ForInStep (Option Addr × List (Sem Value × Sem Value)) → Shared → Prop}, R (x :: rest) p s1 → (∀ s2, R rest p s2 → Q' (.yield (some p, [])) s2) →
      wpAny (model prog w) A (do
        let m ← holding [Value.ref p] x.2
        (((holding [Value.ref p, m] (mergeMapping p m false)).onRaise fun y => do
                    let _ ← holding [Value.ref p, m, y] (runValue (Code.builtin "proto.let_go" { }))
                    pure ()).tryCatch
                fun e => do
                let b ← isInstance e (Value.type "AttributeError")
                if b = true then do
                    rule "dict.display.not-a-mapping"
                    let n ← typeNameOf m
                    raiseErrorMade "TypeError"
                        (toString "'" ++ toString n ++ toString "' object is not a mapping")
                    throw e
                  else throw e).onRaise
            fun y => do
            let _ ← holding [Value.ref p, y] (runValue (Code.builtin "proto.let_go" { }))
            pure ()
        pure (ForInStep.yield (some p, ([] : List (Sem Value × Sem Value))))) Q' E s1 := by
    intro x rest p s1 Q' hr hq
    refine wpAny_bind (wpAny_holding (wpAny_mono (hs x rest p s1 hr) (fun m s2 q => ?_) fun _ _ e => e))
    obtain ⟨a, kvs, more, rfl, hpa, hoS, dp, da, hz, k⟩ := q
    refine wpAny_bind (wpAny_onRaise (wpAny_tryCatch (wpAny_onRaise (wpAny_holding (wpAny_mergeMapping hkr hpa hoS dp da (fun h' d1 d2 sb => ?_) hz)))))
    exact wpAny_pure (hq _ (k h' d1 d2 sb))
  refine wpAny_bind ?_
  refine wpAny_forIn_list _ (fun rest b s' => b.2 = [] ∧ (∀ x ∈ rest, x.1 = none) ∧ ((b.1 = none ∧ s' = s ∧ rest = items) ∨ ∃ p, b.1 = some p ∧ R rest p s')) _ ?_ ?_ _ _ ⟨rfl, hn, .inl ⟨rfl, rfl, rfl⟩⟩
  · rintro ⟨k, v⟩ rest ⟨main, run⟩ s' ⟨hb, hk, h⟩
    have hk0 : k = none := hk (k, v) List.mem_cons_self
    have hkr' : ∀ x ∈ rest, x.1 = none := fun x hx => hk x (List.mem_cons_of_mem _ hx)
    subst hk0
    dsimp only at hb h
    subst hb
    rcases h with ⟨rfl, rfl, rfl⟩ | ⟨p, rfl, hr⟩
    · refine wpAny_bind (wpAny_pure ?_)
      dsimp only
      refine wpAny_bind (wpAny_alloc ?_)
      exact turn (none, v) rest _ _ h0 fun s2 q => ⟨rfl, hkr', .inr ⟨_, rfl, q⟩⟩
    · refine wpAny_bind (wpAny_pure ?_)
      dsimp only
      refine wpAny_bind (wpAny_pure ?_)
      exact turn (none, v) rest p s' hr fun s2 q => ⟨rfl, hkr', .inr ⟨_, rfl, q⟩⟩
  · rintro ⟨main, run⟩ s' ⟨hb, _, h⟩
    dsimp only at hb h
    subst hb
    rcases h with ⟨_, _, e⟩ | ⟨p, rfl, hr⟩
    · exact (hne e.symm).elim
    · refine wpAny_bind (wpAny_pure ?_)
      exact wpAny_pure (hd p s' hr)
end
/-- the dict at p takes the dicts in turn -/
def goStars : List TE → Addr → TE
  | [], p => fun _ H Q => Q (.ref p) H
  | t :: ts, p => fun σ H Q => t σ H fun x H1 => ∃ (a : Addr) (kvs more : List (Key × V)), x = .ref a ∧ p ≠ a ∧ H1 p = some (.dK kvs) ∧ H1 a = some (.dK more) ∧ kvs.length + more.length ≤ sizeLine ∧ goStars ts p σ (upd H1 p (.dK (mergeK kvs more))) Q
def tStars (ts : List TE) : TE := fun σ H Q => ∀ p, H p = none → goStars ts p σ (upd H p (.dK [])) Q
theorem mix_noref {P : Program} {w : World} (k : Key) (a : Addr) : (mixKind P w).is k (.ref a) = false := by
  cases k <;> rfl
/-- {**e1, **e2, ..} -/
inductive StE (X : Cx) : List Expr → List TE → Prop where
  | nil : StE X [] []
  | cons {e : Expr} {es : List Expr} {t : TE} {ts : List TE} (h : PE X e t) (hs : StE X es ts) : StE X (e :: es) (t :: ts)
theorem pe_stars {X : Cx} {keys : List (Option Expr)} {values : List Expr} {pos : Pos} {ts : List TE} (h : StE X values ts) (hv : values ≠ []) (hk : keys = values.map fun _ => none) : PE X (.Dict keys values pos) (tStars ts) := by
  refine ⟨fun pins s σ H Q I q => ?_⟩
  have hn := I.hok.fresh (Nat.le_refl s.heap.objs.size)
  have I1 := I.laid (a := s.heap.objs.size) (o := .dK []) (h' := s.heap.push { cls := .type "dict", data := .dict #[] }) (t' := s.toks) (fun _ _ q => Heap.get?_push_of_some _ q) (Nat.le_refl _) (dk_empty s.heap I.big)
  rw [arm_eval_Dict]
  subst hk
  refine wpAny_bind (wpAny_standAt ?_)
  have hz : ∀ vs : List Expr, (evalEachOpt (vs.map fun _ => (none : Option Expr)) X.env).zip ((evalEach vs X.env).map fun v => do let x ← v; standAt pos; pure x) = vs.map fun e => ((none : Option (Sem Value)), (do let x ← eval e X.env; standAt pos; pure x : Sem Value)) := by
    intro vs
    induction vs with
    | nil => rfl
    | cons e r ih =>
      show ((none : Option (Sem Value)), (do let x ← eval e X.env; standAt pos; pure x : Sem Value)) :: _ = _
      rw [List.map_cons]
      congr 1
  rw [hz]
  refine wp_stars (knd := mixKind X.prog X.w) mix_noref (fun x hx => ?_) ?_ (fun rest p s' => ∃ es us H', rest = es.map (fun e => ((none : Option (Sem Value)), (do let x ← eval e X.env; standAt pos; pure x : Sem Value))) ∧ StE X es us ∧ Inv X pins σ H' s' ∧ goStars us p σ H' Q) ⟨values, ts, _, rfl, h, I1, q _ hn⟩ ?_ ?_
  · obtain ⟨e, _, rfl⟩ := List.mem_map.mp hx
    rfl
  · intro z
    exact hv (List.map_eq_nil_iff.mp z)
  · rintro x rest p s1 ⟨es, us, H', er, hs, I', g⟩
    cases hs with
    | nil => cases er
    | @cons e es t us he hs =>
      rw [List.map_cons] at er
      injection er with e1 e2
      subst e1
      subst e2
      refine wpAny_bind (wpAny_mono (he.run pins s1 σ H' _ I' g) (fun v s2 z => ?_) fun _ _ x => x)
      obtain ⟨y, H2, I2, ry, a, kvs, more, rfl, hpa, hp, ha, hz2, g2⟩ := z
      cases (show v = Value.ref a from ry)
      refine wpAny_bind (wpAny_standAt (wpAny_pure ?_))
      obtain ⟨z1, hd1, vs1, r1, d1⟩ := dk_of I2.hok hp
      obtain ⟨z2, hd2, vs2, r2, d2⟩ := dk_of I2.hok ha
      refine ⟨a, vs1, vs2, rfl, hpa, hd2, d1, d2, by rw [← r1.length, ← r2.length]; exact hz2, fun h' e1 e2 sb => ⟨es, us, _, rfl, hs, ?_, g2⟩⟩
      have he : ∃ q, h'.get? p = some q := let ⟨q, _, _, hq, _⟩ := e1; ⟨q, hq⟩
      refine d_write I2 (by rw [hp]; exact True.intro) sb he (dk_new ?_ hd1 (r2.merge r1) e1)
      have := length_mergeK more kvs
      omega
  · rintro p s1 ⟨es, us, H', er, hs, I', g⟩
    cases hs with
    | nil => exact ⟨.ref p, H', I', rfl, g⟩
    | cons => cases er
end Fk

set_option maxHeartbeats 4000000
/-! dicts of data: what they hold, == and != of them; repr. -/
namespace Fk
open PySem PySem.Spec PyProof.Rows L2
/-- a dict's entries are these data -/
def DD (K : PySem.W.Frag) (H : Hp) (kvs : List (Key × V)) (ds : List (Key × PyData)) : Prop := Paired (fun p q => p.1 = q.1 ∧ Dp K H p.2 q.2) kvs ds
def DatAt (K : PySem.W.Frag) (H : Hp) (a : Addr) (ds : List (Key × PyData)) : Prop := ∃ kvs, H a = some (.dK kvs) ∧ DD K H kvs ds
def valD (ds : List (Key × PyData)) (k : Key) : Option PyData := (ds.find? fun p => decide (p.1 = k)).map (·.2)
theorem valD_pos {p : Key × PyData} {r : List (Key × PyData)} {k : Key} (e : p.1 = k) : valD (p :: r) k = some p.2 := by simp [valD, List.find?_cons, e]
theorem valD_neg {p : Key × PyData} {r : List (Key × PyData)} {k : Key} (e : ¬ p.1 = k) : valD (p :: r) k = valD r k := by simp [valD, List.find?_cons, e]
def hitD (es : List (Key × PyData)) (p : Key × PyData) : Bool := match valD es p.1 with
  | none => false
  | some e => PyData.eqv p.2 e
def eqvDict (ds es : List (Key × PyData)) : Bool := decide (ds.length = es.length) && ds.all (hitD es)
def shapedAll (ds : List (Key × PyData)) : Prop := ∀ p ∈ ds, SeqAt.shaped p.2 = true
theorem DD.val {K : PySem.W.Frag} {H : Hp} {kvs : List (Key × V)} {ds : List (Key × PyData)} (h : DD K H kvs ds) (k : Key) : (valV kvs k = none ∧ valD ds k = none) ∨ ∃ v d, valV kvs k = some v ∧ valD ds k = some d ∧ Dp K H v d := by
  unfold DD at h
  induction h with
  | nil => exact .inl ⟨rfl, rfl⟩
  | @cons p q ps qs h t ih =>
    obtain ⟨h1, h2⟩ := h
    by_cases e : p.1 = k
    · exact .inr ⟨p.2, q.2, valV_pos e, valD_pos (h1 ▸ e), h2⟩
    · rw [valV_neg e, valD_neg (h1 ▸ e)]
      exact ih
theorem DD.len {K : PySem.W.Frag} {H : Hp} {kvs : List (Key × V)} {ds : List (Key × PyData)} (h : DD K H kvs ds) : kvs.length = ds.length := Paired.length h
mutual
theorem dp_same {K : PySem.W.Frag} {H H' : Hp} (f : Same H H') : ∀ {v : V} {d : PyData}, Dp K H v d → Dp K H' v d
  | _, _, .non => .non
  | _, _, .bl b => .bl b
  | _, _, .int i => .int i
  | _, _, .str x => .str x
  | _, _, .lst hs ha => .lst (by
      rcases hs with (h | ⟨o, h⟩) | h
      · exact .inl (.inl (f _ _ h))
      · exact .inl (.inr ⟨o, f _ _ h⟩)
      · exact .inr h) (dpAll_same f ha)
  | _, _, .tup hs ha => .tup (by
      rcases hs with (h | ⟨o, h⟩) | h
      · exact .inl (.inl (f _ _ h))
      · exact .inl (.inr ⟨o, f _ _ h⟩)
      · exact .inr h) (dpAll_same f ha)
theorem dpAll_same {K : PySem.W.Frag} {H H' : Hp} (f : Same H H') : ∀ {vs : List V} {ds : List PyData}, DpAll K H vs ds → DpAll K H' vs ds
  | _, _, .nil => .nil
  | _, _, .cons h t => .cons (dp_same f h) (dpAll_same f t)
end
theorem DD.same {K : PySem.W.Frag} {H H' : Hp} {kvs : List (Key × V)} {ds : List (Key × PyData)} (h : DD K H kvs ds) (f : Same H H') : DD K H' kvs ds := by
  unfold DD at h ⊢
  induction h with
  | nil => exact .nil
  | cons h t ih => exact .cons ⟨h.1, dp_same f h.2⟩ ih
theorem DatAt.same {K : PySem.W.Frag} {H H' : Hp} {a : Addr} {ds : List (Key × PyData)} (h : DatAt K H a ds) (f : Same H H') : DatAt K H' a ds := by
  obtain ⟨kvs, e, d⟩ := h
  exact ⟨kvs, f _ _ e, d.same f⟩
theorem room66 {k : Nat} {A : Around} (r : Room k A) : A.units + 66 < cLine := by
  have := r.un
  omega
section
variable {X : Cx}
theorem hits_data {pins : List (Addr × Obj)} {σ : L2.St} {H : Hp} {s : Shared} {A : Around} (I : Inv X pins σ H s) (hu : A.units + 64 < cLine) {ls : List (Key × V)} {es : List (Key × PyData)} {vb : List (Key × Value)} (rb : KV ls vb) (hb : DD X.K H ls es) (se : shapedAll es) {ks : List (Key × V)} {ds : List (Key × PyData)} {va : List (Key × Value)}
    (ra : KV ks va) (hd : DD X.K H ks ds) (sd : shapedAll ds) : PySem.W.KeqHits A s vb va (ds.all (hitD es)) := by
  unfold KV at ra
  unfold DD at hd
  induction ra generalizing ds with
  | nil =>
    cases hd
    exact .nil
  | @cons p q ps qs h t ih =>
    cases hd with
    | @cons _ d _ ds hd1 hds =>
      obtain ⟨h1, h2⟩ := h
      obtain ⟨e1, e2⟩ := hd1
      obtain ⟨key, v⟩ := q
      have h1' : p.1 = key := h1
      have tl := ih hds (fun x hx => sd x (List.mem_cons_of_mem _ hx))
      rw [List.all_cons]
      rcases hb.val key with ⟨n1, n2⟩ | ⟨y, e, v1, v2, dy⟩
      · have : hitD es d = false := by
          unfold hitD
          rw [← e1, h1', n2]
        rw [this, Bool.false_and]
        refine .miss ?_
        have rr : RelO none (valueAt vb key) := by rw [← n1]; exact rb.val key
        cases z : valueAt vb key with
        | none => rfl
        | some u =>
          rw [z] at rr
          cases rr
      · have : hitD es d = PyData.eqv d.2 e := by
          unfold hitD
          rw [← e1, h1', v2]
        rw [this]
        have rr : RelO (some y) (valueAt vb key) := by rw [← v1]; exact rb.val key
        obtain ⟨u, hy, ry⟩ := rr.some_of
        obtain ⟨as, r1⟩ := Dp.reads I d.2 p.2 v e2 h2
        obtain ⟨bs, r2⟩ := Dp.reads I e y u dy ry
        have s1 := sd d List.mem_cons_self
        have s2 : SeqAt.shaped e = true := by
          unfold valD at v2
          cases z : es.find? (fun p => decide (p.1 = key)) with
          | none => rw [z] at v2; cases v2
          | some w =>
            rw [z] at v2
            cases v2
            exact se _ (List.mem_of_find?_eq_some z)
        exact .hit hy (SeqAt.eqAt_reads d.2 e A s v u as bs r1 r2 (SeqAt.canLay_of_shaped s1) (SeqAt.canLay_of_shaped s2) (SeqAt.room_of_shaped s1 hu)) tl
/-- d == e of dicts of data -/
def rEqDD (K : PySem.W.Frag) : R2 := fun x y H Q => ∃ a b ds es, x = .ref a ∧ y = .ref b ∧ DatAt K H a ds ∧ DatAt K H b es ∧ shapedAll ds ∧ shapedAll es ∧ Q (.bl (eqvDict ds es)) H
def rNeDD (K : PySem.W.Frag) : R2 := fun x y H Q => ∃ a b ds es, x = .ref a ∧ y = .ref b ∧ DatAt K H a ds ∧ DatAt K H b es ∧ shapedAll ds ∧ shapedAll es ∧ Q (.bl (!eqvDict ds es)) H
theorem op_eqDD (hu : X.A.units + 66 < cLine) : OpR X (compareOp .Eq) (rEqDD X.K) := by
  intro pins s σ H x y v u Q I rx ry h
  obtain ⟨a, b, ds, es, rfl, rfl, ⟨ks, ea, da⟩, ⟨ls, eb, db⟩, sd, se, q⟩ := h
  obtain rfl : v = Value.ref a := rx
  obtain rfl : u = Value.ref b := ry
  obtain ⟨_, ya, va, ra, dda⟩ := (show ObjOk X.prog X.w H s.heap a (.dK ks) from I.hok a _ ea)
  obtain ⟨_, yb, vb, rb, ddb⟩ := (show ObjOk X.prog X.w H s.heap b (.dK ls) from I.hok b _ eb)
  have e : (va.length == vb.length && ds.all (hitD es)) = eqvDict ds es := by
    unfold eqvDict
    rw [← ra.length, ← rb.length, da.len, db.len]
    rfl
  refine PySem.W.keq_eq (knd := mixKind X.prog X.w) (r := ds.all (hitD es)) ya yb dda ddb (by omega) (fun _ => hits_data I ?_ rb db se ra da sd) ?_
  · show X.A.units + 1 + 64 < cLine
    omega
  · rw [e]
    exact ⟨.bl _, H, I, rfl, q⟩
theorem op_neDD (hu : X.A.units + 66 < cLine) : OpR X (compareOp .NotEq) (rNeDD X.K) := by
  intro pins s σ H x y v u Q I rx ry h
  obtain ⟨a, b, ds, es, rfl, rfl, ⟨ks, ea, da⟩, ⟨ls, eb, db⟩, sd, se, q⟩ := h
  obtain rfl : v = Value.ref a := rx
  obtain rfl : u = Value.ref b := ry
  obtain ⟨_, ya, va, ra, dda⟩ := (show ObjOk X.prog X.w H s.heap a (.dK ks) from I.hok a _ ea)
  obtain ⟨_, yb, vb, rb, ddb⟩ := (show ObjOk X.prog X.w H s.heap b (.dK ls) from I.hok b _ eb)
  have e : (va.length == vb.length && ds.all (hitD es)) = eqvDict ds es := by
    unfold eqvDict
    rw [← ra.length, ← rb.length, da.len, db.len]
    rfl
  refine PySem.W.keq_ne (knd := mixKind X.prog X.w) (r := ds.all (hitD es)) ya yb dda ddb (by omega) (fun _ => hits_data I ?_ rb db se ra da sd) ?_
  · show X.A.units + 1 + 64 < cLine
    omega
  · rw [e]
    exact ⟨.bl _, H, I, rfl, q⟩
end
end Fk

set_option maxHeartbeats 4000000
/-! Walks and comprehensions by an invariant, over lists, tuples, dicts; a raise within a locked walk; frames. -/
namespace Fk
open PySem PySem.Spec PyProof.Rows L2
/-! ### frames -/
/-- all that was tracked is as it was, but what stands at L -/
def FrL (L : List Addr) (H H' : Hp) : Prop := ∀ b o, b ∉ L → H b = some o → H' b = some o
theorem FrL.refl (L : List Addr) (H : Hp) : FrL L H H := fun _ _ _ h => h
theorem FrL.trans {L : List Addr} {H H1 H2 : Hp} (x : FrL L H H1) (y : FrL L H1 H2) : FrL L H H2 := fun b o n h => y b o n (x b o n h)
theorem FrL.mono {L M : List Addr} {H H' : Hp} (x : FrL L H H') (h : ∀ a ∈ L, a ∈ M) : FrL M H H' := fun b o n e => x b o (fun z => n (h b z)) e
theorem FrL.at {L : List Addr} {a : Addr} {H : Hp} {o : HO} (h : a ∈ L) : FrL L H (upd H a o) := fun b u n e => by
  have z : b ≠ a := fun z => n (by rw [z]; exact h)
  rw [upd_ne z]
  exact e
theorem FrL.same {L : List Addr} {H H' : Hp} (h : Same H H') : FrL L H H' := fun b o _ e => h b o e
theorem FrL.to {H H' : Hp} (h : FrL [] H H') : Same H H' := fun b o e => h b o (fun z => nomatch z) e
theorem FrL.of {a : Addr} {H H' : Hp} (h : Fr a H H') : FrL [a] H H' := fun b o n e => h b o (fun z => n (z ▸ List.mem_singleton_self a)) e
theorem FrL.new {L : List Addr} {p : Addr} {H : Hp} {o : HO} (h : H p = none) : FrL L H (upd H p o) := FrL.same (same_new h)
/-! ### what is yielded -/
theorem yields_keys {d : Addr} {o : Obj} {kvs : List (Key × V)} : Yields (Itk d o kvs) (kvs.map fun p => kV p.1) (fun H => H d = some (.frz o (.dK kvs))) where
  go := fun k H g h => ⟨g, by rw [List.length_map] at h; exact h⟩
  stop := fun H g => ⟨g, by rw [List.length_map]; exact Nat.le_refl _⟩
  yld := fun k H x H' _ g h => by
    obtain ⟨e, key, v, hk, hx⟩ := h
    refine ⟨e, ?_⟩
    rw [List.getElem?_map, hk, hx]
    rfl
theorem yields_tup {K : PySem.W.Frag} {a : Addr} {xs : List V} : Yields (Itt K a) xs (fun H => SqT K H a xs) where
  go := fun k H g h => ⟨xs, xs[k], g, List.getElem?_eq_getElem h⟩
  stop := fun H g => ⟨xs, g, Nat.le_refl _⟩
  yld := fun k H x H' _ g h => ⟨h.1, h.2 xs g⟩
/-! ### comprehensions -/
theorem lcG {J : It} {items : List V} {G : Hp → Prop} {H1 : Hp} {D : Addr} {σ : L2.St} {vs : List Nat} {g : TG} {tt : TT} {te : TE} {Q : Hp → Prop} (Y : Yields J items G) (I : Nat → List V → Hp → Prop)
    (hG : ∀ k acc H, I k acc H → H D = some (.lst acc) → G H) (h0 : I 0 [] (upd H1 D (.lst [])))
    (hs : ∀ k acc H x, I k acc H → H D = some (.lst acc) → items[k]? = some x → acc.length ≤ k → k < 1000000 → g x (wipe σ vs) H fun σ2 H2 => wipe σ2 vs = wipe σ vs ∧ tt σ2 H2 fun b H3 =>
      if b = true then te σ2 H3 fun y H4 => ∃ acc, H4 D = some (.lst acc) ∧ acc.length < sizeLine ∧ LcN I D (k + 1) (upd H4 D (.lst (acc ++ [y]))) else LcN I D (k + 1) H3)
    (hl : items.length ≤ 1000000) (hd : ∀ acc H, I items.length acc H → H D = some (.lst acc) → acc.length ≤ items.length → Q H) :
    ∃ W : Nat → Nat → Hp → Prop, (∃ m, W 0 m (upd H1 D (.lst []))) ∧ ∀ k m H, W k m H →
      (J.stop k H ∧ Q H) ∨ (J.go k H ∧ ∃ Nx : Hp → Prop, (∀ H', Nx H' → ∃ m', m' < m ∧ W (k + 1) m' H') ∧ ∀ x H', J.yld k H x H' → g x (wipe σ vs) H' fun σ2 H2 => wipe σ2 vs = wipe σ vs ∧ tt σ2 H2 fun b H3 =>
        if b = true then te σ2 H3 fun y H4 => ∃ acc, H4 D = some (.lst acc) ∧ acc.length < sizeLine ∧ Nx (upd H4 D (.lst (acc ++ [y]))) else Nx H3) := by
  refine ⟨fun k m H => m = items.length - k ∧ k ≤ items.length ∧ LcN I D k H, ⟨items.length, by omega, Nat.zero_le _, [], upd_same, Nat.zero_le _, h0⟩, ?_⟩
  rintro k m H ⟨rfl, hk, acc, hD, hacc, hI⟩
  by_cases hlt : k < items.length
  · refine .inr ⟨Y.go k H (hG _ _ _ hI hD) hlt, LcN I D (k + 1), fun H' q => ⟨items.length - (k + 1), by omega, rfl, hlt, q⟩, fun x H' y => ?_⟩
    obtain ⟨rfl, hx⟩ := Y.yld k H x H' hlt (hG _ _ _ hI hD) y
    exact hs k acc _ x hI hD hx hacc (by omega)
  · have e : k = items.length := by omega
    subst e
    exact .inl ⟨Y.stop H (hG _ _ _ hI hD), hd acc H hI hD hacc⟩
/-- behind k turns of a dict's comprehension -/
def DcN (I : Nat → List (Key × V) → Hp → Prop) (D : Addr) (k : Nat) (H : Hp) : Prop := ∃ kvs, H D = some (.dK kvs) ∧ kvs.length ≤ k ∧ I k kvs H
theorem dc_take {I : Nat → List (Key × V) → Hp → Prop} {D : Addr} {k : Nat} {H5 : Hp} {key : Key} {z : V} {kvs : List (Key × V)} (h : H5 D = some (.dK kvs)) (l : kvs.length ≤ k) (hk : k < 1000000) (q : I (k + 1) (putK kvs key z) (upd H5 D (.dK (putK kvs key z)))) :
    ∃ kvs k', (kV key) = kV k' ∧ H5 D = some (.dK kvs) ∧ kvs.length < sizeLine ∧ DcN I D (k + 1) (upd H5 D (.dK (putK kvs k' z))) :=
  ⟨kvs, key, rfl, h, small_lt (by omega), _, upd_same, by have := length_putK kvs key z; omega, q⟩
theorem dc_skip {I : Nat → List (Key × V) → Hp → Prop} {D : Addr} {k : Nat} {H5 : Hp} {kvs : List (Key × V)} (h : H5 D = some (.dK kvs)) (l : kvs.length ≤ k) (q : I (k + 1) kvs H5) : DcN I D (k + 1) H5 := ⟨kvs, h, by omega, q⟩
theorem dcG {J : It} {items : List V} {G : Hp → Prop} {H1 : Hp} {D : Addr} {σ : L2.St} {vs : List Nat} {g : TG} {tt : TT} {tk tv : TE} {Q : Hp → Prop} (Y : Yields J items G) (I : Nat → List (Key × V) → Hp → Prop)
    (hG : ∀ k kvs H, I k kvs H → H D = some (.dK kvs) → G H) (h0 : I 0 [] (upd H1 D (.dK [])))
    (hs : ∀ k kvs H x, I k kvs H → H D = some (.dK kvs) → items[k]? = some x → kvs.length ≤ k → k < 1000000 → g x (wipe σ vs) H fun σ2 H2 => wipe σ2 vs = wipe σ vs ∧ tt σ2 H2 fun b H3 =>
      if b = true then tk σ2 H3 fun y H4 => tv σ2 H4 fun z H5 => ∃ kvs key, y = kV key ∧ H5 D = some (.dK kvs) ∧ kvs.length < sizeLine ∧ DcN I D (k + 1) (upd H5 D (.dK (putK kvs key z))) else DcN I D (k + 1) H3)
    (hl : items.length ≤ 1000000) (hd : ∀ kvs H, I items.length kvs H → H D = some (.dK kvs) → kvs.length ≤ items.length → Q H) :
    ∃ W : Nat → Nat → Hp → Prop, (∃ m, W 0 m (upd H1 D (.dK []))) ∧ ∀ k m H, W k m H →
      (J.stop k H ∧ Q H) ∨ (J.go k H ∧ ∃ Nx : Hp → Prop, (∀ H', Nx H' → ∃ m', m' < m ∧ W (k + 1) m' H') ∧ ∀ x H', J.yld k H x H' → g x (wipe σ vs) H' fun σ2 H2 => wipe σ2 vs = wipe σ vs ∧ tt σ2 H2 fun b H3 =>
        if b = true then tk σ2 H3 fun y H4 => tv σ2 H4 fun z H5 => ∃ kvs key, y = kV key ∧ H5 D = some (.dK kvs) ∧ kvs.length < sizeLine ∧ Nx (upd H5 D (.dK (putK kvs key z))) else Nx H3) := by
  refine ⟨fun k m H => m = items.length - k ∧ k ≤ items.length ∧ DcN I D k H, ⟨items.length, by omega, Nat.zero_le _, [], upd_same, Nat.zero_le _, h0⟩, ?_⟩
  rintro k m H ⟨rfl, hk, kvs, hD, hacc, hI⟩
  by_cases hlt : k < items.length
  · refine .inr ⟨Y.go k H (hG _ _ _ hI hD) hlt, DcN I D (k + 1), fun H' q => ⟨items.length - (k + 1), by omega, rfl, hlt, q⟩, fun x H' y => ?_⟩
    obtain ⟨rfl, hx⟩ := Y.yld k H x H' hlt (hG _ _ _ hI hD) y
    exact hs k kvs _ x hI hD hx hacc (by omega)
  · have e : k = items.length := by omega
    subst e
    exact .inl ⟨Y.stop H (hG _ _ _ hI hD), hd kvs H hI hD hacc⟩
/-! ### walks -/
theorem forG {J : It} {items : List V} {G : Hp → Prop} {g : TG} {tb : TS} {D : Ends} {σ : L2.St} {H : Hp} (Y : Yields J items G) (Pv : Nat → L2.St → Hp → Prop) (h0 : Pv 0 σ H) (hG : ∀ i σ H, Pv i σ H → G H)
    (hs : ∀ i x σ H, items[i]? = some x → Pv i σ H → g x σ H fun σ2 H2 => tb { D with nx := Pv (i + 1), ct := Pv (i + 1), bk := D.nx } σ2 H2) (hd : ∀ σ H, Pv items.length σ H → D.nx σ H) :
    ∃ W : Nat → Nat → L2.St → Hp → Prop, (∃ m, W 0 m σ H) ∧ ∀ i m σ H, W i m σ H →
      (J.stop i H ∧ D.nx σ H) ∨ (J.go i H ∧ ∃ N : L2.St → Hp → Prop, (∀ σ' H', N σ' H' → ∃ m', m' < m ∧ W (i + 1) m' σ' H') ∧ ∀ x H', J.yld i H x H' → g x σ H' fun σ2 H2 => tb { D with nx := N, ct := N, bk := D.nx } σ2 H2) := by
  refine ⟨fun i m σ H => m = items.length - i ∧ i ≤ items.length ∧ Pv i σ H, ⟨items.length, by omega, Nat.zero_le _, h0⟩, ?_⟩
  rintro i m σ H ⟨rfl, hi, p⟩
  by_cases hlt : i < items.length
  · refine .inr ⟨Y.go i H (hG _ _ _ p) hlt, Pv (i + 1), fun σ' H' p' => ⟨items.length - (i + 1), by omega, rfl, hlt, p'⟩, fun x H' y => ?_⟩
    obtain ⟨rfl, hx⟩ := Y.yld i H x H' hlt (hG _ _ _ p) y
    exact hs i x σ _ hx p
  · have e : i = items.length := by omega
    subst e
    exact .inl ⟨Y.stop H (hG _ _ _ p), hd σ H p⟩
/-! ### a raise within a locked walk -/
/-- what is let out of a locked walk, told of the heap with the lock off -/
def wLock (X : Cx) (W : WX) : WX := fun cls dd σ H => ∃ (d : Addr) (od : Obj) (u : HO), H d = some (.frz od u) ∧ (∀ o' u', X.H_0 d ≠ some (.frz o' u')) ∧ W cls dd σ (upd H d u)
theorem takes_lock {X : Cx} {W : WX} (tk : Takes X W) : Takes X (wLock X W) := by
  rintro v s' ⟨a, B, sI, pins, σ, H, cls, dd, e, I, nb, up, sky, na, os, ag, d, od, u, hd, hn, w⟩
  refine tk v s' ⟨a, B, sI, pins, σ, upd H d u, cls, dd, e, I.unlock hd hn, nb, up, sky, ?_, os, ag, w⟩
  rw [upd_ne (fun z => by rw [z, hd] at na; cases na)]
  exact na
end Fk

set_option maxHeartbeats 4000000
/-! A dict's comprehension that is given a name; tables with texts as keys; texts in order. -/
namespace Fk
open PySem PySem.Spec PyProof.Rows L2
section
variable {X : Cx}
theorem sw_trueD {kx vx : Expr} {gs : List Comprehension} {scope : Scope} {pos py : Pos} {y : Str} {l : Nat} {env : Env} (hk : env.scope.kind = .function) (hy : env.scope.names.lookup y = some .local) (hl : (py.line == pos.line) = true)
    (ha : (scope.names.any fun (n, k) => n == y && (k == .local || k == .cell)) = false) : swapsWith (.DictComp kx vx gs scope pos) (some (.Name y py)) l env = pure true := by
  have ky : env.kindOf y = some .local := hy
  have hb : env.blockKind = .function := by unfold Env.blockKind; rw [hk]; rfl
  unfold swapsWith
  simp only [hb, ky, ha, Expr.pos, hl]
  rfl
/-- name = {k: v for ..} on one line, the name a local -/
theorem ps_setDc {i : Nat} {y : Str} {py : Pos} {kx vx tg iter : Expr} {ifs : List Expr} {scope : Scope} {own : List (Str × Nat)} {pos spos : Pos} {wi : TI} {g : TG} {tt : TT} {tk tv : TE} (hc : X.calm = true) (hN : X.N.Nodup) (hy : X.N[i]? = some y) (hyl : X.env.scope.names.lookup y = some .local)
    (hsw : swapsWith (.DictComp kx vx [⟨tg, iter, ifs, 0⟩] scope pos) (some (.Name y py)) spos.line X.env = pure true) (hi : PI X tg iter wi) (ok : BlkOk X.N X.env.scope scope own)
    (hg : ∀ (s : Shared) (H : Hp) (C : Addr) (cl : List (Str × Addr)) (fp : List Addr), PG (X.blk s H scope (compEnvC scope cl C X.env) fp) tg g) (ht : ∀ (s : Shared) (H : Hp) (C : Addr) (cl : List (Str × Addr)) (fp : List Addr), PTs (X.blk s H scope (compEnvC scope cl C X.env) fp) ifs tt)
    (hk : ∀ (s : Shared) (H : Hp) (C : Addr) (cl : List (Str × Addr)) (fp : List Addr), PE (X.blk s H scope (compEnvC scope cl C X.env) fp) kx tk)
    (he : ∀ (s : Shared) (H : Hp) (C : Addr) (cl : List (Str × Addr)) (fp : List Addr), PE (X.blk s H scope (compEnvC scope cl C X.env) fp) vx tv) (hs : ∀ x, foldedSetIterable iter X.env x = pure x := by intro _; rfl) :
    PS X (.Assign [.Name y py] (.DictComp kx vx [⟨tg, iter, ifs, 0⟩] scope pos) spos) (tAsg (tDc wi g tt tk tv (own.map (·.2))) (gName i)) := by
  refine ⟨fun pins s σ H D I h => ?_⟩
  rw [exec_Assign_Name_used _ _ _ _ hsw]
  refine wpAny_bind (wpAny_standAt (wpAny_bind ?_))
  show wpAny _ X.A (do let _ ← comprehension (.DictComp kx vx [⟨tg, iter, ifs, 0⟩] scope pos) scope X.env (firstIterPos [⟨tg, iter, ifs, 0⟩] pos) newDict false (eval iter X.env) (some (assign (.Name y py) X.env))) _ _ s
  have h : tDc wi g tt tk tv (own.map (·.2)) σ H (fun x H1 => gName i x σ H1 D.nx) := h
  refine wpAny_bind (thn (dc_core (Qf := fun _ s' => SP X pins D .next s') hc hN I hi ok hg ht hk he hs h fun L C s' m H' I' q hn f => ?_) fun _ s' hq => wpAny_pure (wpAny_pure hq))
  show wpAny _ _ (assign (.Name y py) X.env (.ref L)) _ _ _
  refine wpAny_assign_Name (store_ok2 (v := V.ref L) I' hN hy (.inl hyl) rfl (fun s2 I2 ⟨a, sb, ha⟩ => ?_) (.inr hyl))
  obtain ⟨f0, f1, f2, f3, f4, f5⟩ := f
  have haC : C ≠ a := by
    rcases ha with z | z
    · rw [z]; exact f1
    · exact fun e => f4 y a z e.symm
  refine ⟨m, hn.sameBut sb haC, fun h3 sb3 => ?_⟩
  exact ⟨_, H', I2.turned (t' := s2.toks) (fun b o hb e => (sb3.2 b hb).trans e) f0 f1 f3 f4 f5, q⟩
end
/-! ### tables with texts as keys -/
abbrev Tab := List (Str × V)
def kT (t : Tab) : List (Key × V) := t.map fun p => (.inr p.1, p.2)
theorem valV_kT (t : Tab) (x : Str) : valV (kT t) (.inr x) = valV t x := by
  induction t with
  | nil => rfl
  | cons p r ih =>
    show valV ((.inr p.1, p.2) :: kT r) (.inr x) = _
    by_cases h : p.1 = x
    · rw [valV_pos (show (Sum.inr p.1 : Key) = .inr x by rw [h]), valV_pos h]
    · rw [valV_neg (fun e => h (Sum.inr.inj e)), valV_neg h, ih]
theorem any_kT (t : Tab) (x : Str) : ((kT t).any fun kv => decide (kv.1 = .inr x)) = t.any fun kv => decide (kv.1 = x) := by
  rw [valV_any, valV_any, valV_kT]
theorem putK_kT (t : Tab) (x : Str) (v : V) : putK (kT t) (.inr x) v = kT (putK t x v) := by
  unfold putK
  rw [any_kT]
  split
  · unfold kT
    rw [List.map_map, List.map_map]
    refine List.map_congr_left fun p _ => ?_
    show (if (Sum.inr p.1 : Key) = .inr x then _ else _) = _
    by_cases h : p.1 = x
    · rw [if_pos (by rw [h])]
      show _ = ((Sum.inr (if p.1 = x then (p.1, v) else p).1, (if p.1 = x then (p.1, v) else p).2) : Key × V)
      rw [if_pos h]
    · rw [if_neg (fun e => h (Sum.inr.inj e))]
      show _ = ((Sum.inr (if p.1 = x then (p.1, v) else p).1, (if p.1 = x then (p.1, v) else p).2) : Key × V)
      rw [if_neg h]
  · unfold kT
    rw [List.map_append]
    rfl
theorem dropK_kT (t : Tab) (x : Str) : dropK (kT t) (.inr x) = kT (dropK t x) := by
  unfold dropK kT
  rw [List.filter_map]
  congr 1
  refine List.filter_congr fun p _ => ?_
  show decide ((Sum.inr p.1 : Key) ≠ .inr x) = decide (p.1 ≠ x)
  exact decide_eq_decide.mpr ⟨fun n e => n (by rw [e]), fun n e => n (Sum.inr.inj e)⟩
theorem keys_kT (t : Tab) : (kT t).map (·.1) = (t.map (·.1)).map Sum.inr := by
  unfold kT
  rw [List.map_map, List.map_map]
  rfl
theorem kV_kT (t : Tab) : ((kT t).map fun p => kV p.1) = (t.map (·.1)).map V.str := by
  unfold kT
  rw [List.map_map, List.map_map]
  rfl
theorem len_kT (t : Tab) : (kT t).length = t.length := List.length_map ..
/-- what a[x] is -/
theorem dget_kT {H : Hp} {a : Addr} {t : Tab} (h : Rd H a (.dK (kT t))) (x : Str) : DGet H a (.str x) (valV t x) := .inl ⟨kT t, .inr x, h, rfl, (valV_kT t x).symm⟩
theorem valV_drop {κ : Type} [DecidableEq κ] (t : List (κ × V)) (x y : κ) : valV (dropK t x) y = if y = x then none else valV t y := by
  induction t with
  | nil => split <;> rfl
  | cons p r ih =>
    by_cases h : p.1 = x
    · rw [dropK_pos h, ih]
      by_cases e : y = x
      · rw [if_pos e, if_pos e]
      · rw [if_neg e, if_neg e, valV_neg (fun z => e (by rw [← z, h]))]
    · rw [dropK_neg h]
      by_cases e : p.1 = y
      · rw [valV_pos e, valV_pos e, if_neg (fun z => h (by rw [e, z]))]
      · rw [valV_neg e, valV_neg e, ih]
/-- no key twice -/
def Nd (t : Tab) : Prop := (t.map (·.1)).Nodup
theorem nd_put {t : Tab} (h : Nd t) (x : Str) (v : V) : Nd (putK t x v) := by
  cases e : valV t x with
  | none => exact nd_putK v h e
  | some u =>
    unfold Nd putK
    rw [if_pos (by rw [valV_any, e]; rfl), List.map_map]
    have : ((fun p : Str × V => p.1) ∘ fun kv : Str × V => if kv.1 = x then (kv.1, v) else kv) = fun p => p.1 := by
      funext p
      show (if p.1 = x then (p.1, v) else p).1 = p.1
      split <;> rfl
    rw [this]
    exact h
theorem nd_drop {t : Tab} (h : Nd t) (x : Str) : Nd (dropK t x) := nd_dropK h
theorem mem_val {t : Tab} {x : Str} : x ∈ t.map (·.1) ↔ (valV t x).isSome = true := by
  rw [← valV_any, List.any_eq_true]
  constructor
  · intro m
    obtain ⟨p, hp, e⟩ := List.mem_map.mp m
    exact ⟨p, hp, decide_eq_true e⟩
  · rintro ⟨p, hp, e⟩
    exact List.mem_map.mpr ⟨p, hp, of_decide_eq_true e⟩
/-- tables with the same keys -/
theorem keys_perm {t u : Tab} (ht : Nd t) (hu : Nd u) (h : ∀ x, (valV t x).isSome = (valV u x).isSome) : (t.map (·.1)).Perm (u.map (·.1)) :=
  (List.perm_ext_iff_of_nodup ht hu).mpr fun x => by rw [mem_val, mem_val, h]
/-! ### texts in order -/
def leS (a b : Str) : Prop := ¬ b.cps.toList < a.cps.toList
theorem leS_trans {a b c : Str} (h : leS a b) (k : leS b c) : leS a c := by
  unfold leS at *
  intro z
  exact h (List.lt_of_le_of_lt (List.not_lt.mp k) z)
theorem str_ext {a b : Str} (h : a.cps.toList = b.cps.toList) : a = b := by
  cases a; cases b
  congr 1
  exact Array.toList_inj.mp h
theorem leS_anti {a b : Str} (h : leS a b) (k : leS b a) : a = b := str_ext (List.le_antisymm (List.not_lt.mp h) (List.not_lt.mp k))
theorem rising_pw : ∀ (l : List Str) (p : Str), risingS p l = true → (p :: l).Pairwise leS
  | [], p, _ => List.pairwise_singleton _ _
  | x :: r, p, h => by
    have h : (!ltCps x.cps.toList p.cps.toList && risingS x r) = true := h
    obtain ⟨h1, h2⟩ := Bool.and_eq_true_iff.mp h
    have ih := rising_pw r x h2
    have px : leS p x := fun z => by
      rw [ltCps_eq, decide_eq_true z] at h1
      exact absurd h1 (by decide)
    refine List.pairwise_cons.mpr ⟨fun y hy => ?_, ih⟩
    rcases List.mem_cons.mp hy with e | hy
    · rw [e]
      exact px
    · exact leS_trans px ((List.pairwise_cons.mp ih).1 y hy)
theorem sorted_pw {l : List Str} (h : sortedS l = true) : l.Pairwise leS := by
  cases l with
  | nil => exact List.Pairwise.nil
  | cons x r => exact rising_pw r x h
theorem pw_uniq : ∀ {l m : List Str}, l.Pairwise leS → m.Pairwise leS → l.Perm m → l = m
  | [], m, _, _, p => (List.nil_perm.mp p).symm ▸ rfl
  | a :: r, [], _, _, p => absurd (List.perm_nil.mp p) (by simp)
  | a :: r, b :: s, h, k, p => by
    obtain ⟨h1, h2⟩ := List.pairwise_cons.mp h
    obtain ⟨k1, k2⟩ := List.pairwise_cons.mp k
    have e : a = b := by
      rcases List.mem_cons.mp (p.mem_iff.mp List.mem_cons_self) with z | z
      · exact z
      · rcases List.mem_cons.mp (p.mem_iff.mpr (List.mem_cons_self (a := b))) with y | y
        · exact y.symm
        · exact leS_anti (h1 b y) (k1 a z)
    subst e
    rw [pw_uniq h2 k2 ((List.perm_cons a).mp p)]
theorem sort_uniq {l m : List Str} (h : sortedS l = true) (k : sortedS m = true) (p : l.Perm m) : l = m := pw_uniq (sorted_pw h) (sorted_pw k) p
end Fk

set_option maxHeartbeats 4000000
/-! Statements that are never come to; methods with a keyword; methods that may raise. -/
namespace Fk
open PySem PySem.Spec PyProof.Rows L2
section
variable {X : Cx}
/-- what is never come to -/
theorem ps_never {st : Stmt} : PS X st (fun _ _ _ => False) := ⟨fun _ _ _ _ _ _ h => h.elim⟩
theorem pe_never {e : Expr} : PE X e (fun _ _ _ => False) := ⟨fun _ _ _ _ _ _ h => h.elim⟩
variable {k j : Nat} {C : Addr} {m : Str} {sp : Sp} {E : L2.St → XK} {o e : Expr} {es : List Expr} {kws : List Keyword} {ta : TE} {t tk : TA} {pos apos : Pos} {ks : List Str} {gV : List V → List V → List V}
/-- a method with these keywords -/
structure MetK (P : Program) (w : World) (K : PySem.W.Frag) (mg : Str → Option Value) (base : Heap) (k : Nat) (C : Addr) (m : Str) (sp : Sp) (ks : List Str) (gV : List V → List V → List V) : Prop where
  ex : ∃ (f : Addr) (fd : FuncData) (ps : List Str) (g : List Value → List Value → List Value), Cls K C ∧ Meth K C m f ∧ FnOk P w K mg base C8.CX0 k f fd ps sp ∧ KBinds K fd ps ks g gV
def tMeK (C : Addr) (m : Str) (sp : Sp) (gV : List V → List V → List V) (ta : TE) (t tk : TA) : TE := fun σ H Q => ta σ H fun x H1 => ∃ (a dx : Addr) (fs : List (Str × V)), x = .ref a ∧ H1 a = some (.ins C dx fs) ∧ fs.lookup m = none ∧
  t σ H1 fun vs H2 => tk σ H2 fun zs H3 => sp (gV (x :: vs) zs) H3 Q C8.E0
/-- o.m(e, .., k = v, ..) -/
theorem pe_mtK {pl : Sem Bool} (c : MetK X.prog X.w X.K X.mg X.base k C m sp ks gV) (hr : Room j X.A) (hk : k ≤ j) (he : PE X o ta) (ha : PA X (e :: es) t) (hkw : PK X kws tk)
    (hall : (backToKw pos (keywordEach kws X.env)).all (·.1.isSome) = true := by rfl) (hks : (backToKw pos (keywordEach kws X.env)).filterMap (·.1) = ks := by rfl)
    (hst : starEach (e :: es) X.env = (false, eval e X.env) :: starEach es X.env := by rfl) (hpl : ((backTo pos (starEach (e :: es) X.env)).any (·.1) || (backToKw pos (keywordEach kws X.env)).any (·.1.isNone)) = false := by rfl)
    (ht : eval (.Call (.Attribute o m apos) (e :: es) kws pos) X.env = (do
      let ov ← eval o X.env
      standAt apos.atName
      let (f, first) ← holding [ov] (getMethod ov m pl)
      callWith pos f first (backTo pos (starEach (e :: es) X.env)) (backToKw pos (keywordEach kws X.env))) := by rfl) :
    PE X (.Call (.Attribute o m apos) (e :: es) kws pos) (tMeK C m sp gV ta t tk) := by
  obtain ⟨f, fd, ps, g, cl, hm, F, b⟩ := c.ex
  refine ⟨fun pins s σ H Q I h => ?_⟩
  refine PySem.W.methodCall_KW (pl := pl) (thn (he.run pins s σ H _ I h) fun u s1 ⟨x, H1, I1, rx, a, dx, fs, ex, ea, l, q⟩ => ?_) ht
  subst ex
  obtain rfl : u = Value.ref a := rx
  refine getmeth_ok I1 ea cl hm l ?_
  refine PySem.W.callWith_KW (first := [.ref a]) (h₀ := X.base) I.ok.mod.kin hm.kp hall (thn (ha.run pos pins s1 σ H1 _ I1 q) fun us s2 ⟨vs, H2, I2, r, q2⟩ => ?_) hpl hst
  refine thn (hkw.run pos pins s2 σ H2 _ I2 q2) fun ws s3 ⟨zs, H3, I3, rz, q3⟩ => ⟨I3.kIn, ?_⟩
  rw [hks]
  exact run_fnk F (hr.mono hk) b C8.pass0 I3 (show Vals (.ref a :: vs) (.ref a :: us) from .cons rfl r) rz q3
end
section
variable {P : Program} {w : World} {K : PySem.W.Frag} {mg : Str → Option Value} {base : Heap}
/-- a method of the text as it stands behind the top, with no defaults -/
structure MDef (K : PySem.W.Frag) (C : Addr) (m qual : Str) (st : Stmt) : Prop where
  ex : ∃ (f : Addr) (fd : FuncData), C8.Fun K m qual st f fd ∧ Meth K C m f ∧ fd.defaults = .none
theorem met_of {m qual : Str} {C : Addr} {st : Stmt} {N ps : List Str} {k : Nat} {sp : Sp} (c : Cls K C) (D : MDef K C m qual st) (S : FnScope N ps (C8.fnScope st))
    (hb : ∀ (kV doc pm : Value) (an : Option Addr) (cdv ct : Value) (us : List Value), us.length = ps.length → bindArgs (PySem.W.fnOf m qual (C8.fnArgs st) (C8.fnBody st) (C8.fnScope st) .none kV doc pm an cdv ct) ⟨us, []⟩ = pure (ps.zip us))
    (len : ∀ vs H Q E, sp vs H Q E → vs.length = ps.length)
    (hbody : ∀ (f : Addr) (cdv : Value) (A : Around) (outer : List Env) (s : Shared) (H : Hp) (vs : List V) (Q : VK) (E : XK), Room k (A.deeper (envOfC qual (C8.fnScope st) s.heap.objs.size f cdv)) → sp vs H Q E →
      ∃ t, PSs (cxOf C8.CX0 P w K mg base N qual (C8.fnScope st) f cdv A outer s H E).nox (C8.fnBody st) t ∧ t { nx := fun _ H' => Q .non H', rt := Q } (start N vs) H) : C8.Met P w K mg base (k + 1) C m sp [] := by
  obtain ⟨f, fd, F, M, df⟩ := D.ex
  exact C8.met0 c M F (F.binds df hb) S len (hbody f)
/-- a method that may let errors out -/
theorem metX_of {m qual : Str} {C : Addr} {st : Stmt} {N ps : List Str} {k : Nat} {sp : Sp} (c : Cls K C) (D : MDef K C m qual st) (S : FnScope N ps (C8.fnScope st))
    (hb : ∀ (kV doc pm : Value) (an : Option Addr) (cdv ct : Value) (us : List Value), us.length = ps.length → bindArgs (PySem.W.fnOf m qual (C8.fnArgs st) (C8.fnBody st) (C8.fnScope st) .none kV doc pm an cdv ct) ⟨us, []⟩ = pure (ps.zip us))
    (len : ∀ vs H Q E, sp vs H Q E → vs.length = ps.length)
    (hbody : ∀ (f : Addr) (cdv : Value) (A : Around) (outer : List Env) (s : Shared) (H : Hp) (vs : List V) (Q : VK) (E : XK), Room k (A.deeper (envOfC qual (C8.fnScope st) s.heap.objs.size f cdv)) → sp vs H Q E →
      ∃ t, PSs (cxOf (L2.CX P w) P w K mg base N qual (C8.fnScope st) f cdv A outer s H E) (C8.fnBody st) t ∧ t { nx := fun _ H' => Q .non H', rt := Q } (start N vs) H) : MetX P w K mg base (L2.CX P w) (k + 1) C m sp [] := by
  obtain ⟨f, fd, F, M, df⟩ := D.ex
  obtain ⟨oc, od, dV, kV, doc, pm, an, cdv, ct, osl, rfl, lk, hcd⟩ := F.ex
  exact ⟨f, _, ps, [], c, M, fn_of lk hcd S len fun A outer s H vs Q E hr hsp => hbody f cdv A outer s H vs Q E hr hsp, F.binds df hb, .nil⟩
end
end Fk

set_option maxHeartbeats 4000000
/-! A comprehension with two fors that changes nothing; the prefixes of paths. -/
namespace Fk
open PySem PySem.Spec PyProof.Rows L2
theorem same_frl {D : Addr} {H1 H H' : Hp} (h : H1 D = none) (s : Same H1 H) (f : FrL [D] H H') : Same H1 H' := fun b o e => f b o (fun z => by
  rw [List.mem_singleton.mp z, h] at e
  cases e) (s b o e)
theorem lc2_pure {α β : Type} {J : It} {us : List α} {g : α → V} {h : β → V} {G : Hp → Prop} {H1 : Hp} {D : Addr} {σ : L2.St} {vs : List Nat} {i j : Nat} {wi1 : TI} {te : TE} {Q : Hp → Prop} (Y : Yields J (us.map g) G) (fs : α → List β) (f : α → β → V) (hD1 : H1 D = none) (hG : ∀ H, Same H1 H → G H)
    (e1 : ∀ x, wipe ((wipe σ vs).set i (some x)) vs = wipe σ vs)
    (e2 : ∀ x y, wipe ((wipe ((wipe σ vs).set i (some x)) [j]).set j (some y)) [j] = wipe ((wipe σ vs).set i (some x)) [j])
    (hw : ∀ H u, Same H1 H → H D ≠ none → u ∈ us → ∀ (R : It → Hp → Prop), (∀ J1 G1 H3, Yields J1 ((fs u).map h) G1 → Same H H3 → (∀ H', FrL [D] H3 H' → G1 H') → R J1 H3) → wi1 ((wipe σ vs).set i (some (g u))) H R)
    (he : ∀ H u w, Same H1 H → u ∈ us → w ∈ fs u → ∀ (R : VK), (∀ H3, Same H H3 → R (f u w) H3) → te ((wipe ((wipe σ vs).set i (some (g u))) [j]).set j (some (h w))) H R)
    (hl : (us.flatMap fs).length ≤ 1000000) (hd : ∀ H, Same H1 H → H D = some (.lst (us.flatMap fun u => (fs u).map (f u))) → Q H) :
    ∃ W : Nat → Nat → Hp → Prop, (∃ m, W 0 m (upd H1 D (.lst []))) ∧ ∀ k m H, W k m H →
      (J.stop k H ∧ Q H) ∨ (J.go k H ∧ ∃ Nx : Hp → Prop, (∀ H', Nx H' → ∃ m', m' < m ∧ W (k + 1) m' H') ∧ ∀ x H', J.yld k H x H' → gName i x (wipe σ vs) H' fun σ2 H2 => wipe σ2 vs = wipe σ vs ∧ tYes σ2 H2 fun b H3 =>
        if b = true then wi1 σ2 H3 fun J1 H4 => ∃ W1 : Nat → Nat → Hp → Prop, (∃ m, W1 0 m H4) ∧ ∀ k2 m2 H, W1 k2 m2 H →
          (J1.stop k2 H ∧ Nx H) ∨ (J1.go k2 H ∧ ∃ Nx1 : Hp → Prop, (∀ H', Nx1 H' → ∃ k', k' < m2 ∧ W1 (k2 + 1) k' H') ∧ ∀ x H', J1.yld k2 H x H' → gName j x (wipe σ2 [j]) H' fun σ3 H5 => wipe σ3 [j] = wipe σ2 [j] ∧ tYes σ3 H5 fun b H6 =>
            if b = true then te σ3 H6 fun y H7 => ∃ acc, H7 D = some (.lst acc) ∧ acc.length < sizeLine ∧ Nx1 (upd H7 D (.lst (acc ++ [y]))) else Nx1 H6)
        else Nx H3) := by
  refine ⟨fun k m H => m = us.length - k ∧ k ≤ us.length ∧ Same H1 H ∧ H D = some (.lst ((us.take k).flatMap fun u => (fs u).map (f u))), ⟨us.length, by omega, Nat.zero_le _, same_new hD1, upd_same⟩, ?_⟩
  rintro k m H ⟨rfl, hk, sm, hD⟩
  by_cases hlt : k < us.length
  · refine .inr ⟨Y.go k H (hG _ sm) (by rw [List.length_map]; exact hlt), fun H' => Same H1 H' ∧ H' D = some (.lst ((us.take (k + 1)).flatMap fun u => (fs u).map (f u))), fun H' q => ⟨us.length - (k + 1), by omega, rfl, hlt, q⟩, fun x H' y => ?_⟩
    obtain ⟨rfl, hx⟩ := Y.yld k H x H' (by rw [List.length_map]; exact hlt) (hG _ sm) y
    rw [List.getElem?_map, List.getElem?_eq_getElem hlt] at hx
    obtain rfl := Option.some.inj hx
    have hu : us[k] ∈ us := List.getElem_mem hlt
    refine ⟨e1 _, ?_⟩
    dsimp only [tYes]
    first | rw [if_pos (rfl : true = true)] | skip
    refine hw _ us[k] sm (by rw [hD]; exact fun z => nomatch z) hu _ fun J1 G1 H3 Y1 s3 hG1 => ?_
    have et : us.take (k + 1) = us.take k ++ [us[k]] := by rw [List.take_add_one, List.getElem?_eq_getElem hlt]; rfl
    have total : ((us.take k).flatMap fun u => (fs u).map (f u)).length + (fs us[k]).length ≤ 1000000 := by
      have e : us.flatMap fs = ((us.take (k + 1)) ++ us.drop (k + 1)).flatMap fs := by rw [List.take_append_drop]
      rw [e, List.flatMap_append, et, List.flatMap_append, List.length_append, List.length_append] at hl
      have e2 : ∀ l : List α, (l.flatMap fun u => (fs u).map (f u)).length = (l.flatMap fs).length := fun l => by
        induction l with
        | nil => rfl
        | cons a r ih => rw [List.flatMap_cons, List.flatMap_cons, List.length_append, List.length_append, ih, List.length_map]
      rw [e2]
      have : ([us[k]].flatMap fs).length = (fs us[k]).length := by simp
      omega
    refine ⟨fun k2 m2 H => m2 = (fs us[k]).length - k2 ∧ k2 ≤ (fs us[k]).length ∧ FrL [D] H3 H ∧ H D = some (.lst (((us.take k).flatMap fun u => (fs u).map (f u)) ++ ((fs us[k]).take k2).map (f us[k]))),
      ⟨(fs us[k]).length, by omega, Nat.zero_le _, FrL.refl _ _, by rw [List.take_zero, List.map_nil, List.append_nil]; exact s3 _ _ hD⟩, ?_⟩
    rintro k2 m2 H5 ⟨rfl, hk2, f5, hD5⟩
    by_cases hlt2 : k2 < (fs us[k]).length
    · refine .inr ⟨Y1.go k2 H5 (hG1 _ f5) (by rw [List.length_map]; exact hlt2), _, fun H' q => ⟨(fs us[k]).length - (k2 + 1), by omega, rfl, hlt2, q⟩, fun x H' y => ?_⟩
      obtain ⟨rfl, hx⟩ := Y1.yld k2 H5 x H' (by rw [List.length_map]; exact hlt2) (hG1 _ f5) y
      rw [List.getElem?_map, List.getElem?_eq_getElem hlt2] at hx
      obtain rfl := Option.some.inj hx
      refine ⟨e2 _ _, ?_⟩
      first | rw [if_pos (rfl : true = true)] | skip
      have s5 : Same H1 _ := same_frl hD1 (sm.trans s3) f5
      refine he _ us[k] (fs us[k])[k2] s5 hu (List.getElem_mem hlt2) _ fun H6 s6 => ?_
      refine ⟨_, s6 _ _ hD5, small_lt (by rw [List.length_append, List.length_map, List.length_take]; omega), FrL.trans (f5.trans (FrL.same s6)) (FrL.at (List.mem_singleton_self D)), ?_⟩
      rw [upd_same, List.take_add_one, List.getElem?_eq_getElem hlt2, List.append_assoc, List.map_append]
      rfl
    · have e : k2 = (fs us[k]).length := by omega
      subst e
      refine .inl ⟨by have := Y1.stop H5 (hG1 _ f5); rw [List.length_map] at this; exact this, same_frl hD1 (sm.trans s3) f5, ?_⟩
      rw [hD5, et, List.flatMap_append, List.take_length]
      simp
  · have e : k = us.length := by omega
    subst e
    refine .inl ⟨by have := Y.stop H (hG _ sm); rw [List.length_map] at this; exact this, hd _ sm ?_⟩
    rw [hD, List.take_length]
/-! ### prefixes -/
def prefixesF (x : Str) : List Str := (List.range ((segs x).length - 1)).map fun k => Txt.join "/" ((segs x).take (k + 1))
def haveF (ks : List Str) : Bool := ks.any fun x => (prefixesF x).any fun y => decide (y ∈ ks)
theorem have_perm {ks ls : List Str} (h : ks.Perm ls) : haveF ks = haveF ls := by
  have e : ∀ a b : List Str, a.Perm b → haveF a = true → haveF b = true := fun a b p z => by
    obtain ⟨x, hx, z⟩ := List.any_eq_true.mp z
    obtain ⟨y, hy, z⟩ := List.any_eq_true.mp z
    exact List.any_eq_true.mpr ⟨x, p.mem_iff.mp hx, List.any_eq_true.mpr ⟨y, hy, decide_eq_true (p.mem_iff.mp (of_decide_eq_true z))⟩⟩
  cases c : haveF ls with
  | true => exact e ls ks h.symm c
  | false => exact Bool.eq_false_iff.mpr fun z => by rw [e ks ls h z] at c; cases c
theorem pre_len (x : Str) (h : x.length ≤ 100000) : (prefixesF x).length ≤ 100000 := by
  unfold prefixesF
  rw [List.length_map, List.length_range]
  have := (segs_len x h).1
  omega
theorem any_flat {α β : Type} (us : List α) (fs : α → List β) (f : α → β → Bool) : (us.flatMap fun u => (fs u).map (f u)).any id = us.any fun u => (fs u).any (f u) := by
  induction us with
  | nil => rfl
  | cons a r ih => rw [List.flatMap_cons, List.any_append, ih, List.any_cons, List.any_map]; rfl
end Fk
namespace Fk
open PySem PySem.Spec PyProof.Rows L2
theorem segs_lens (x : Str) : (segs x).length ≤ x.length + 1 ∧ ∀ y ∈ segs x, y.length ≤ x.length := by
  have e := TL.split_spl x "/" (by decide +kernel) (TL.kind_ok (by decide +kernel))
  have e2 : ∀ l k acc, (TL.spl (TL.tl "/") k acc l).length ≤ l.length + 1 ∧ ∀ y ∈ TL.spl (TL.tl "/") k acc l, y.length ≤ acc.length + l.length := by
    intro l
    induction l with
    | nil => intro k acc; rw [TL.spl_nil]; exact ⟨Nat.le_refl _, fun y hy => by rw [List.mem_singleton.mp hy]; simp⟩
    | cons c r ih =>
      intro k acc
      cases k with
      | zero =>
        unfold TL.spl
        split
        · obtain ⟨i1, i2⟩ := ih ((TL.tl "/").length - 1) []
          refine ⟨by simp only [List.length_cons]; omega, fun y hy => ?_⟩
          rcases List.mem_cons.mp hy with rfl | hy
          · simp only [List.length_cons]; omega
          · have := i2 y hy
            simp only [List.length_cons, List.length_nil] at this ⊢
            omega
        · obtain ⟨i1, i2⟩ := ih 0 (acc ++ [c])
          refine ⟨by simp only [List.length_cons]; omega, fun y hy => ?_⟩
          have := i2 y hy
          simp only [List.length_cons, List.length_append, List.length_nil] at this ⊢
          omega
      | succ k =>
        obtain ⟨i1, i2⟩ := ih k acc
        unfold TL.spl
        refine ⟨by simp only [List.length_cons]; omega, fun y hy => ?_⟩
        have := i2 y hy
        simp only [List.length_cons] at this ⊢
        omega
  obtain ⟨i1, i2⟩ := e2 (TL.tl x) 0 []
  rw [← e] at i1 i2
  rw [List.length_map, ← TL.len_tl] at i1
  refine ⟨?_, fun y hy => ?_⟩
  · show (Txt.split x "/").length ≤ _
    omega
  · have := i2 (TL.tl y) (List.mem_map_of_mem hy)
    rw [← TL.len_tl, ← TL.len_tl] at this
    simp at this
    omega
theorem sum_most (n : Nat) : ∀ ps : List Str, (∀ p ∈ ps, p.length ≤ n) → (ps.map (·.length)).sum ≤ ps.length * n := by
  intro ps h
  induction ps with
  | nil => exact Nat.zero_le _
  | cons p r ih =>
    rw [List.map_cons, List.sum_cons, List.length_cons, Nat.succ_mul]
    have := ih fun q hq => h q (List.mem_cons_of_mem _ hq)
    have := h p List.mem_cons_self
    omega
theorem cut_front {α : Type} (l : List α) (g : α → V) (k : Nat) : cutV (l.map g) none (some (1 + (k : Int))) = (l.take (k + 1)).map g := by
  have e : (1 + (k : Int)) = ((k + 1 : Nat) : Int) := by omega
  unfold cutV
  rw [e, HT.sIx_none, HT.sIx_nat, List.drop_zero, Nat.sub_zero, List.map_take]
  rcases Nat.le_total (k + 1) (l.map g).length with h | h
  · rw [Nat.min_eq_left h]
  · rw [Nat.min_eq_right h, List.take_length, List.take_of_length_le h]
/-! ### rules whose reading names the written part, within a comprehension -/
section
variable {X : Cx} {K : PySem.W.Frag} {o e : Expr} {to te : TE} {f : Str}
theorem slK_list (h : X.K = K) : SlR X (rSlL K) := h ▸ sl_list
theorem ixK_list (h : X.K = K) : IxR X (rIxL K) := h ▸ ix_list
theorem ixK_tup (h : X.K = K) : IxR X (rIxT K) := h ▸ ix_tup
theorem pi_listK {tg : Expr} (h : X.K = K) (he : PE X e te) : PI X tg e (iList K te) := h ▸ pi_list he
theorem pi_tupK {tg : Expr} (h : X.K = K) (he : PE X e te) : PI X tg e (iTup K te) := h ▸ pi_tup he
theorem pg_tupK {es : List Expr} {k : Nat} {t : TGs} {n : Nat} {pos : Pos} (h : X.K = K) (hc : X.calm = true) (hp : PGs X es t)
    (hn : (assignEach es X.env).length = n := by rfl) (hst : (assignEach es X.env).findIdx? (·.1) = none := by rfl) : PG X (.Tuple es k pos) (gTup K n t) := h ▸ pg_tup hc hp hn hst
theorem pe_fldK {pos : Pos} (h : X.K = K) (he : PE X e te) (hb : attributeBase e f X.env (eval e X.env) = eval e X.env) : PE X (.Attribute e f pos) (tFld K te f) := h ▸ pe_fld he hb
def rJoin (K : PySem.W.Frag) : V → List V → Hp → VK → Prop := fun x xs H Q => ∃ a p, ∃ ys : List Str, x = .str a ∧ xs = [.ref p] ∧ (SqL K H p (ys.map V.str) ∨ SqT K H p (ys.map V.str)) ∧
  (ys.map (·.length)).sum + ys.length * a.length ≤ 16777216 ∧ Q (.str (Txt.join a ys)) H
theorem pe_joinK {apos pos : Pos} (h : X.K = K) (ho : PE X o to) (he : PE X e te) (hs : starEach [e] X.env = [(false, eval e X.env)] := by rfl) (hbase : attributeBase o "join" X.env (eval o X.env) = eval o X.env := by rfl) (hline : (apos.endLine == pos.line) = true := by rfl) :
    PE X (.Call (.Attribute o "join" apos) [e] [] pos) (tM1 (rJoin K) to te) := by
  subst h
  exact pe_join ho he hs hbase hline
end
end Fk

set_option maxHeartbeats 4000000
/-! Lists and dicts that comprehensions make of tuples; tuples of tuples. -/
namespace Fk
open PySem PySem.Spec PyProof.Rows L2
/-- at these addresses stand tuples of these things -/
def Tups (H : Hp) (as : List Addr) (ls : List (List V)) : Prop := as.length = ls.length ∧ ∀ (i : Nat) (a : Addr) (l : List V), as[i]? = some a → ls[i]? = some l → H a = some (.tup l)
def TupsAt (H : Hp) (p : Addr) (ls : List (List V)) : Prop := ∃ as : List Addr, H p = some (.tup (as.map V.ref)) ∧ Tups H as ls
/-- tuples stay -/
def TupKeep (H H' : Hp) : Prop := ∀ b xs, H b = some (.tup xs) → H' b = some (.tup xs)
theorem TupKeep.of {H H' : Hp} (s : Same H H') : TupKeep H H' := fun b xs e => s b _ e
theorem TupKeep.refl (H : Hp) : TupKeep H H := fun _ _ e => e
theorem TupKeep.trans {H H1 H2 : Hp} (a : TupKeep H H1) (b : TupKeep H1 H2) : TupKeep H H2 := fun c xs e => b c xs (a c xs e)
theorem TupKeep.at {a : Addr} {H : Hp} {o : HO} (n : ∀ xs, H a ≠ some (.tup xs)) : TupKeep H (upd H a o) := fun b xs e => by
  have z : b ≠ a := fun z => n xs (by rw [← z]; exact e)
  rw [upd_ne z]
  exact e
theorem Tups.keep {H H' : Hp} {as : List Addr} {ls : List (List V)} (t : Tups H as ls) (k : TupKeep H H') : Tups H' as ls := ⟨t.1, fun i a l h1 h2 => k _ _ (t.2 i a l h1 h2)⟩
theorem TupsAt.keep {H H' : Hp} {p : Addr} {ls : List (List V)} (t : TupsAt H p ls) (k : TupKeep H H') : TupsAt H' p ls := by
  obtain ⟨as, h, t⟩ := t
  exact ⟨as, k _ _ h, t.keep k⟩
theorem Tups.nil {H : Hp} : Tups H [] [] := ⟨rfl, fun i a l h => by simp at h⟩
theorem Tups.snoc {H : Hp} {as : List Addr} {ls : List (List V)} {a : Addr} {l : List V} (t : Tups H as ls) (h : H a = some (.tup l)) : Tups H (as ++ [a]) (ls ++ [l]) := by
  obtain ⟨e, t⟩ := t
  refine ⟨by rw [List.length_append, List.length_append, e]; rfl, fun i b m h1 h2 => ?_⟩
  by_cases hi : i < as.length
  · rw [List.getElem?_append_left hi] at h1
    rw [List.getElem?_append_left (by omega)] at h2
    exact t i b m h1 h2
  · rw [List.getElem?_append_right (by omega)] at h1
    rw [List.getElem?_append_right (by omega)] at h2
    have i1 := (List.getElem?_eq_some_iff.mp h1).1
    have e0 : i - as.length = 0 := by
      rw [List.length_singleton] at i1
      omega
    rw [e0] at h1
    rw [← e, e0] at h2
    rw [← Option.some.inj h1, ← Option.some.inj h2]
    exact h
theorem Tups.get {H : Hp} {as : List Addr} {ls : List (List V)} (t : Tups H as ls) {u : Addr × List V} (h : u ∈ as.zip ls) : H u.1 = some (.tup u.2) := by
  obtain ⟨i, hi⟩ := List.mem_iff_getElem?.mp h
  rw [List.getElem?_zip_eq_some] at hi
  exact t.2 i _ _ hi.1 hi.2
theorem zip_fst {as : List Addr} {ls : List (List V)} (e : as.length = ls.length) : (as.zip ls).map (fun u => V.ref u.1) = as.map V.ref := by
  have : (fun u : Addr × List V => V.ref u.1) = V.ref ∘ Prod.fst := rfl
  rw [this, ← List.map_map, List.map_fst_zip (by omega)]
theorem zip_snd {as : List Addr} {ls : List (List V)} (e : as.length = ls.length) : (as.zip ls).map (·.2) = ls := List.map_snd_zip (by omega)
/-- a tuple of the written part -/
def KTup (K : PySem.W.Frag) (a : Addr) (xs : List V) : Prop := ∃ (o : Obj) (its : Array Value) (n : Nat), K.lookup a = some o ∧ o.cls = .type "tuple" ∧ o.data = .seq its n ∧ its.size ≤ sizeLine ∧ Vals xs its.toList
/-- a tuple, tracked or of the written part -/
def TupK (K : PySem.W.Frag) (H : Hp) (a : Addr) (xs : List V) : Prop := H a = some (.tup xs) ∨
  ∃ (o : Obj) (its : Array Value) (n : Nat), K.lookup a = some o ∧ o.cls = .type "tuple" ∧ o.data = .seq its n ∧ its.size ≤ sizeLine ∧ Vals xs its.toList
theorem TupK.sq {K : PySem.W.Frag} {H : Hp} {a : Addr} {xs : List V} (h : TupK K H a xs) : SqT K H a xs := h.imp (fun e => .inl e) id
theorem TupK.keep {K : PySem.W.Frag} {H H' : Hp} {a : Addr} {xs : List V} (h : TupK K H a xs) (k : TupKeep H H') : TupK K H' a xs := h.imp (fun e => k _ _ e) id
def TupsK (K : PySem.W.Frag) (H : Hp) (p : Addr) (ls : List (List V)) : Prop := ∃ as : List Addr, TupK K H p (as.map V.ref) ∧ Tups H as ls
theorem TupsK.of {K : PySem.W.Frag} {H : Hp} {p : Addr} {ls : List (List V)} (h : TupsAt H p ls) : TupsK K H p ls := let ⟨as, a, b⟩ := h; ⟨as, .inl a, b⟩
theorem TupsK.keep {K : PySem.W.Frag} {H H' : Hp} {p : Addr} {ls : List (List V)} (h : TupsK K H p ls) (k : TupKeep H H') : TupsK K H' p ls := let ⟨as, a, b⟩ := h; ⟨as, a.keep k, b.keep k⟩
section
variable {α : Type} {J : It} {us : List α} {val : α → V} {G : Hp → Prop} {H1 : Hp} {D : Addr} {σ : L2.St} {vs : List Nat} {g : TG} {tt : TT} {te tk tv : TE} {Q : Hp → Prop}
/-- a list of new tuples -/
theorem lc_new (Y : Yields J (us.map val) G) (f : α → List V) (p : α → Bool) (σf : α → L2.St) (hD1 : H1 D = none) (hG : ∀ H, Same H1 H → G H) (hw : ∀ u ∈ us, wipe (σf u) vs = wipe σ vs)
    (hg : ∀ H u, Same H1 H → u ∈ us → ∀ (R : L2.St → Hp → Prop), R (σf u) H → g (val u) (wipe σ vs) H R)
    (ht : ∀ H u, Same H1 H → u ∈ us → ∀ (R : Bool → Hp → Prop), (∀ H3, Same H H3 → R (p u) H3) → tt (σf u) H R)
    (he : ∀ H u, Same H1 H → u ∈ us → p u = true → ∀ (R : VK), (∀ a H3, Same H H3 → H3 a = some (.tup (f u)) → R (.ref a) H3) → te (σf u) H R)
    (hl : us.length ≤ 1000000) (hd : ∀ as H, Same H1 H → H D = some (.lst (as.map V.ref)) → Tups H as ((us.filter p).map f) → Q H) :
    ∃ W : Nat → Nat → Hp → Prop, (∃ m, W 0 m (upd H1 D (.lst []))) ∧ ∀ k m H, W k m H →
      (J.stop k H ∧ Q H) ∨ (J.go k H ∧ ∃ Nx : Hp → Prop, (∀ H', Nx H' → ∃ m', m' < m ∧ W (k + 1) m' H') ∧ ∀ x H', J.yld k H x H' → g x (wipe σ vs) H' fun σ2 H2 => wipe σ2 vs = wipe σ vs ∧ tt σ2 H2 fun b H3 =>
        if b = true then te σ2 H3 fun y H4 => ∃ acc, H4 D = some (.lst acc) ∧ acc.length < sizeLine ∧ Nx (upd H4 D (.lst (acc ++ [y]))) else Nx H3) := by
  refine lcG Y (fun k acc H => Same H1 H ∧ ∃ as : List Addr, acc = as.map V.ref ∧ Tups H as (((us.take k).filter p).map f)) (fun k acc H h _ => hG H h.1) ⟨same_new hD1, [], rfl, by simpa using Tups.nil⟩ (fun k acc H x hI hD hx hacc hk => ?_) (by rw [List.length_map]; exact hl) (fun acc H hI hD _ => ?_)
  · obtain ⟨sm, as, ea, tp⟩ := hI
    rw [List.getElem?_map] at hx
    cases hu : us[k]? with
    | none => rw [hu] at hx; cases hx
    | some u =>
      rw [hu] at hx
      cases hx
      have hm : u ∈ us := List.mem_of_getElem? hu
      have et : us.take (k + 1) = us.take k ++ [u] := by
        rw [List.take_add_one, hu]
        rfl
      refine hg H u sm hm _ ⟨hw u hm, ?_⟩
      refine ht H u sm hm _ (fun H3 s3 => ?_)
      by_cases hp : p u = true
      · rw [if_pos hp]
        refine he H3 u (sm.trans s3) hm hp _ (fun a H4 s4 h4 => ?_)
        have hD4 := s4 _ _ (s3 _ _ hD)
        have kp : TupKeep H4 (upd H4 D (.lst (acc ++ [V.ref a]))) := TupKeep.at fun xs z => by rw [hD4] at z; cases z
        refine lc_take hD4 hacc hk ⟨same_mut ((sm.trans s3).trans s4) hD1, as ++ [a], by rw [ea, List.map_append]; rfl, ?_⟩
        rw [et, List.filter_append, List.map_append, List.filter_cons, hp]
        exact ((tp.keep (TupKeep.of (s3.trans s4))).snoc h4).keep kp
      · rw [if_neg hp]
        refine lc_skip (s3 _ _ hD) hacc ⟨sm.trans s3, as, ea, ?_⟩
        rw [et, List.filter_append, List.map_append, List.filter_cons, if_neg hp]
        simpa using tp.keep (TupKeep.of s3)
  · obtain ⟨sm, as, ea, tp⟩ := hI
    rw [List.length_map, List.take_length] at tp
    rw [ea] at hD
    exact hd as H sm hD tp
/-- a dict with texts as its keys -/
theorem dc_tab (Y : Yields J (us.map val) G) (kf : α → Str) (vf : α → V) (p : α → Bool) (σf : α → L2.St) (hD1 : H1 D = none) (hG : ∀ H, Same H1 H → G H) (hw : ∀ u ∈ us, wipe (σf u) vs = wipe σ vs)
    (hg : ∀ H u, Same H1 H → u ∈ us → ∀ (R : L2.St → Hp → Prop), R (σf u) H → g (val u) (wipe σ vs) H R)
    (ht : ∀ H u, Same H1 H → u ∈ us → ∀ (R : Bool → Hp → Prop), (∀ H3, Same H H3 → R (p u) H3) → tt (σf u) H R)
    (hk : ∀ H u, Same H1 H → u ∈ us → p u = true → ∀ (R : VK), (∀ H3, Same H H3 → R (.str (kf u)) H3) → tk (σf u) H R)
    (hv : ∀ H u, Same H1 H → u ∈ us → p u = true → ∀ (R : VK), (∀ H3, Same H H3 → R (vf u) H3) → tv (σf u) H R)
    (hl : us.length ≤ 1000000) (nd : ((us.filter p).map kf).Nodup) (hd : ∀ H, Same H1 H → H D = some (.dK (kT ((us.filter p).map fun u => (kf u, vf u)))) → Q H) :
    ∃ W : Nat → Nat → Hp → Prop, (∃ m, W 0 m (upd H1 D (.dK []))) ∧ ∀ k m H, W k m H →
      (J.stop k H ∧ Q H) ∨ (J.go k H ∧ ∃ Nx : Hp → Prop, (∀ H', Nx H' → ∃ m', m' < m ∧ W (k + 1) m' H') ∧ ∀ x H', J.yld k H x H' → g x (wipe σ vs) H' fun σ2 H2 => wipe σ2 vs = wipe σ vs ∧ tt σ2 H2 fun b H3 =>
        if b = true then tk σ2 H3 fun y H4 => tv σ2 H4 fun z H5 => ∃ kvs key, y = kV key ∧ H5 D = some (.dK kvs) ∧ kvs.length < sizeLine ∧ Nx (upd H5 D (.dK (putK kvs key z))) else Nx H3) := by
  refine dcG Y (fun k kvs H => Same H1 H ∧ kvs = kT (((us.take k).filter p).map fun u => (kf u, vf u))) (fun k acc H h _ => hG H h.1) ⟨same_new hD1, rfl⟩ (fun k kvs H x hI hD hx hacc hk' => ?_) (by rw [List.length_map]; exact hl) (fun acc H hI hD _ => ?_)
  · obtain ⟨sm, ea⟩ := hI
    rw [List.getElem?_map] at hx
    cases hu : us[k]? with
    | none => rw [hu] at hx; cases hx
    | some u =>
      rw [hu] at hx
      cases hx
      have hm : u ∈ us := List.mem_of_getElem? hu
      have et : us.take (k + 1) = us.take k ++ [u] := by
        rw [List.take_add_one, hu]
        rfl
      refine hg H u sm hm _ ⟨hw u hm, ?_⟩
      refine ht H u sm hm _ (fun H3 s3 => ?_)
      by_cases hp : p u = true
      · rw [if_pos hp]
        refine hk H3 u (sm.trans s3) hm hp _ (fun H4 s4 => ?_)
        refine hv H4 u ((sm.trans s3).trans s4) hm hp _ (fun H5 s5 => ?_)
        have new : valV (((us.take k).filter p).map fun u => (kf u, vf u)) (kf u) = none := by
          cases c : valV (((us.take k).filter p).map fun u => (kf u, vf u)) (kf u) with
          | none => rfl
          | some z =>
            have m := valV_in c
            rw [List.map_map] at m
            have e : us.filter p = (us.take k).filter p ++ (u :: (us.drop (k + 1)).filter p) := by
              conv => lhs; rw [← List.take_append_drop (k + 1) us, et, List.filter_append, List.filter_append, List.filter_cons, hp]
              simp
            rw [e, List.map_append] at nd
            have := (List.nodup_append.mp nd).2.2 (kf u) m (kf u) List.mem_cons_self
            exact absurd rfl this
        refine dc_take (key := .inr (kf u)) (s5 _ _ (s4 _ _ (s3 _ _ hD))) hacc hk' ⟨same_mut (((sm.trans s3).trans s4).trans s5) hD1, ?_⟩
        rw [ea, putK_kT, putK_new _ new, et, List.filter_append, List.map_append, List.filter_cons, hp]
        rfl
      · rw [if_neg hp]
        refine dc_skip (s3 _ _ hD) hacc ⟨sm.trans s3, ?_⟩
        rw [et, List.filter_append, List.map_append, List.filter_cons, if_neg hp]
        simp [ea]
  · obtain ⟨sm, ea⟩ := hI
    rw [List.length_map, List.take_length] at ea
    rw [ea] at hD
    exact hd H sm hD
end
theorem val_keys (f : Str → V) (z : Str) : ∀ ys : List Str, valV (ys.map fun x => (x, f x)) z = if z ∈ ys then some (f z) else none
  | [] => rfl
  | y :: r => by
    show valV ((y, f y) :: r.map fun x => (x, f x)) z = _
    by_cases h : y = z
    · rw [valV_pos h, if_pos (by rw [h]; exact List.mem_cons_self), h]
    · rw [valV_neg h, val_keys f z r]
      by_cases m : z ∈ r
      · rw [if_pos m, if_pos (List.mem_cons_of_mem _ m)]
      · rw [if_neg m, if_neg (fun k => (List.mem_cons.mp k).elim (fun e => h e.symm) m)]
/-- the rows of a table in order -/
def SortOf (t u : Tab) : Prop := sortedS (u.map (·.1)) = true ∧ (u.map (·.1)).Perm (t.map (·.1)) ∧ ∀ x, valV u x = valV t x
theorem sortOf_keys {t : Tab} {ys : List Str} (hp : ys.Perm (t.map (·.1))) (hs : sortedS ys = true) : SortOf t (ys.map fun x => (x, (valV t x).getD .non)) := by
  have e : (ys.map fun x => (x, (valV t x).getD .non)).map (·.1) = ys := by
    rw [List.map_map]
    exact List.map_id' ys
  refine ⟨by rw [e]; exact hs, by rw [e]; exact hp, fun z => ?_⟩
  rw [val_keys (fun x => (valV t x).getD .non)]
  cases c : valV t z with
  | none => rw [if_neg (fun m => by have := mem_val.mp (hp.mem_iff.mp m); rw [c] at this; cases this)]
  | some v => rw [if_pos (hp.mem_iff.mpr (mem_val.mpr (by rw [c]; rfl)))]; rfl
theorem SortOf.nd {t u : Tab} (h : SortOf t u) (n : Nd t) : Nd u := h.2.1.nodup_iff.mpr n
theorem SortOf.len {t u : Tab} (h : SortOf t u) : u.length = t.length := by
  have := h.2.1.length_eq
  rw [List.length_map, List.length_map] at this
  exact this
def rowL (e : Str × V) : List V := [.str e.1, e.2]
/-! ### moves -/
def moveL (m : Str × V × V) : List V := [.str m.1, m.2.1, m.2.2]
def newsT (ms : List (Str × V × V)) : Tab := ms.map fun m => (m.1, m.2.2)
def notNon : V → Bool
  | .non => false
  | _ => true
def keptT (t n : Tab) : Tab := t.filter fun p => (valV n p.1).isNone
def madeT (n : Tab) : Tab := n.filter fun p => notNon p.2
def afterT (t : Tab) (ms : List (Str × V × V)) : Tab := keptT t (newsT ms) ++ madeT (newsT ms)
theorem zip_ms {α : Type} {as : List Addr} {ms : List α} (e : as.length = ms.length) : (as.zip ms).map (fun u => V.ref u.1) = as.map V.ref := by
  have : (fun u : Addr × α => V.ref u.1) = V.ref ∘ Prod.fst := rfl
  rw [this, ← List.map_map, List.map_fst_zip (by omega)]
theorem tups_get {α : Type} {H : Hp} {as : List Addr} {ms : List α} {f : α → List V} (tp : Tups H as (ms.map f)) {u : Addr × α} (h : u ∈ as.zip ms) : H u.1 = some (.tup (f u.2)) := by
  obtain ⟨i, hi⟩ := List.mem_iff_getElem?.mp h
  rw [List.getElem?_zip_eq_some] at hi
  refine tp.2 i _ _ hi.1 ?_
  rw [List.getElem?_map, hi.2]
  rfl
theorem ne_of_none' {H : Hp} {D a : Addr} {o : HO} (h : H D = none) (k : H a = some o) : D ≠ a := (ne_of_none k h).symm
theorem same_unlock {H H2 : Hp} {d : Addr} {od : Obj} {u : HO} (s : Same (upd H d (.frz od u)) H2) (h : H d = some u) : Same H (upd H2 d u) := fun b o e => by
  by_cases hb : b = d
  · rw [hb, upd_same, ← h, ← hb, e]
  · rw [upd_ne hb]
    exact s _ _ (by rw [upd_ne hb]; exact e)
theorem lock_ne {H : Hp} {d D : Addr} {o : HO} (h : upd H d o D = none) : D ≠ d := fun z => by
  rw [z, upd_same] at h
  cases h
theorem lock_free {H : Hp} {d D : Addr} {o : HO} (h : upd H d o D = none) : H D = none := by
  have n := lock_ne h
  rw [upd_ne n] at h
  exact h
/-- a walk over a locked table -/
theorem yields_tab {d : Addr} {o : Obj} {t : Tab} : Yields (Itk d o (kT t)) (t.map fun e => V.str e.1) (fun H => H d = some (.frz o (.dK (kT t)))) := by
  have : (t.map fun e => V.str e.1) = (kT t).map fun p => kV p.1 := by
    unfold kT
    rw [List.map_map]
    rfl
  rw [this]
  exact yields_keys
theorem yields_zip {α : Type} {K : PySem.W.Frag} {a : Addr} {as : List Addr} {ms : List α} (e : as.length = ms.length) : Yields (Itt K a) ((as.zip ms).map fun u => V.ref u.1) (fun H => SqT K H a (as.map V.ref)) := by
  rw [zip_ms e]
  exact yields_tup
theorem nd_filter {t : Tab} (h : Nd t) (p : Str × V → Bool) : Nd (t.filter p) := List.Nodup.sublist ((List.filter_sublist).map _) h
theorem nd_news {ms : List (Str × V × V)} (h : (ms.map (·.1)).Nodup) : Nd (newsT ms) := by
  unfold Nd newsT
  rw [List.map_map]
  exact h
theorem nd_after {t : Tab} {ms : List (Str × V × V)} (h : Nd t) (k : (ms.map (·.1)).Nodup) : Nd (afterT t ms) := by
  unfold Nd afterT
  rw [List.map_append]
  refine List.nodup_append.mpr ⟨nd_filter h _, nd_filter (nd_news k) _, fun x hx y hy e => ?_⟩
  obtain ⟨p, hp, rfl⟩ := List.mem_map.mp hx
  obtain ⟨q, hq, rfl⟩ := List.mem_map.mp hy
  have h1 := (List.mem_filter.mp hp).2
  have h2 := val_nodup (nd_news k) q (List.mem_filter.mp hq).1
  rw [e, h2] at h1
  cases h1
theorem len_after {t : Tab} {ms : List (Str × V × V)} : (afterT t ms).length ≤ t.length + ms.length := by
  unfold afterT
  rw [List.length_append]
  have h1 := List.length_filter_le (fun p : Str × V => (valV (newsT ms) p.1).isNone) t
  have h2 := List.length_filter_le (fun p : Str × V => notNon p.2) (newsT ms)
  have h3 : (newsT ms).length = ms.length := List.length_map ..
  unfold keptT madeT
  omega
theorem val_app {t u : Tab} (x : Str) : valV (t ++ u) x = (valV t x).or (valV u x) := by
  induction t with
  | nil => rfl
  | cons p r ih =>
    by_cases h : p.1 = x
    · rw [List.cons_append, valV_pos h, valV_pos h]
      rfl
    · rw [List.cons_append, valV_neg h, valV_neg h, ih]
theorem merge_kT : ∀ {t u : Tab}, Nd (t ++ u) → mergeK (kT t) (kT u) = kT (t ++ u)
  | t, [], _ => by rw [List.append_nil]; rfl
  | t, p :: r, h => by
    have e : t ++ p :: r = (t ++ [p]) ++ r := by rw [List.append_assoc]; rfl
    have new : valV t p.1 = none := by
      cases c : valV t p.1 with
      | none => rfl
      | some v =>
        have h : ((t ++ p :: r).map (·.1)).Nodup := h
        rw [List.map_append] at h
        exact absurd rfl ((List.nodup_append.mp h).2.2 _ (valV_in c) p.1 List.mem_cons_self)
    show mergeK (putK (kT t) (.inr p.1) p.2) (kT r) = _
    rw [putK_kT, putK_new _ new, e]
    rw [e] at h
    exact merge_kT h
/-- what a table holds behind moves -/
theorem val_filter {t : Tab} (h : Nd t) (p : Str × V → Bool) (x : Str) : valV (t.filter p) x = (valV t x).bind fun v => if p (x, v) = true then some v else none := by
  induction t with
  | nil => rfl
  | cons q r ih =>
    obtain ⟨h1, h2⟩ := List.nodup_cons.mp (show ((q :: r).map (·.1)).Nodup from h)
    have ih := ih h2
    have nr : q.1 = x → valV r x = none := fun e => by
      cases c : valV r x with
      | none => rfl
      | some v => exact absurd (show q.1 ∈ r.map (·.1) by rw [e]; exact valV_in c) h1
    rw [List.filter_cons]
    by_cases e : q.1 = x
    · rw [valV_pos e]
      have eq : q = (x, q.2) := by rw [← e]
      by_cases hp : p q = true
      · rw [if_pos hp, valV_pos e]
        show some q.2 = if p (x, q.2) = true then some q.2 else none
        rw [← eq, if_pos hp]
      · rw [if_neg hp, ih, nr e]
        show none = if p (x, q.2) = true then some q.2 else none
        rw [← eq, if_neg hp]
    · rw [valV_neg e]
      by_cases hp : p q = true
      · rw [if_pos hp, valV_neg e, ih]
      · rw [if_neg hp, ih]
theorem val_after {t : Tab} {ms : List (Str × V × V)} (h : Nd t) (k : (ms.map (·.1)).Nodup) (x : Str) : valV (afterT t ms) x = match valV (newsT ms) x with
    | none => valV t x
    | some v => if notNon v = true then some v else none := by
  unfold afterT keptT madeT
  rw [val_app, val_filter h, val_filter (nd_news k)]
  cases c : valV (newsT ms) x with
  | none =>
    cases d : valV t x with
    | none => rfl
    | some v => simp [c]
  | some v =>
    cases d : valV t x with
    | none => simp
    | some w => simp [c]
/-! ### logs -/
/-- the table tells the logs: tuples of entries -/
def LogsOk (H : Hp) (t : Tab) (L : Str → List (List V)) : Prop := ∀ x, (valV t x = none ∧ L x = []) ∨ ∃ p, (L x ≠ [] ∧ valV t x = some (.ref p)) ∧ TupsAt H p (L x)
def logPut (L : Str → List (List V)) (x : Str) (e : List V) : Str → List (List V) := fun y => if y = x then L y ++ [e] else L y
def logMoves (L : Str → List (List V)) (note : List V) (ms : List (Str × V × V)) : Str → List (List V) := ms.foldl (fun L m => logPut L m.1 ([m.2.1, m.2.2] ++ note)) L
theorem LogsOk.keep {H H' : Hp} {t : Tab} {L : Str → List (List V)} (h : LogsOk H t L) (k : TupKeep H H') : LogsOk H' t L := fun x => (h x).imp id fun ⟨p, a, b⟩ => ⟨p, a, b.keep k⟩
theorem LogsOk.of {H : Hp} {t u : Tab} {L : Str → List (List V)} (h : LogsOk H t L) (e : ∀ x, valV u x = valV t x) : LogsOk H u L := fun x => by
  rw [e]
  exact h x
theorem LogsOk.put {H : Hp} {t : Tab} {L : Str → List (List V)} (h : LogsOk H t L) {x : Str} {p : Addr} {e : List V} (tp : TupsAt H p (L x ++ [e])) : LogsOk H (putK t x (.ref p)) (logPut L x e) := fun y => by
  unfold logPut
  rw [valV_put]
  by_cases c : y = x
  · rw [if_pos c, if_pos c, c]
    exact .inr ⟨p, ⟨List.append_ne_nil_of_right_ne_nil _ (fun z => nomatch z), rfl⟩, tp⟩
  · rw [if_neg c, if_neg c]
    exact h y
theorem len_put (t : Tab) (x : Str) (v : V) : (putK t x v).length ≤ t.length + 1 := length_putK t x v
theorem logMoves_take {L : Str → List (List V)} {note : List V} {ms : List (Str × V × V)} {i : Nat} {m : Str × V × V} (h : ms[i]? = some m) : logMoves L note (ms.take (i + 1)) = logPut (logMoves L note (ms.take i)) m.1 ([m.2.1, m.2.2] ++ note) := by
  unfold logMoves
  rw [List.take_add_one, h, List.foldl_append]
  rfl
theorem catA {K : PySem.W.Frag} {H : Hp} {a b : Addr} {xs ys : List V} {Q : VK} (ha : SqT K H a xs) (hb : H b = some (.tup ys)) (ny : ys ≠ []) (hz : xs.length + ys.length ≤ 1000000) (q : ∀ p H', Same H H' → H' p = some (.tup (xs ++ ys)) → Q (.ref p) H') : rCatA K (.ref a) (.ref b) H Q :=
  ⟨a, b, xs, ys, rfl, rfl, ha, SqT.of hb, small_line hz, fun e => q b H (Same.refl H) (by rw [e]; exact hb), fun _ e => absurd e ny, fun _ _ p hp => q p _ (same_new hp) upd_same⟩
/-- an entry is put behind the log of a name -/
theorem log_step {K : PySem.W.Frag} {H : Hp} {D2 nt : Addr} {lt : Tab} {L : Str → List (List V)} {x : Str} {v1 v2 n1 n2 n3 : V} {tk t1 t2 td tn : TE} {D : Ends} {σ : L2.St} (hD : H D2 = some (.dK (kT lt))) (lk : LogsOk H lt L) (hnt : H nt = some (.tup [n1, n2, n3]))
    (b : (L x).length ≤ 100000) (hl : lt.length ≤ 1000) (ek : ∀ H' Q, Q (.str x) H' → tk σ H' Q) (e1 : ∀ H' Q, Q v1 H' → t1 σ H' Q) (e2 : ∀ H' Q, Q v2 H' → t2 σ H' Q) (ed : ∀ H' Q, Q (.ref D2) H' → td σ H' Q) (en : ∀ H' Q, Q (.ref nt) H' → tn σ H' Q)
    (q : ∀ H' p, FrL [D2] H H' → TupKeep H H' → H' D2 = some (.dK (kT (putK lt x (.ref p)))) → LogsOk H' (putK lt x (.ref p)) (logPut L x ([v1, v2] ++ [n1, n2, n3])) → D.nx σ H') :
    sDPut td tk (tOp (rCatA K) (tDGet2 td tk (tTup tNil)) (tTup (tCons (tOp (rCatA K) (tTup (tCons t1 (tCons t2 tNil))) tn) tNil))) D σ H := by
  refine ed _ _ ⟨D2, rfl, .inl ⟨_, .inl hD⟩, ek _ _ ⟨Nat.zero_le _, fun pe hpe => ⟨valV lt x, ?_, ?_⟩⟩⟩
  · exact dget_kT (.inl (by rw [upd_ne (ne_of_none hD hpe)]; exact hD)) x
  · have s0 : Same H (upd H pe (.tup [])) := same_new hpe
    have p0 : (upd H pe (.tup [])) pe = some (.tup []) := upd_same
    generalize upd H pe (.tup []) = H0 at s0 p0
    obtain ⟨a, as, ea, ha, ta⟩ : ∃ (a : Addr) (as : List Addr), (valV lt x).getD (.ref pe) = .ref a ∧ H0 a = some (.tup (as.map V.ref)) ∧ Tups H0 as (L x) := by
      rcases lk x with ⟨e, l⟩ | ⟨p, ⟨_, e⟩, as, h, t⟩
      · exact ⟨pe, [], by rw [e]; rfl, p0, by rw [l]; exact Tups.nil⟩
      · exact ⟨p, as, by rw [e]; rfl, s0 _ _ h, t.keep (TupKeep.of s0)⟩
    rw [ea]
    have la : as.length ≤ 100000 := by rw [ta.1]; exact b
    refine e1 _ _ (e2 _ _ ⟨(by show 2 ≤ sizeLine; decide), fun p2 hp2 => en _ _ ?_⟩)
    refine catA (SqT.of upd_same) ((same_new hp2) _ _ (s0 _ _ hnt)) (fun z => nomatch z) (by show 2 + 3 ≤ _; decide) fun p3 H3 s3 h3 => ?_
    refine ⟨(by show 1 ≤ sizeLine; decide), fun p4 hp4 => ?_⟩
    have s04 : Same H0 (upd H3 p4 (.tup [V.ref p3])) := ((same_new hp2).trans s3).trans (same_new hp4)
    have h3' : (upd H3 p4 (.tup [V.ref p3])) p3 = some (.tup ([v1, v2] ++ [n1, n2, n3])) := (same_new hp4) _ _ h3
    have h4' : (upd H3 p4 (.tup [V.ref p3])) p4 = some (.tup [V.ref p3]) := upd_same
    generalize upd H3 p4 (.tup [V.ref p3]) = H4 at s04 h3' h4'
    refine catA (SqT.of (s04 _ _ ha)) h4' (fun z => nomatch z) (by rw [List.length_map]; show _ + 1 ≤ _; omega) fun p5 H5 s5 h5 => ?_
    have s05 := (s0.trans s04).trans s5
    have hD5 := s05 _ _ hD
    refine ed _ _ (ek _ _ ⟨D2, _, rfl, .inl ⟨kT lt, .inr x, hD5, rfl, small_lt (by rw [len_kT]; omega), rfl⟩, ?_⟩)
    rw [putK_kT]
    have kp : TupKeep H5 (upd H5 D2 (.dK (kT (putK lt x (.ref p5))))) := TupKeep.at fun xs z => by rw [hD5] at z; cases z
    have kp2 : TupKeep H (upd H5 D2 (.dK (kT (putK lt x (.ref p5))))) := (TupKeep.of s05).trans kp
    refine q _ p5 ((FrL.same s05).trans (FrL.at (List.mem_singleton_self D2))) kp2 upd_same ?_
    refine (lk.keep kp2).put ⟨as ++ [p3], ?_, ?_⟩
    · refine kp _ _ ?_
      rw [h5, List.map_append]
      rfl
    · exact ((ta.keep (TupKeep.of (s04.trans s5))).snoc (s5 _ _ h3')).keep kp
theorem logMoves_len (L : Str → List (List V)) (note : List V) (x : Str) : ∀ ms : List (Str × V × V), (logMoves L note ms x).length ≤ (L x).length + ms.length := by
  intro ms
  induction ms generalizing L with
  | nil => exact Nat.le_refl _
  | cons m r ih =>
    have := ih (logPut L m.1 ([m.2.1, m.2.2] ++ note))
    have e : (logPut L m.1 ([m.2.1, m.2.2] ++ note) x).length ≤ (L x).length + 1 := by
      unfold logPut
      split
      · rw [List.length_append]
        exact Nat.le_refl _
      · omega
    show (logMoves (logPut L m.1 ([m.2.1, m.2.2] ++ note)) note r x).length ≤ _
    rw [List.length_cons]
    omega
theorem dp_head {K : PySem.W.Frag} {H : Hp} {p : Addr} {a b : Str} (h : TupK K H p [.str a, .str b]) : Dp K H (.ref p) (.tuple [.str a, .str b]) := .tup h.sq (.cons (.str a) (.cons (.str b) .nil))
theorem shaped_head {a b : Str} (ha : OkS a) (hb : OkS b) : SeqAt.shaped (.tuple [.str a, .str b]) = true := by
  simp [SeqAt.shaped, PyData.canLay0, PyData.canLayAll0, strOk_of ha, strOk_of hb, PyData.depth, PyData.depthAll]
theorem eqv_head (a b c d : Str) : PyData.eqv (.tuple [.str a, .str b]) (.tuple [.str c, .str d]) = decide ((c, d) = (a, b)) := by
  simp only [PyData.eqv, PyData.eqvAll]
  rw [Bool.eq_iff_iff]
  simp only [Bool.and_eq_true, beq_iff_eq, decide_eq_true_eq, Prod.mk.injEq, and_true]
  exact ⟨fun ⟨x, y⟩ => ⟨x.symm, y.symm⟩, fun ⟨x, y⟩ => ⟨x.symm, y.symm⟩⟩
def flatN : V → Prop
  | .non => True
  | .str _ => True
  | _ => False
theorem scal_flat {x y : V} (hx : flatN x) (hy : flatN y) : scal x y = true := by
  cases x <;> cases y <;> first | rfl | exact hx.elim | exact hy.elim
def ledF (t : Tab) (x n : Str) : V := if x = "id" then .str n else (valV t n).getD .non
theorem flat_val {t : Tab} (h : ∀ e ∈ t, flatN e.2) (x : Str) : flatN ((valV t x).getD .non) := by
  induction t with
  | nil => exact True.intro
  | cons p r ih =>
    by_cases e : p.1 = x
    · rw [valV_pos e]
      exact h p List.mem_cons_self
    · rw [valV_neg e]
      exact ih fun q hq => h q (List.mem_cons_of_mem _ hq)
theorem flat_led {t : Tab} (h : ∀ e ∈ t, flatN e.2) (x n : Str) : flatN (ledF t x n) := by
  unfold ledF
  split
  · exact True.intro
  · exact flat_val h n
theorem flat_after {t : Tab} {ms : List (Str × V × V)} (h : ∀ e ∈ t, flatN e.2) (k : ∀ m ∈ ms, flatN m.2.2) : ∀ e ∈ afterT t ms, flatN e.2 := fun e he => by
  rcases List.mem_append.mp he with he | he
  · exact h e (List.mem_filter.mp he).1
  · obtain ⟨m, hm, rfl⟩ := List.mem_map.mp (List.mem_filter.mp he).1
    exact k m hm
end Fk

set_option maxHeartbeats 4000000
/-! What stands where references and edits are. -/
namespace Fk
open PySem PySem.Spec PyProof.Rows L2
/-- the fields of references -/
def rf (lk tb hd lg : Addr) : List (Str × V) := [("_locks", .ref lk), ("_table", .ref tb), ("_head", .ref hd), ("_logs", .ref lg)]
/-- the fields of an edit -/
def ef (R nt cl : Addr) (nh : V) (b : Bool) : List (Str × V) := [("_refs", .ref R), ("_note", .ref nt), ("_calls", .ref cl), ("_new_head", nh), ("closed", .bl b)]
/-- the calls of an edit: names, what they shall have, what they had -/
def CallsAt (H : Hp) (cl : Addr) (cs : List (Str × V × V)) : Prop := ∃ zs : List (Addr × (Str × V × V)), zs.map (·.2) = cs ∧ H cl = some (.dK (kT (zs.map fun z => (z.2.1, .ref z.1)))) ∧ ∀ z ∈ zs, H z.1 = some (.tup [z.2.2.1, z.2.2.2])
/-- the locks: those of closed edits and those of the edit at E -/
def LocksAt (H : Hp) (CE lk E : Addr) (n : Nat) : Prop := ∃ kt : Tab, H lk = some (.dK (kT kt)) ∧ Nd kt ∧ kt.length ≤ 64 ∧ (kt.filter fun p => decide (p.2 = .ref E)).length ≤ n ∧ ∀ p ∈ kt, p.2 = .ref E ∨ ∃ e dx fs, p.2 = .ref e ∧ H e = some (.ins CE dx fs) ∧ fs.lookup ("closed" : Str) = some (.bl true)
theorem mem_putK {t : Tab} {x : Str} {v : V} {p : Str × V} (h : p ∈ putK t x v) : p ∈ t ∨ p.2 = v := by
  unfold putK at h
  split at h
  · obtain ⟨q, hq, e⟩ := List.mem_map.mp h
    by_cases c : q.1 = x
    · rw [if_pos c] at e
      exact .inr (by rw [← e])
    · rw [if_neg c] at e
      exact .inl (by rw [← e]; exact hq)
  · rcases List.mem_append.mp h with h | h
    · exact .inl h
    · exact .inr (by rw [List.mem_singleton.mp h])
theorem LocksAt.keep {H H' : Hp} {CE lk E : Addr} {n : Nat} (h : LocksAt H CE lk E n) (e : ∀ o, H lk = some o → H' lk = some o) (k : ∀ a dx fs, H a = some (.ins CE dx fs) → fs.lookup ("closed" : Str) = some (.bl true) → H' a = some (.ins CE dx fs)) : LocksAt H' CE lk E n := by
  obtain ⟨kt, a, b, c, c', d⟩ := h
  exact ⟨kt, e _ a, b, c, c', fun p hp => (d p hp).imp id fun ⟨x, dx, fs, h1, h2, h3⟩ => ⟨x, dx, fs, h1, k _ _ _ h2 h3, h3⟩⟩
theorem LocksAt.same {H H' : Hp} {CE lk E : Addr} {n : Nat} (h : LocksAt H CE lk E n) (s : Same H H') : LocksAt H' CE lk E n := h.keep (fun o e => s _ _ e) fun _ _ _ e _ => s _ _ e
theorem FrL.out {L : List Addr} {H H' : Hp} (f : FrL L H H') {b : Addr} {o : HO} (e : H b = some o) (n : ∀ a ∈ L, b ≠ a) : H' b = some o := f b o (fun z => n b z rfl) e
theorem not1 {a b : Addr} (h : b ≠ a) : ∀ c ∈ [a], b ≠ c := fun c hc => by rw [List.mem_singleton.mp hc]; exact h
theorem not2 {a c b : Addr} (h : b ≠ a) (k : b ≠ c) : ∀ d ∈ [a, c], b ≠ d := fun d hd => by
  rcases List.mem_cons.mp hd with e | hd
  · rw [e]; exact h
  · rw [List.mem_singleton.mp hd]; exact k
theorem at_ne {H : Hp} {a b : Addr} {o u : HO} (h : H a = some o) (k : H b = some u) (n : o ≠ u) : a ≠ b := fun z => by
  rw [z, k] at h
  exact n (Option.some.inj h).symm
/-- what an edit has behind a call -/
def callPut (cs : List (Str × V × V)) (x : Str) (v o : V) : List (Str × V × V) := cs.filter (fun c => decide (c.1 ≠ x)) ++ [(x, v, o)]
theorem CallsAt.keep {H H' : Hp} {cl : Addr} {cs : List (Str × V × V)} (h : CallsAt H cl cs) (k : TupKeep H H') (e : ∀ o, H cl = some o → H' cl = some o) : CallsAt H' cl cs := by
  obtain ⟨zs, a, b, c⟩ := h
  exact ⟨zs, a, e _ b, fun z hz => k _ _ (c z hz)⟩
theorem calls_drop (zs : List (Addr × (Str × V × V))) (x : Str) : dropK (zs.map fun z => (z.2.1, V.ref z.1)) x = (zs.filter fun z => decide (z.2.1 ≠ x)).map fun z => (z.2.1, V.ref z.1) := by
  unfold dropK
  rw [List.filter_map]
  rfl
theorem calls_put {H : Hp} {cl p : Addr} {zs : List (Addr × (Str × V × V))} {x : Str} {v o : V} (hc : H cl = some (.dK (kT (putK (dropK (zs.map fun z => (z.2.1, V.ref z.1)) x) x (.ref p))))) (hz : ∀ z ∈ zs, H z.1 = some (.tup [z.2.2.1, z.2.2.2])) (hp : H p = some (.tup [v, o])) :
    CallsAt H cl (callPut (zs.map (·.2)) x v o) := by
  refine ⟨zs.filter (fun z => decide (z.2.1 ≠ x)) ++ [(p, x, v, o)], ?_, ?_, fun z h => ?_⟩
  · unfold callPut
    rw [List.map_append, List.filter_map]
    rfl
  · rw [hc, calls_drop, putK_new]
    · rw [List.map_append]
      rfl
    · rw [← calls_drop, valV_drop, if_pos rfl]
  · rcases List.mem_append.mp h with h | h
    · exact hz z (List.mem_filter.mp h).1
    · rw [List.mem_singleton.mp h]
      exact hp
/-! ### errors that are raised -/
def spErr (K : PySem.W.Frag) (f : Str) : Sp := fun vs H Q _ => ∃ (a C fI : Addr) (y : V), vs = [.ref a, y] ∧ XC K C fI ∧ PySem.W.findIn K (.ref C) f = some none ∧ H a = some (exo a C none) ∧
  ∀ dx, H dx = none → dx ≠ a → Q .non (upd (upd H dx (exd dx [(f, y)])) a (exo a C (some dx)))
structure ErrC (K : PySem.W.Frag) (mg : Str → Option Value) (nm f : Str) (C fI : Addr) : Prop where
  mgc : mg nm = some (.ref C)
  ox : OexC K C
  xc : XC K C fI
  nf : PySem.W.findIn K (.ref C) f = some none
  ini : ∃ fd, (∀ (P : Program) (w : World) (base : Heap), FnOk P w K mg base C8.CX0 1 fI fd ["self", f] (spErr K f)) ∧ Binds K fd ["self", f] []
section
variable {X : Cx} {nm f : Str} {C fI : Addr} {e : Expr} {es : List Expr} {t : TA} {p pos : Pos}
theorem rs_of (T : ErrC X.K X.mg nm f C fI) (hr : Room 2 X.A) (hg : Gl X nm) (ha : PA X (e :: es) t) (hdb : (nm == ("__debug__" : Str)) = false := by decide)
    (he : starEach (e :: es) X.env = (false, eval e X.env) :: starEach es X.env := by rfl) (hpl : (backTo pos (starEach es X.env)).any (·.1) = false := by rfl) :
    PMk X (.Call (.Name nm p) (e :: es) [] pos) (tMkO C (spErr X.K f) [] t) := by
  obtain ⟨fd, F, b⟩ := T.ini
  exact pmk_oex T.ox T.xc.iC T.xc.tI (F _ _ _) hr b .nil C8.pass0 hg T.mgc ha hdb he hpl
end
/-- an error made to be raised -/
theorem do_raise {K : PySem.W.Frag} {mg : Str → Option Value} {nm f : Str} {C fI : Addr} (T : ErrC K mg nm f C fI) {Hc : Hp} {y : V} {Q : XK} (q : ∀ d H', Same Hc H' → Hc d = none → H' d = some (.xd [(f, y)]) → Q (.ref C) (some d) H') :
    ∀ a, Hc a = none → spErr K f (.ref a :: ([y] ++ [])) (upd Hc a (exo a C none)) (fun v H2 => v = .non ∧ ∃ (d : Addr) (fs : List (Str × V)), H2 a = some (exo a C (some d)) ∧ H2 d = some (exd d fs) ∧ Hc d = none ∧ Q (.ref C) (some d) (upd (del H2 a) d (.xd fs))) (fun _ _ _ => False) := by
  intro a na
  refine ⟨a, C, fI, y, rfl, T.xc, T.nf, upd_same, fun dx nd ne => ⟨rfl, dx, [(f, y)], upd_same, by rw [upd_ne ne]; exact upd_same, ?_, ?_⟩⟩
  · rw [upd_ne ne] at nd
    exact nd
  · have nd' : Hc dx = none := by rw [upd_ne ne] at nd; exact nd
    refine q dx _ (fun b o e => ?_) nd' upd_same
    have n1 : b ≠ a := ne_of_none e na
    have n2 : b ≠ dx := ne_of_none e nd'
    rw [upd_ne n2]
    unfold del
    rw [if_neg n1, upd_ne n1, upd_ne n2, upd_ne n1]
    exact e
/-! ### what an edit moves -/
def bad (t : Tab) (c : Str × V × V) : Bool := !decide (c.2.2 = .str "") && !decide (c.2.2 = (valV t c.1).getD .non)
def staleF (t : Tab) (cs : List (Str × V × V)) : Option Str := (cs.find? (bad t)).map (·.1)
def newT (cs : List (Str × V × V)) : Tab := cs.map fun c => (c.1, c.2.1)
def rowsF (t : Tab) (cs : List (Str × V × V)) (ys : List Str) : List (Str × V × V) := ys.map fun x => (x, (valV t x).getD .non, (valV (newT cs) x).getD .non)
def movesF (t : Tab) (cs : List (Str × V × V)) (ys : List Str) : List (Str × V × V) := (rowsF t cs ys).filter fun m => !decide (m.2.1 = m.2.2)
theorem stale_at {t : Tab} {cs : List (Str × V × V)} {i : Nat} {c : Str × V × V} (h : cs[i]? = some c) (g : ∀ d ∈ cs.take i, bad t d = false) (b : bad t c = true) : staleF t cs = some c.1 := by
  have e : cs = cs.take i ++ c :: cs.drop (i + 1) := by
    have hi := (List.getElem?_eq_some_iff.mp h)
    obtain ⟨hi, hc⟩ := hi
    rw [← hc, List.getElem_cons_drop, List.take_append_drop]
  unfold staleF
  rw [e, List.find?_append]
  have n : (cs.take i).find? (bad t) = none := List.find?_eq_none.mpr fun d hd z => by rw [g d hd] at z; cases z
  rw [n, List.find?_cons, b]
  rfl
theorem stale_none {t : Tab} {cs : List (Str × V × V)} (g : ∀ d ∈ cs, bad t d = false) : staleF t cs = none := by
  unfold staleF
  rw [List.find?_eq_none.mpr fun d hd z => by rw [g d hd] at z; cases z]
  rfl
theorem movesF_nd {t : Tab} {cs : List (Str × V × V)} {ys : List Str} (h : ys.Nodup) : ((movesF t cs ys).map (·.1)).Nodup := by
  refine List.Nodup.sublist ((List.filter_sublist).map _) ?_
  unfold rowsF
  rw [List.map_map]
  have : ((fun x : Str × V × V => x.1) ∘ fun x : Str => (x, (valV t x).getD V.non, (valV (newT cs) x).getD V.non)) = id := rfl
  rw [this, List.map_id]
  exact h
theorem movesF_len (t : Tab) (cs : List (Str × V × V)) (ys : List Str) : (movesF t cs ys).length ≤ ys.length := by
  have := List.length_filter_le (fun m : Str × V × V => !decide (m.2.1 = m.2.2)) (rowsF t cs ys)
  unfold rowsF at this
  rw [List.length_map] at this
  exact this
theorem flat_new {cs : List (Str × V × V)} (h : ∀ c ∈ cs, flatN c.2.1) : ∀ e ∈ newT cs, flatN e.2 := fun e he => by
  obtain ⟨c, hc, rfl⟩ := List.mem_map.mp he
  exact h c hc
theorem flat_moves {t : Tab} {cs : List (Str × V × V)} {ys : List Str} (ht : ∀ e ∈ t, flatN e.2) (h : ∀ c ∈ cs, flatN c.2.1) : ∀ m ∈ rowsF t cs ys, flatN m.2.1 ∧ flatN m.2.2 := fun m hm => by
  obtain ⟨x, _, rfl⟩ := List.mem_map.mp hm
  exact ⟨flat_val ht x, flat_val (flat_new h) x⟩
theorem have_after {t u : Tab} {ms : List (Str × V × V)} (nt : Nd t) (so : SortOf t u) (nm : (ms.map (·.1)).Nodup) : haveF ((afterT u ms).map (·.1)) = haveF ((afterT t ms).map (·.1)) :=
  have_perm (keys_perm (nd_after (so.nd nt) nm) (nd_after nt nm) fun x => by rw [val_after (so.nd nt) nm, val_after nt nm, so.2.2])
theorem yields_zipL {α : Type} {K : PySem.W.Frag} {a : Addr} {as : List Addr} {ms : List α} (e : as.length = ms.length) : Yields (Itl K a) ((as.zip ms).map fun u => V.ref u.1) (fun H => SqL K H a (as.map V.ref)) := by
  rw [zip_ms e]
  exact yields_list
end Fk

set_option maxHeartbeats 4000000
/-! x[y] of an own class. -/
namespace Fk
open PySem PySem.Spec PyProof.Rows L2
section
variable {P : Program} {w : World} {K : PySem.W.Frag} {mg : Str → Option Value} {base : Heap} {k : Nat} {C : Addr} {m : Str} {sp : Sp}
theorem ownM_of (M : C8.Met P w K mg base k C m sp []) : OwnM P w K mg base C8.CX0 k C m sp := by
  obtain ⟨f, fd, ps, ds, _, hm, F, b, d⟩ := M.ex
  cases d
  exact ⟨f, fd, ps, hm.at_, hm.fn, F, b⟩
/-- .. whose def is known as a def -/
structure GetM (P : Program) (w : World) (K : PySem.W.Frag) (mg : Str → Option Value) (base : Heap) (k : Nat) (C : Addr) (sp : Sp) : Prop where
  ex : ∃ (f : Addr) (fd : FuncData) (ps : List Str), PySem.W.findIn K (.ref C) "__getitem__" = some (some (.ref f)) ∧ PySem.W.isFn K (.ref f) = true ∧ PySem.W.fnIn K f = true ∧ FnOk P w K mg base C8.CX0 k f fd ps sp ∧ Binds K fd ps []
theorem getM_of {qual : Str} {st : Stmt} {N ps : List Str} (D : MDef K C "__getitem__" qual st) (S : FnScope N ps (C8.fnScope st))
    (hb : ∀ (kV doc pm : Value) (an : Option Addr) (cdv ct : Value) (us : List Value), us.length = ps.length → bindArgs (PySem.W.fnOf "__getitem__" qual (C8.fnArgs st) (C8.fnBody st) (C8.fnScope st) .none kV doc pm an cdv ct) ⟨us, []⟩ = pure (ps.zip us))
    (len : ∀ vs H Q E, sp vs H Q E → vs.length = ps.length)
    (hbody : ∀ (f : Addr) (cdv : Value) (A : Around) (outer : List Env) (s : Shared) (H : Hp) (vs : List V) (Q : VK) (E : XK), Room k (A.deeper (envOfC qual (C8.fnScope st) s.heap.objs.size f cdv)) → sp vs H Q E →
      ∃ t, PSs (cxOf C8.CX0 P w K mg base N qual (C8.fnScope st) f cdv A outer s H E).nox (C8.fnBody st) t ∧ t { nx := fun _ H' => Q .non H', rt := Q } (start N vs) H) : GetM P w K mg base (k + 1) C sp := by
  obtain ⟨f, fd, F, M, df⟩ := D.ex
  have G := C8.fn0 (P := P) (w := w) (mg := mg) (base := base) F S len (hbody f)
  have b := F.binds df hb
  obtain ⟨oc, od, dV, kV, doc, pm, an, cdv, ct, osl, rfl, lk, hcd⟩ := F.ex
  refine ⟨f, _, ps, M.at_, M.fn, ?_, G, b⟩
  unfold PySem.W.fnIn
  rw [lk]
end
section
variable {X : Cx} {k : Nat} {C : Addr} {sp : Sp} {o i : Expr} {td ty : TE} {pos : Pos}
def tOwnGet (C : Addr) (sp : Sp) (td ty : TE) : TE := fun σ H Q => td σ H fun x H1 => ty σ H1 fun y H2 => ∃ (a dx : Addr) (fs : List (Str × V)), x = .ref a ∧ H2 a = some (.ins C dx fs) ∧ sp [x, y] H2 Q C8.E0
theorem pe_ownGet (M : GetM X.prog X.w X.K X.mg X.base k C sp) (hr : Room (k + 1) X.A) (ho : PE X o td) (hi : PE X i ty)
    (hsl : ∀ x iv, subscripted i true (.ref x) iv = runValue (.builtin "lifetime.subscript" ⟨[.ref x, iv], []⟩) := by intro _ _; with_unfolding_all rfl) : PE X (.Subscript o i pos) (tOwnGet C sp td ty) := by
  refine ⟨fun pins s σ H Q I h => ?_⟩
  refine Subscript_ (thn (ho.run pins s σ H _ I h) fun v s1 ⟨x, H1, I1, rx, q1⟩ => thn (hi.run pins s1 σ H1 _ I1 q1) fun u s2 ⟨y, H2, I2, ry, a, dx, fs, ex, ha, q⟩ => ?_)
  subst ex
  obtain rfl : v = Value.ref a := rx
  obtain ⟨f, fd, ps, hs, hf, hfi, F, hb⟩ := M.ex
  obtain ⟨mA, J, _⟩ := ins_get I2.hok ha
  obtain ⟨od, J, _⟩ := J.look
  obtain ⟨m, hF⟩ := I2.fr
  exact PySem.W.sub_K hF I2.ok.mod.kin J hs hfi hf (run_in F hr.in1 I2.env0.in1 hb noEx0 I2 (show Vals [V.ref a, y] [Value.ref a, u] from .cons rfl (.cons ry .nil)) q) (hsl _ _)
end
end Fk

set_option maxHeartbeats 4000000
/-! xs[::-1] of a list, t[::-1] of a tuple. -/
namespace Fk
open PySem PySem.Spec PyProof.Rows L2 HT
theorem back_places (n : Nat) : Builtin.Slice.sliceAdjust none none (-1) (n : Int) = ((n : Int) - 1, -1) ∧ Builtin.Slice.slicePlaces ((n : Int) - 1) (-1) (-1) = n := by
  constructor
  · first | rfl | simp [Builtin.Slice.sliceAdjust]
  · unfold Builtin.Slice.slicePlaces
    rw [if_neg (by decide)]
    by_cases h : (n : Int) - 1 > -1
    · rw [if_pos h, show (- -1 : Int) = 1 by decide, Int.ediv_one]
      omega
    · rw [if_neg h]
      omega
theorem sliceApplied_back {prog : Program} {w : World} {A : Around} {E : Value → Shared → Prop} {s : Shared} {sl : Addr} {vk : Value} {n : Nat} {Q : Int × Int × Nat → Shared → Prop} (hs : s.heap.IsSliceOf sl .none .none vk) (pk : IsPart vk (some (-1)))
    (h : Q ((n : Int) - 1, -1, n) s) : wpAny (model prog w) A (Builtin.Slice.sliceApplied (.ref sl) (pure (n : Int))) Q E s := by
  obtain ⟨os, hos, hcs, hds⟩ := id hs
  unfold Builtin.Slice.sliceApplied Builtin.Slice.sliceFields
  refine wpAny_bind (wpAny_bind (wpAny_field hos hds (x := .none) rfl (wpAny_bind (wpAny_field hos hds (x := .none) rfl (wpAny_bind (wpAny_field hos hds (x := vk) rfl (wpAny_pure ?_)))))))
  refine wpAny_bind (slicePart_ pk ?_)
  show wpAny _ _ (if ((-1 : Int) == 0) = true then _ else _) _ _ s
  rw [if_neg (by decide)]
  refine wpAny_bind (slicePart_ .none (wpAny_bind (slicePart_ .none (wpAny_bind (wpAny_pure ?_)))))
  show wpAny _ _ (match Builtin.Slice.sliceAdjust none none (-1) (n : Int) with | (lo, hi) => pure (lo, (-1 : Int), Builtin.Slice.slicePlaces lo hi (-1))) _ _ s
  rw [(back_places n).1]
  show wpAny _ _ (pure ((n : Int) - 1, (-1 : Int), Builtin.Slice.slicePlaces ((n : Int) - 1) (-1) (-1))) _ _ s
  rw [(back_places n).2]
  exact wpAny_pure h
theorem fm_congr {α β : Type} {f g : α → Option β} : ∀ {l : List α}, (∀ x ∈ l, f x = g x) → l.filterMap f = l.filterMap g
  | [], _ => rfl
  | a :: r, h => by
    rw [List.filterMap_cons, List.filterMap_cons, h a List.mem_cons_self, fm_congr fun x hx => h x (List.mem_cons_of_mem _ hx)]
theorem pick_back (items : Array Value) : ((List.range items.size).filterMap fun (k : Nat) => items[((items.size : Int) - 1 + (k : Int) * (-1)).toNat]?) = items.toList.reverse := by
  have e : ((List.range items.size).filterMap fun (k : Nat) => items[((items.size : Int) - 1 + (k : Int) * (-1)).toNat]?) = ((List.range items.size).map fun k => items.size - 1 - k).filterMap (items[·]?) := by
    rw [List.filterMap_map]
    refine fm_congr fun k hk => ?_
    have := List.mem_range.mp hk
    show _ = items[items.size - 1 - k]?
    congr 1
    omega
  rw [e, PySem.W.krv_range, List.filterMap_reverse, PySem.W.krv_all]
theorem getItem_tuple_back {prog : Program} {w : World} {A : Around} {E : Value → Shared → Prop} {s : Shared} {t sl : Addr} {items : Array Value} {vk : Value} {Q : Value → Shared → Prop} (ht : IsTup s.heap t items) (hs : s.heap.IsSliceOf sl .none .none vk) (pk : IsPart vk (some (-1)))
    (h : Q (.ref s.heap.objs.size) { s with heap := s.heap.push { cls := .type "tuple", data := .seq items.toList.reverse.toArray } }) (hsz : items.size ≤ sizeLine) : wpAny (model prog w) A (getItem (.ref t) (.ref sl)) Q E s := by
  have htake : sizeOk (.seq items.toList.reverse.toArray) := by
    show items.toList.reverse.toArray.size ≤ sizeLine
    rw [List.size_toArray, List.length_reverse, Array.length_toList]
    exact hsz
  obtain ⟨os, hos, hcs, hds⟩ := id hs
  have hTs : s.TypeIs (.ref sl) "slice" := ⟨os, hos, hcs⟩
  unfold getItem
  try with_reducible refine wpAny_holding ?_
  first | refine wpAny_bind (wpAny_pure ?_) | skip
  refine wpAny_bind (wpAny_sequenceKey ht.typeIs (by decide) ?_)
  refine wpAny_bind (wpAny_callSpecial?_slot (name := Str.ofString "__getitem__") ht.typeIs PyProof.Rows.slot_tuple_getitem
    (wpAny_call_entry PyProof.Rows.slot_tuple_getitem ht.typeIs entry_tuple_getitem ?_ (args_tuple_getitem _ _)))
  show wpAny _ _ (Builtin.Tuple.tupleItemsOf (.ref t) >>= _) _ _ s
  refine wpAny_bind (tupleItemsOf_ ht ?_)
  refine wpAny_bind (wpAny_typeOf hTs ?_)
  rw [if_pos (by decide)]
  refine wpAny_bind (sliceApplied_back hs pk ?_)
  have hno : ¬ ((((items.size : Int) - 1) == 0 && (-1 : Int) == 1 && items.size == items.size) = true) := by
    rw [show ((-1 : Int) == 1) = false from by decide, Bool.and_false, Bool.false_and]
    exact Bool.false_ne_true
  show wpAny _ _ (if (((items.size : Int) - 1) == 0 && (-1 : Int) == 1 && items.size == items.size) = true then _ else _) _ _ s
  rw [if_neg hno, pick_back]
  first
    | exact wpAny_bind (m := Builtin.Tuple.tupleExact _) (wpAny_newObj_type (wpAny_pure ⟨_, rfl, wpAny_pure h⟩) htake)
    | exact wpAny_bind (m := Builtin.Tuple.tupleExact _) (wpAny_newObj_type (wpAny_bind (wpAny_pure (wpAny_pure ⟨_, rfl, wpAny_pure h⟩))) htake)
    | exact wpAny_bind (wpAny_bind (m := Builtin.Tuple.tupleExact _) (wpAny_newObj_type (wpAny_pure (wpAny_pure ⟨_, rfl, wpAny_pure h⟩)) htake))
    | exact wpAny_bind (wpAny_bind (m := Builtin.Tuple.tupleExact _) (wpAny_newObj_type (wpAny_pure ⟨_, rfl, wpAny_pure h⟩) htake))
def rBack (K : PySem.W.Frag) : V → Hp → VK → Prop := fun x H Q => (∃ a xs, x = .ref a ∧ SqL K H a xs ∧ ∀ p, H p = none → Q (.ref p) (upd H p (.lst xs.reverse))) ∨ ∃ a xs, x = .ref a ∧ SqT K H a xs ∧ ∀ p, H p = none → Q (.ref p) (upd H p (.tup xs.reverse))
def tBack (K : PySem.W.Frag) (te ts : TE) : TE := fun σ H Q => te σ H fun x H1 => ts σ H1 fun y H2 => y = .int (-1) ∧ rBack K x H2 Q
theorem vals_rev {xs : List V} {us : List Value} (r : Vals xs us) : Vals xs.reverse us.reverse := by
  induction r with
  | nil => exact .nil
  | cons h t ih =>
    rw [List.reverse_cons, List.reverse_cons]
    exact ih.append (.cons h .nil)
/-- e[::-1] -/
theorem pe_back {X : Cx} {e st : Expr} {te ts : TE} {p2 pos : Pos} (he : PE X e te) (hst : PE X st ts) (hp : evalPart (some st) X.env = eval st X.env := by rfl)
    (hsub : ∀ x sl : Addr, ∃ ops, subscripted (.Slice none none (some st) p2) false (.ref x) (.ref sl) = operate ops (getItem (.ref x) (.ref sl)) := by intro x sl; exact ⟨_, by with_unfolding_all rfl⟩) : PE X (.Subscript e (.Slice none none (some st) p2) pos) (tBack X.K te ts) := by
  refine ⟨fun pins s σ H Q I h => ?_⟩
  refine Subscript_ (thn (he.run pins s σ H _ I h) fun v s1 ⟨x, H1, I1, r1, q1⟩ => ?_)
  refine wpAny_Slice ?_
  rw [evalPart_none]
  refine wpAny_pure (wpAny_pure ?_)
  rw [hp]
  refine thn (hst.run pins s1 σ H1 _ I1 q1) fun vk s3 ⟨y, H3, I3, pk, ey, q3⟩ => ?_
  subst ey
  obtain ⟨tk, rfl⟩ := (show ∃ t, vk = Value.int (-1) t from pk)
  have pk' : IsPart (.int (-1) tk) (some (-1)) := .int _ _
  have I4 : Inv X pins σ H3 { s3 with heap := s3.heap.push { cls := .type "slice", data := .fields #[.none, .none, .int (-1) tk] } } := I3.kept (t' := s3.toks) fun b ob q => Heap.get?_push_of_some _ q
  have hs : Heap.IsSliceOf (s3.heap.push { cls := .type "slice", data := .fields #[.none, .none, .int (-1) tk] }) s3.heap.objs.size .none .none (.int (-1) tk) := Heap.IsSliceOf.new ..
  generalize hS : ({ s3 with heap := s3.heap.push { cls := .type "slice", data := .fields #[.none, .none, .int (-1) tk] } } : Shared) = S at I4
  have hs' : S.heap.IsSliceOf s3.heap.objs.size .none .none (.int (-1) tk) := by rw [← hS]; exact hs
  show wpAny (model X.prog X.w) X.A (subscriptTail e (.Slice none none (some st) p2) v (.ref s3.heap.objs.size)) (EP X pins σ Q) X.xe S
  rcases q3 with ⟨a, xs, rfl, hx, q⟩ | ⟨a, xs, rfl, hx, q⟩
  · cases (show v = Value.ref a from r1)
    obtain ⟨its, r, hl, hz⟩ := I4.list hx
    have hlen : its.toArray.size = xs.length := by rw [List.size_toArray]; exact r.length.symm
    obtain ⟨ops, eo⟩ := hsub a s3.heap.objs.size
    refine tail_any (T := "list") (ops := ops) hl.isList.typeIs slot_list_getitem.lookup ?_ eo
    refine wpAny_getItem_list_slice hl.isList hs' .none .none pk' (by decide) ?_ (by rw [hlen]; exact hz)
    rw [PySem.W.krv_pick]
    refine ⟨.ref S.heap.objs.size, _, I4.laid (t' := S.toks) (o := .lst xs.reverse) (fun b ob q => Heap.get?_push_of_some _ q) (Nat.le_refl _) ?_, rfl, q _ (I4.hok.fresh (Nat.le_refl _))⟩
    exact ⟨by rw [List.length_reverse]; exact hz, _, 0, (vals_rev r), Heap.get?_push_size _ rfl⟩
  · cases (show v = Value.ref a from r1)
    obtain ⟨its, r, ht, hz⟩ := I4.tuple hx
    have hlen : its.toArray.size = xs.length := by rw [List.size_toArray]; exact r.length.symm
    obtain ⟨ops, eo⟩ := hsub a s3.heap.objs.size
    refine tail_any (T := "tuple") (ops := ops) ht.typeIs PyProof.Rows.slot_tuple_getitem.lookup ?_ eo
    refine getItem_tuple_back ht hs' pk' ?_ (by rw [hlen]; exact hz)
    refine ⟨.ref S.heap.objs.size, _, I4.laid (t' := S.toks) (o := .tup xs.reverse) (fun b ob q => Heap.get?_push_of_some _ q) (Nat.le_refl _) ?_, rfl, q _ (I4.hok.fresh (Nat.le_refl _))⟩
    exact ⟨by rw [List.length_reverse]; exact hz, _, (vals_rev r), IsTup.new _ _⟩
end Fk

set_option maxHeartbeats 4000000
/-! text.encode("ascii") of a text below 128 -/
namespace Fk
open PySem PySem.Spec PySem.Calls PyProof.Rows L2
open Builtin PySem.W
def AsX (x : PySem.Str) : Prop := ∀ c ∈ x.cps.toList, c < 128
def byts (x : PySem.Str) : Array UInt8 := ⟨x.cps.toList.map (·.toUInt8)⟩
theorem byts_size (x : PySem.Str) : (byts x).size = x.length := by simp only [byts, List.size_toArray, List.length_map, Array.length_toList]; rfl
theorem fold_b (l : List Nat) : ∀ acc : Array UInt8, l.foldl (fun a y => a ++ ([y.toUInt8] : List UInt8).toArray) acc = acc ++ (⟨l.map (·.toUInt8)⟩ : Array UInt8) := by
  induction l with
  | nil => intro acc; simp
  | cons c r ih => intro acc; rw [List.foldl_cons, ih]; apply Array.toList_inj.mp; simp
theorem none_bad {x : PySem.Str} (h : AsX x) : x.cps.findIdx? (fun c => decide (c ≥ 128)) = none := by
  refine Array.findIdx?_eq_none_iff.mpr fun c hc => decide_eq_false ?_
  have := h c (Array.mem_toList_iff.mpr hc); omega
section
variable {M : Model} {A : Around} {E : Value → Shared → Prop} {s : Shared} {x : PySem.Str} {id : String} {self : Value}
theorem all_of (y : Array Nat) : y.extract 0 y.size = y := by simp
theorem wp_narrow {Q : Array UInt8 → Shared → Prop} (ha : AsX x) (hz : x.length ≤ 16777216) (h : Q (byts x) s) : wpAny M A (_codecs.encodeNarrow id _codecs.asciiCodec none self x) Q E s := by
  have z0 : ¬ sizeLine < (#[] : Array UInt8).size := by rw [sizeLine_eq]; decide
  have z1 : ¬ sizeLine < (byts x).size := by rw [byts_size, sizeLine_eq]; omega
  have out : ((x.cps.extract 0 x.cps.size).extract 0 x.cps.size).foldl (fun a y => a ++ (_codecs.asciiCodec.bytesOf y).toArray) #[] = byts x := by
    rw [all_of, all_of, ← Array.foldl_toList]; exact (fold_b x.cps.toList #[]).trans (by simp [byts])
  unfold _codecs.encodeNarrow; refine wpAny_bind ?_; rw [KPc.range_list]
  cases hn : x.length with
  | zero =>
    have e : byts x = #[] := Array.eq_empty_of_size_eq_zero ((byts_size x).trans hn)
    rw [e] at h; show wpAny M A (forIn ([] : List Nat) _ _) _ E s; rw [List.forIn_nil]
    exact wpAny_pure (wpAny_pure h)
  | succ n =>
    have h0 : 0 < x.cps.size := by have : x.cps.size = n + 1 := hn; omega
    have hg : x.cps[0]? = some (x.cps[0]'h0) := Array.getElem?_eq_getElem h0
    have hb : _codecs.asciiCodec.bad (x.cps[0]'h0) = false := decide_eq_false (by have := ha _ (Array.mem_toList_iff.mpr (Array.getElem_mem h0)); omega)
    have hc : (((x.cps.extract 0 x.cps.size).findIdx? _codecs.asciiCodec.bad).getD (x.cps.extract 0 x.cps.size).size) = x.cps.size := by
      rw [all_of]; show ((x.cps.findIdx? (fun c => decide (c ≥ 128))).getD x.cps.size) = _; rw [none_bad ha]; rfl
    rw [List.range'_succ]; refine KPc.turn (wpAny_ite (KBy.ite_no z0 ?_)); (try dsimp only); rw [hg]; (try dsimp only)
    refine wpAny_ite (KBc.ite_yes (by rw [hb]; rfl) ?_); rw [hc, out]; (try dsimp only)
    cases n with
    | zero =>
      refine wpAny_pure ?_; show wpAny M A (forIn ([] : List Nat) _ _) _ E s; rw [List.forIn_nil]
      exact wpAny_pure (wpAny_pure h)
    | succ m =>
      refine wpAny_pure ?_; rw [List.range'_succ]; refine KPc.turn (wpAny_ite (KBy.ite_no z1 ?_)); (try dsimp only)
      have he : x.cps[0 + x.cps.size]? = none := Array.getElem?_eq_none (by omega)
      rw [he]; (try dsimp only); exact wpAny_pure (wpAny_pure h)
end
theorem enc_tree2 (x : PySem.Str) (t t2 : Tok) : «str.encode» ⟨[.str x t, .str (Str.ofString "ascii") t2], []⟩ = (do ret (← _codecs.encodeRoad "str.encode" (.str x t) x (Str.ofString "ascii") none)) := by
  first | rfl | kernel_rfl
theorem road_ascii (id : String) (self : Value) (x : PySem.Str) : _codecs.encodeRoad id self x (Str.ofString "ascii") none = (do mkBytes (← _codecs.encodeNarrow id _codecs.asciiCodec none self x)) := by
  first | rfl | (unfold _codecs.encodeRoad; rfl) | (unfold _codecs.encodeRoad; simp only []; rfl)
theorem meets_ascii {x : PySem.Str} {t t2 : Tok} (ha : AsX x) (hz : x.length ≤ 16777216) : Meets («str.encode» ⟨[.str x t, .str (Str.ofString "ascii") t2], []⟩) (fun _ R s => ∀ t' k, R (.ok (.ret (.bytes (byts x) t'))) { s with toks := k }) := by
  refine .of_wp fun prog w A R s h => ?_
  rw [enc_tree2, road_ascii]
  refine wpAny_bind (wpAny_bind (wp_narrow ha hz (wpAny_mkBytes ?_ (by rw [byts_size, sizeLine_eq]; exact hz))))
  exact wpAny_pure ⟨_, rfl, h _ _⟩
/-- text.encode("ascii") -/
theorem mt_ascii {X : Cx} : MtR X "str.encode" (fun x xs H Q => ∃ a : Str, x = .str a ∧ xs = [.str (Str.ofString "ascii")] ∧ AsX a ∧ a.length ≤ 16777216 ∧ Q (.byt (byts a)) H) := by
  intro pins s σ H x xs v us Q I rx rs h
  obtain ⟨a, rfl, rfl, ha, hz, q⟩ := h
  obtain ⟨t, rfl⟩ := rx
  cases rs with
  | cons r1 r2 =>
    cases r2
    obtain ⟨t2, rfl⟩ := r1
    exact call_meets F.slot_str_encode (typeIs_str s a t) F.entry_str_encode (F.args_str_encode_2 _ _) (meets_ascii ha hz) fun t' k => ⟨.byt (byts a), H, I.tok k, ⟨t', rfl⟩, q⟩
end Fk

set_option maxHeartbeats 4000000
/-! f"{n:016x}" of a number that is not negative -/
namespace Fk
open PySem PySem.Spec PySem.Calls PyProof.Rows L2
open Builtin PySem.W
def figs (n : Nat) : List Nat := (Nat.toDigits 16 n).map Char.toNat
def hex16 (n : Nat) : PySem.Str := ⟨(List.replicate (16 - (figs n).length) 48 ++ figs n).toArray⟩
def spec16 : Float.FormatSpec := match Float.parseFormatSpec (Str.ofString "016x").cps.toList "int" 62 with
  | .ok f => f
  | .error _ => ⟨0, 0, none, false, false, none, none, none, none⟩
def text16 (a : Int) : PySem.Str := intField' spec16 (decide (a < 0)) [] ((Nat.toDigits 16 a.natAbs).map fun c => (if (120 : Nat) == 88 then c.toUpper else c).toNat) [] 4
theorem spec_is : spec16.fill = 48 ∧ spec16.align = 61 ∧ spec16.width = some 16 ∧ spec16.grouping = none ∧ spec16.sign = none := by decide +kernel
theorem meets_hex {a : Int} {t : Tok} (hl : (text16 a).length ≤ sizeLine) : ∀ u, Meets («int.__format__» ⟨[.int a t, .str (Str.ofString "016x") u], []⟩) (fun _ R s => ∀ t' k, R (.ok (.ret (.str (text16 a) t'))) { s with toks := k }) := by
  intro _
  apply KPc.meets_of
  intro _ _ _ _ _ _ hq
  unfold Builtin.«int.__format__»; refine wpAny_bind (wpAny_of_eq (a := (_, _)) rfl ?_); refine wpAny_bind (wpAny_of_eq (a := _) rfl ?_)
  kxf_if
  refine wpAny_bind (wpAny_typeNameOf (T := "str") (typeIs_str _ _ _) (by decide) fun _ => ?_); refine wpAny_bind (wpAny_of_eq (a := some _) rfl ?_)
  kxf_if; kxf_if
  refine wpAny_bind (wpAny_typeNameOfCut_int ?_)
  repeat kxf_if
  refine KXf.ret_text (T := text16 a) ?_ ?_ hq
  · first | rfl | kernel_rfl
  · exact hl
theorem core_len (b : Nat) (hb : 1 < b) : ∀ (k fuel n : Nat) (ds : List Char), 1 ≤ k → n < b ^ k → (Nat.toDigitsCore b fuel n ds).length ≤ ds.length + k
  | _, 0, _, ds, _, _ => by unfold Nat.toDigitsCore; omega
  | k, fuel + 1, n, ds, hk, hn => by
    unfold Nat.toDigitsCore; simp only
    split
    · simp only [List.length_cons]; omega
    · rename_i h0
      cases k with
      | zero => omega
      | succ j =>
        cases j with
        | zero => exact absurd (Nat.div_eq_of_lt (by simpa using hn)) h0
        | succ i =>
          have h1 : n / b < b ^ (i + 1) := Nat.div_lt_of_lt_mul (by rw [Nat.pow_succ, Nat.mul_comm] at hn; exact hn)
          have := core_len b hb (i + 1) fuel (n / b) (Nat.digitChar (n % b) :: ds) (by omega) h1
          simp only [List.length_cons] at this; omega
theorem figs_len {n : Nat} (h : n < 16 ^ 16) : (figs n).length ≤ 16 := by
  have := core_len 16 (by decide) 16 (n + 1) n [] (by decide) h
  unfold figs; rw [List.length_map]; simpa [Nat.toDigits] using this
theorem figs_ne (n : Nat) : (figs n).isEmpty = false := by
  have := tDigits_len_ge 16 n
  cases e : figs n with
  | nil => have h2 : (figs n).length = 0 := by rw [e]; rfl
           unfold figs at h2; rw [List.length_map] at h2; omega
  | cons c r => rfl
theorem text_hex {n : Nat} (h : n < 16 ^ 16) : text16 (n : Int) = hex16 n := by
  obtain ⟨f1, f2, f3, f4, f5⟩ := spec_is
  have hl := figs_len h
  have hn := figs_ne n
  have e0 : decide ((n : Int) < 0) = false := decide_eq_false (by omega)
  have e1 : ((Nat.toDigits 16 (n : Int).natAbs).map fun c => (if (120 : Nat) == 88 then c.toUpper else c).toNat) = figs n := rfl
  unfold text16 intField' hex16
  rw [e0, e1]
  simp only [f1, f2, f3, f4, f5, hn, Bool.false_eq_true, if_false, List.length_nil, List.append_nil, List.nil_append, List.length_append, List.length_replicate, beq_self_eq_true, Bool.and_true, if_true]
  simp
  omega
theorem hex_len {n : Nat} (h : n < 16 ^ 16) : (hex16 n).length = 16 := by
  have := figs_len h
  show ((List.replicate (16 - (figs n).length) 48 ++ figs n).toArray).size = 16
  rw [List.size_toArray, List.length_append, List.length_replicate]; omega
def HX : List Nat := [48, 49, 50, 51, 52, 53, 54, 55, 56, 57, 97, 98, 99, 100, 101, 102]
theorem dig_in : ∀ d : Fin 16, (Nat.digitChar d).toNat ∈ HX := by decide +kernel
theorem core_in : ∀ (fuel n : Nat) (ds : List Char), (∀ c ∈ ds, c.toNat ∈ HX) → ∀ c ∈ Nat.toDigitsCore 16 fuel n ds, c.toNat ∈ HX
  | 0, _, ds, h => by unfold Nat.toDigitsCore; exact h
  | fuel + 1, n, ds, h => by
    have h2 : ∀ c ∈ Nat.digitChar (n % 16) :: ds, c.toNat ∈ HX := fun c hc => by
      rcases List.mem_cons.mp hc with rfl | hc
      · exact dig_in ⟨n % 16, Nat.mod_lt _ (by decide)⟩
      · exact h c hc
    unfold Nat.toDigitsCore; simp only
    split
    · exact h2
    · exact core_in fuel (n / 16) _ h2
theorem hex_in {n c : Nat} (h : c ∈ (hex16 n).cps.toList) : c ∈ HX := by
  have h : c ∈ List.replicate (16 - (figs n).length) 48 ++ figs n := h
  rcases List.mem_append.mp h with h | h
  · rw [(List.mem_replicate.mp h).2]; decide
  · obtain ⟨d, hd, rfl⟩ := List.mem_map.mp h
    exact core_in (n + 1) n [] (fun c hc => by cases hc) d hd
/-- {n:016x} -/
def tHex (te : TE) : TE := fun σ H Q => te σ H fun x H1 => ∃ n : Nat, x = .int n ∧ n < 16 ^ 16 ∧ Q (.str (hex16 n)) H1
theorem pe_hex {X : Cx} {e sp : Expr} {te : TE} {pos : Pos} (he : PE X e te) (hs : PE X sp (tC (.str (Str.ofString "016x")))) : PE X (.FormattedValue e (-1) (some sp) pos) (tHex te) := by
  refine ⟨fun pins s σ H Q I h => wpAny_FormattedValue_spec (thn (he.run pins s σ H _ I h) fun v s1 hv => ?_)⟩
  obtain ⟨x, H1, I1, r1, n, rfl, hn, q⟩ := hv
  obtain ⟨t, rfl⟩ := r1
  refine thn (hs.run pins s1 σ H1 (fun y H2 => y = .str (Str.ofString "016x") ∧ H2 = H1) I1 ⟨rfl, rfl⟩) fun u s2 hu => ?_
  obtain ⟨y, H2, I2, r2, rfl, rfl⟩ := hu
  obtain ⟨t2, rfl⟩ := r2
  have hz : (text16 (n : Int)).length ≤ sizeLine := by rw [text_hex hn, hex_len hn]; decide
  refine ⟨_, t2, rfl, KXf.field_int (y := text16 (n : Int)) rfl (by decide) (by decide) (fun u => meets_hex hz u) fun t' k => ?_⟩
  rw [text_hex hn]
  exact ⟨.str (hex16 n), H2, I2.tok k, ⟨t', rfl⟩, q⟩
end Fk

set_option maxHeartbeats 4000000
/-! What calls make of a table, one by one and by moves. -/
namespace Fk
open PySem PySem.Spec PyProof.Rows L2
def stepT (u : Tab) (c : Str × V × V) : Tab := if notNon c.2.1 = true then putK (dropK u c.1) c.1 c.2.1 else dropK u c.1
def lawT (t : Tab) (cs : List (Str × V × V)) : Tab := cs.foldl stepT t
theorem nd_step {t : Tab} (h : Nd t) (c : Str × V × V) : Nd (stepT t c) := by
  unfold stepT
  split
  · exact nd_put (nd_drop h c.1) _ _
  · exact nd_drop h c.1
theorem nd_lawT {t : Tab} (h : Nd t) : ∀ cs, Nd (lawT t cs) := fun cs => by
  unfold lawT
  induction cs generalizing t with
  | nil => exact h
  | cons c r ih => exact ih (nd_step h c)
theorem len_step (t : Tab) (c : Str × V × V) : (stepT t c).length ≤ t.length + 1 := by
  unfold stepT
  have h := dropK_le t c.1
  split
  · have := len_put (dropK t c.1) c.1 c.2.1
    omega
  · omega
theorem len_lawT (t : Tab) (cs : List (Str × V × V)) : (lawT t cs).length ≤ t.length + cs.length := by
  unfold lawT
  induction cs generalizing t with
  | nil => exact Nat.le_refl _
  | cons c r ih =>
    have := ih (stepT t c)
    have := len_step t c
    rw [List.foldl_cons, List.length_cons]
    omega
theorem val_step (t : Tab) (c : Str × V × V) (x : Str) : valV (stepT t c) x = if x = c.1 then (if notNon c.2.1 = true then some c.2.1 else none) else valV t x := by
  unfold stepT
  by_cases h : notNon c.2.1 = true
  · rw [if_pos h, valV_put, valV_drop]
    by_cases e : x = c.1
    · rw [if_pos e, if_pos e, if_pos h]
    · rw [if_neg e, if_neg e, if_neg e]
  · rw [if_neg h, valV_drop]
    by_cases e : x = c.1
    · rw [if_pos e, if_pos e, if_neg h]
    · rw [if_neg e, if_neg e]
theorem val_lawT (x : Str) : ∀ (cs : List (Str × V × V)) (t : Tab), (cs.map (·.1)).Nodup → valV (lawT t cs) x = match valV (newT cs) x with
    | none => valV t x
    | some v => if notNon v = true then some v else none
  | [], t, _ => rfl
  | c :: r, t, h => by
    obtain ⟨h1, h2⟩ := List.nodup_cons.mp (show (c.1 :: r.map (·.1)).Nodup from h)
    show valV (lawT (stepT t c) r) x = match valV ((c.1, c.2.1) :: newT r) x with
      | none => valV t x
      | some v => if notNon v = true then some v else none
    rw [val_lawT x r (stepT t c) h2]
    by_cases e : c.1 = x
    · have n : valV (newT r) x = none := by
        cases q : valV (newT r) x with
        | none => rfl
        | some v =>
          have m := valV_in q
          unfold newT at m
          rw [List.map_map] at m
          exact absurd (show c.1 ∈ r.map (·.1) by rw [e]; exact m) h1
      rw [n, valV_pos e]
      show valV (stepT t c) x = if notNon c.2.1 = true then some c.2.1 else none
      rw [val_step, if_pos e.symm]
    · rw [valV_neg e]
      cases q : valV (newT r) x with
      | none =>
        show valV (stepT t c) x = valV t x
        rw [val_step, if_neg (fun z => e z.symm)]
      | some v => rfl
theorem news_moves (t : Tab) (cs : List (Str × V × V)) {ys : List Str} (h : ys.Nodup) (x : Str) : valV (newsT (movesF t cs ys)) x = if x ∈ ys ∧ ¬ (valV t x).getD .non = (valV (newT cs) x).getD .non then some ((valV (newT cs) x).getD .non) else none := by
  have e : newsT (movesF t cs ys) = (ys.map fun x => (x, (valV (newT cs) x).getD .non)).filter fun p => !decide ((valV t p.1).getD .non = p.2) := by
    unfold newsT movesF rowsF
    rw [List.filter_map, List.filter_map, List.map_map]
    rfl
  have nd : Nd (ys.map fun x => (x, (valV (newT cs) x).getD .non)) := by
    unfold Nd
    rw [List.map_map]
    have : ((fun x : Str × V => x.1) ∘ fun x : Str => (x, (valV (newT cs) x).getD V.non)) = id := rfl
    rw [this, List.map_id]
    exact h
  rw [e, val_filter nd, val_keys (fun x => (valV (newT cs) x).getD .non)]
  by_cases m : x ∈ ys
  · rw [if_pos m]
    by_cases d : (valV t x).getD .non = (valV (newT cs) x).getD .non
    · rw [if_neg (fun z => z.2 d)]
      simp [d]
    · rw [if_pos ⟨m, d⟩]
      simp [d]
  · rw [if_neg m, if_neg (fun z => m z.1)]
    rfl
theorem notNon_some {v : V} (h : notNon v = true) : v ≠ .non := fun z => by rw [z] at h; cases h
theorem nn_of {v : V} (h : ¬ notNon v = true) : v = .non := by
  cases v <;> first | rfl | exact absurd rfl h
/-- moves and calls make the same -/
theorem after_law {t : Tab} {cs : List (Str × V × V)} {ys : List Str} (nt : Nd t) (vs : ∀ e ∈ t, notNon e.2 = true) (nc : (cs.map (·.1)).Nodup) (hp : ys.Perm (cs.map (·.1))) (x : Str) : valV (afterT t (movesF t cs ys)) x = valV (lawT t cs) x := by
  have ny : ys.Nodup := hp.nodup_iff.mpr nc
  rw [val_after nt (movesF_nd ny), news_moves t cs ny, val_lawT x cs t nc]
  have mk : x ∈ ys ↔ (valV (newT cs) x).isSome = true := by
    rw [hp.mem_iff, ← mem_val]
    unfold newT
    rw [List.map_map]
    rfl
  cases q : valV (newT cs) x with
  | none =>
    have nx : ¬ x ∈ ys := fun z => by have := mk.mp z; rw [q] at this; cases this
    rw [if_neg (fun z => nx z.1)]
  | some v =>
    have yx : x ∈ ys := mk.mpr (by rw [q]; rfl)
    by_cases d : (valV t x).getD .non = v
    · rw [if_neg (fun z => z.2 d)]
      show valV t x = if notNon v = true then some v else none
      cases c : valV t x with
      | none =>
        rw [c] at d
        rw [← d]
        rfl
      | some w =>
        rw [c] at d
        have d : w = v := d
        obtain ⟨p, hp2, ep⟩ := List.mem_map.mp (valV_in c)
        have v1 := val_nodup nt p hp2
        rw [ep, c] at v1
        have := vs p hp2
        rw [← Option.some.inj v1, d] at this
        rw [if_pos this, d]
    · rw [if_pos ⟨yx, d⟩]
      rfl
/-- moves, name by name -/
theorem movesF_snoc (t : Tab) (cs : List (Str × V × V)) (ys : List Str) (y : Str) : movesF t cs (ys ++ [y]) = movesF t cs ys ++ (if (valV t y).getD .non = (valV (newT cs) y).getD .non then [] else [(y, (valV t y).getD .non, (valV (newT cs) y).getD .non)]) := by
  unfold movesF rowsF
  rw [List.map_append, List.filter_append]
  congr 1
  by_cases d : (valV t y).getD .non = (valV (newT cs) y).getD .non
  · rw [if_pos d]
    simp [d]
  · rw [if_neg d]
    simp [d]
theorem logMoves_app (L : Str → List (List V)) (note : List V) (ms : List (Str × V × V)) (m : Str × V × V) : logMoves L note (ms ++ [m]) = logPut (logMoves L note ms) m.1 ([m.2.1, m.2.2] ++ note) := by
  unfold logMoves
  rw [List.foldl_append]
  rfl
/-- lists stay -/
def LstKeep (H H' : Hp) : Prop := ∀ b xs, H b = some (.lst xs) → H' b = some (.lst xs)
theorem LstKeep.of {H H' : Hp} (s : Same H H') : LstKeep H H' := fun b xs e => s b _ e
theorem LstKeep.trans {H H1 H2 : Hp} (a : LstKeep H H1) (b : LstKeep H1 H2) : LstKeep H H2 := fun c xs e => b c xs (a c xs e)
theorem LstKeep.at {a : Addr} {H : Hp} {o : HO} (n : ∀ xs, H a ≠ some (.lst xs)) : LstKeep H (upd H a o) := fun b xs e => by
  have z : b ≠ a := fun z => n xs (by rw [← z]; exact e)
  rw [upd_ne z]
  exact e
/-! ### the model -/
def modelT (mt mh ml : Addr) : Tab := [("table", .ref mt), ("head", .ref mh), ("logs", .ref ml)]
/-- the model's logs: lists of entries -/
def LogsL (H : Hp) (t : Tab) (L : Str → List (List V)) : Prop := ∀ x, (valV t x = none ∧ L x = []) ∨ ∃ (p : Addr) (as : List Addr), valV t x = some (.ref p) ∧ H p = some (.lst (as.map V.ref)) ∧ Tups H as (L x)
def ModAt (K : PySem.W.Frag) (H : Hp) (m mt mh ml : Addr) (t lt : Tab) (x n : Str) : Prop := H m = some (.dK (kT (modelT mt mh ml))) ∧ H mt = some (.dK (kT t)) ∧ TupK K H mh [.str x, .str n] ∧ H ml = some (.dK (kT lt))
theorem mod_get {H : Hp} {m mt mh ml : Addr} (h : H m = some (.dK (kT (modelT mt mh ml)))) : DGet H m (.str "table") (some (.ref mt)) ∧ DGet H m (.str "head") (some (.ref mh)) ∧ DGet H m (.str "logs") (some (.ref ml)) := ⟨dget_kT (.inl h) "table", dget_kT (.inl h) "head", dget_kT (.inl h) "logs"⟩
theorem ModAt.same {K : PySem.W.Frag} {H H' : Hp} {m mt mh ml : Addr} {t lt : Tab} {x n : Str} (h : ModAt K H m mt mh ml t lt x n) (s : Same H H') : ModAt K H' m mt mh ml t lt x n := ⟨s _ _ h.1, s _ _ h.2.1, h.2.2.1.keep (TupKeep.of s), s _ _ h.2.2.2⟩
theorem LogsL.same {H H' : Hp} {t : Tab} {L : Str → List (List V)} (h : LogsL H t L) (s : Same H H') : LogsL H' t L := fun x => (h x).imp id fun ⟨p, as, a, b, c⟩ => ⟨p, as, a, s _ _ b, c.keep (TupKeep.of s)⟩
theorem LogsL.keep {H H' : Hp} {t : Tab} {L : Str → List (List V)} (h : LogsL H t L) (k : TupKeep H H') (l : LstKeep H H') : LogsL H' t L := fun x => (h x).imp id fun ⟨p, as, a, b, c⟩ => ⟨p, as, a, l _ _ b, c.keep k⟩
theorem LogsL.put {H : Hp} {t : Tab} {L : Str → List (List V)} (h : LogsL H t L) {x : Str} {p : Addr} {e : List V} {as : List Addr} (hp : H p = some (.lst (as.map V.ref))) (tp : Tups H as (L x ++ [e])) : LogsL H (putK t x (.ref p)) (logPut L x e) := fun y => by
  unfold logPut
  rw [valV_put]
  by_cases c : y = x
  · rw [if_pos c, if_pos c, c]
    exact .inr ⟨p, as, rfl, hp, tp⟩
  · rw [if_neg c, if_neg c]
    exact h y
theorem log_stepL {H : Hp} {ml en : Addr} {lt : Tab} {L : Str → List (List V)} {x : Str} {ent : List V} {tk td te : TE} {D : Ends} {σ : L2.St} (hD : H ml = some (.dK (kT lt))) (ll : LogsL H lt L) (he : H en = some (.tup ent))
    (b : (L x).length ≤ 100000) (hl : lt.length ≤ 1000) (ek : ∀ H' Q, Q (.str x) H' → tk σ H' Q) (ed : ∀ H' Q, Same H H' → Q (.ref ml) H' → td σ H' Q) (ee : ∀ H' Q, Q (.ref en) H' → te σ H' Q)
    (q : ∀ H' p, FrL [ml] H H' → TupKeep H H' → LstKeep H H' → H' ml = some (.dK (kT (putK lt x (.ref p)))) → LogsL H' (putK lt x (.ref p)) (logPut L x ent) → D.nx σ H') :
    sDPut td tk (tOp rCat (tDGet2 td tk (tLst tNil)) (tLst (tCons te tNil))) D σ H := by
  refine ed _ _ (Same.refl H) ⟨ml, rfl, .inl ⟨_, .inl hD⟩, ek _ _ ⟨Nat.zero_le _, fun pe hpe => ⟨valV lt x, ?_, ?_⟩⟩⟩
  · exact dget_kT (.inl (by rw [upd_ne (ne_of_none hD hpe)]; exact hD)) x
  · have s0 : Same H (upd H pe (.lst [])) := same_new hpe
    have p0 : (upd H pe (.lst [])) pe = some (.lst []) := upd_same
    generalize upd H pe (.lst []) = H0 at s0 p0
    obtain ⟨a, as, ea, ha, ta⟩ : ∃ (a : Addr) (as : List Addr), (valV lt x).getD (.ref pe) = .ref a ∧ H0 a = some (.lst (as.map V.ref)) ∧ Tups H0 as (L x) := by
      rcases ll x with ⟨e, l⟩ | ⟨p, as, e, h, t⟩
      · exact ⟨pe, [], by rw [e]; rfl, p0, by rw [l]; exact Tups.nil⟩
      · exact ⟨p, as, by rw [e]; rfl, s0 _ _ h, t.keep (TupKeep.of s0)⟩
    rw [ea]
    have la : as.length ≤ 100000 := by rw [ta.1]; exact b
    refine ee _ _ ⟨(by show 1 ≤ sizeLine; decide), fun p2 hp2 => ⟨a, p2, _, _, rfl, rfl, (same_new hp2) _ _ ha, upd_same, small_line (by rw [List.length_map]; show _ + 1 ≤ _; omega), fun p3 hp3 => ?_⟩⟩
    have s03 : Same H0 (upd (upd H0 p2 (.lst [V.ref en])) p3 (.lst (as.map V.ref ++ [V.ref en]))) := (same_new hp2).trans (same_new hp3)
    have h3 : (upd (upd H0 p2 (.lst [V.ref en])) p3 (.lst (as.map V.ref ++ [V.ref en]))) p3 = some (.lst ((as ++ [en]).map V.ref)) := by
      rw [upd_same, List.map_append]
      rfl
    generalize upd (upd H0 p2 (.lst [V.ref en])) p3 (.lst (as.map V.ref ++ [V.ref en])) = H5 at s03 h3
    have s05 := s0.trans s03
    have hD5 := s05 _ _ hD
    refine ed _ _ s05 (ek _ _ ⟨ml, _, rfl, .inl ⟨kT lt, .inr x, hD5, rfl, small_lt (by rw [len_kT]; omega), rfl⟩, ?_⟩)
    rw [putK_kT]
    have kp : TupKeep H5 (upd H5 ml (.dK (kT (putK lt x (.ref p3))))) := TupKeep.at fun xs z => by rw [hD5] at z; cases z
    have kl : LstKeep H5 (upd H5 ml (.dK (kT (putK lt x (.ref p3))))) := LstKeep.at fun xs z => by rw [hD5] at z; cases z
    have kp2 := (TupKeep.of s05).trans kp
    have kl2 := (LstKeep.of s05).trans kl
    refine q _ p3 ((FrL.same s05).trans (FrL.at (List.mem_singleton_self ml))) kp2 kl2 upd_same ?_
    exact (ll.keep kp2 kl2).put (kl _ _ h3) (((ta.keep (TupKeep.of s03)).snoc (s05 _ _ he)).keep kp)
def callL (c : Str × V × V) : List V := [.str c.1, c.2.1, c.2.2]
/-- the law's own list of the calls -/
def CallsL (H : Hp) (lc : Addr) (cs : List (Str × V × V)) : Prop := ∃ as : List Addr, H lc = some (.lst (as.map V.ref)) ∧ Tups H as (cs.map callL)
theorem ok_prefixes {x : Str} (h : OkS x) : ∀ y ∈ prefixesF x, OkS y := fun y hy => by
  obtain ⟨k, _, rfl⟩ := List.mem_map.mp hy
  exact ok_join ok_slash fun p hp => segs_ok x h p (List.mem_of_mem_take hp)
theorem have_any {ks : List Str} (h : haveF ks = false) : ∀ x ∈ ks, ((prefixesF x).any fun y => decide (y ∈ ks)) = false := fun x hx => by
  unfold haveF at h
  exact Bool.eq_false_iff.mpr fun z => by
    rw [List.any_eq_true.mpr ⟨x, hx, z⟩] at h
    cases h
theorem law_new_at {t : Tab} {cs : List (Str × V × V)} {y : Str} (nc : (cs.map (·.1)).Nodup) (h : y ∈ cs.map (·.1)) : (valV (lawT t cs) y).getD .non = (valV (newT cs) y).getD .non := by
  rw [val_lawT y cs t nc]
  have m : (valV (newT cs) y).isSome = true := by
    rw [← mem_val]
    unfold newT
    rw [List.map_map]
    exact h
  cases c : valV (newT cs) y with
  | none => rw [c] at m; cases m
  | some v =>
    show (if notNon v = true then some v else none).getD .non = v
    by_cases d : notNon v = true
    · rw [if_pos d]
      rfl
    · rw [if_neg d, nn_of d]
      rfl
theorem mem_keys_put {t : Tab} {x y : Str} {v : V} (h : y ∈ (putK t x v).map (·.1)) : y ∈ t.map (·.1) ∨ y = x := by
  have := mem_val.mp h
  rw [valV_put] at this
  by_cases c : y = x
  · exact .inr c
  · rw [if_neg c] at this
    exact .inl (mem_val.mpr this)
theorem flat_lawT {t : Tab} {cs : List (Str × V × V)} (ht : ∀ e ∈ t, flatN e.2) (hc : ∀ c ∈ cs, flatN c.2.1) : ∀ e ∈ lawT t cs, flatN e.2 := by
  unfold lawT
  induction cs generalizing t with
  | nil => exact ht
  | cons c r ih =>
    refine ih (fun e he => ?_) fun d hd => hc d (List.mem_cons_of_mem _ hd)
    unfold stepT at he
    have dr : ∀ e ∈ dropK t c.1, flatN e.2 := fun e he => ht e (dropK_mem he)
    split at he
    · rcases mem_putK he with h | h
      · exact dr e h
      · rw [h]
        exact hc c List.mem_cons_self
    · exact dr e he
end Fk

set_option maxHeartbeats 4000000
/-! A try with several except clauses, of which any may have a name. -/
namespace Fk
open PySem PySem.Spec PyProof.Rows L2
/-- a clause with a name: slot i is the error's within the suite, and nothing's behind it -/
def asTS (i : Nat) (ts : Addr → Value → Option Addr → TS) : Addr → Value → Option Addr → TS := fun a cls d D σ H =>
  ts a cls d { nx := fun σ' H' => D.nx (σ'.set i none) H', rt := D.rt, bk := fun σ' H' => D.bk (σ'.set i none) H', ct := fun σ' H' => D.ct (σ'.set i none) H' } (σ.set i (some (.ref a))) H
inductive HdA (X : Cx) : List ExceptHandler → List (Value × (Addr → Value → Option Addr → TS)) → Prop
  | nil : HdA X [] []
  | cons {x : Str} {c : Value} {ts : Addr → Value → Option Addr → TS} {b₀ : Stmt} {suite : List Stmt} {np pos' : Pos} {hds : List ExceptHandler} {l : List (Value × (Addr → Value → Option Addr → TS))} (hc : Names X x c)
      (hsu : ∀ (a : Addr) (oe : Obj) (cls : Value) (d : Option Addr) (pn : List (Addr × Obj)), Zc cls d oe → (∃ vs, oe.data = .fields vs) → PSs (X.suite a ((a, oe) :: pn)) (b₀ :: suite) (ts a cls d)) (r : HdA X hds l) :
      HdA X (.ExceptHandler (some (.Name x np)) none (b₀ :: suite) pos' :: hds) ((c, ts) :: l)
  | as {x n : Str} {i : Nat} {c : Value} {ts : Addr → Value → Option Addr → TS} {b₀ : Stmt} {suite : List Stmt} {np pos' : Pos} {hds : List ExceptHandler} {l : List (Value × (Addr → Value → Option Addr → TS))} (hN : X.N.Nodup) (hi : X.N[i]? = some n) (hln : X.env.kindOf n = some .local) (hc : Names X x c)
      (hsu : ∀ (a : Addr) (oe : Obj) (cls : Value) (d : Option Addr) (pn : List (Addr × Obj)), Zc cls d oe → (∃ vs, oe.data = .fields vs) → PSs (X.suite a ((a, oe) :: pn)) (b₀ :: suite) (ts a cls d)) (r : HdA X hds l) :
      HdA X (.ExceptHandler (some (.Name x np)) (some n) (b₀ :: suite) pos' :: hds) ((c, asTS i ts) :: l)
section
variable {X : Cx} {body : List Stmt} {h₀ : ExceptHandler} {hds : List ExceptHandler} {l : List (Value × (Addr → Value → Option Addr → TS))} {pos : Pos} {tb : WX → TS} {Wout : WX}
theorem ps_tryA (hs : X.stack = X.env :: X.outer) (hf : X.env.frame = some X.env.locals) (tk : Takes X Wout)
    (hb : ∀ (W : WX) (pn : List (Addr × Obj)) (xe : Value → Shared → Prop), Takes (X.tr pn xe) W → PassesOwn (model X.prog X.w) X.A X.env xe → PSs (X.tr pn xe) body (tb W))
    (hh : HdA X (h₀ :: hds) l) : PS X (.Try body (h₀ :: hds) [] [] pos) (fun D σ H => tb (wMany X.K Wout D l) D σ H) := by
  refine ⟨fun pins s σ H D I h => ?_⟩
  have ok := I.ok
  have hfr : X.A.frames = some (X.env :: X.outer) := by rw [ok.frames, hs]
  refine wpAny_Try_except ?_
  refine wpAny_mono ((hb (wMany X.K Wout D l) (X.pn ++ pins) (fun e s₁ => wpAny (model X.prog X.w) X.A (noteFrame e X.env) (fun _ s₂ => wpAny (model X.prog X.w) X.A (setFlight e none) (fun _ s₃ =>
    wpAny (model X.prog X.w) X.A (handleBy e X.env (h₀ :: hds)) (SP X pins D) X.xe s₃) X.xe s₂) X.xe s₁) (fun u s' xx => ?_) PassesOwn.looking).run [] s σ H D (I.toTry _) h) (fun f s1 hsp => ?_) (fun e s1 he => he)
  · obtain ⟨a, B, sI, pins', σ', H', cls, d, rfl, J', nb, up, sky, na, os, ag, w⟩ := xx
    have J : Inv X pins σ' H' sI := J'.ofTry ok
    have sky' : Sky B (X.env :: X.outer) a (Zc cls d) X.env.locals s'.heap := by rw [← hs]; exact sky
    show wpAny (model X.prog X.w) X.A (noteFrame (.ref a) X.env) _ _ _
    refine Sky.land Zc.steady hfr hf sky' fun h3 fl3 up3 => ?_
    have J3 : Inv X pins σ' H' { s' with heap := h3 } := J.landed nb fl3.1 (up.trans up3) os ag
    obtain ⟨oe3, vs3, he3, hz3, hd3⟩ := fl3.there
    have notFr : ∀ {h : Heap} {o : Obj} {vs : Array Value}, h.FunFrames B (X.env :: X.outer) → h.get? a = some o → o.data = .fields vs → a ∉ frs (X.env :: X.outer) := fun {h o vs} ff e dd hm => by
      obtain ⟨_, o', e', hnf⟩ := ff.mem hm
      rw [e] at e'; cases e'
      exact hnf _ dd
    have nfr := notFr fl3.2.2.1 he3 hd3
    have nL : a ≠ X.env.locals := fun z => nfr (List.mem_filterMap.mpr ⟨X.env, List.mem_cons_self, by rw [hf, z]⟩)
    have nF : a ∉ X.fs := fun hm => by
      obtain ⟨e, he, q⟩ := List.mem_filterMap.mp hm
      exact nfr (List.mem_filterMap.mpr ⟨e, List.mem_cons_of_mem _ he, q⟩)
    have S3 := J3.suite he3 hd3 na nL nF
    have go : ∀ {hds' : List ExceptHandler} {l' : List (Value × (Addr → Value → Option Addr → TS))}, HdA X hds' l' → wMany X.K Wout D l' cls d σ' H' →
        wpAny (model X.prog X.w) X.A (handleBy (.ref a) X.env hds') (SP X pins D) X.xe { s' with heap := h3 } := by
      intro hds' l' hk
      induction hk with
      | nil =>
        intro w
        refine wpAny_handleBy_nil ?_
        obtain ⟨k1, k2, k3, oe, vs, T, oT, ts', he, hz, hd, h1, hr⟩ := id fl3
        unfold PySem.passOn
        refine wpAny_bind (wpAny_field he hd h1 ?_)
        rw [if_neg (show ¬ ((Value.ref T == Value.none) = true) from by simp)]
        have fin : wpAny (model X.prog X.w) X.A (setFlight (.ref a) X.env.frame) (fun _ s4 => wpAny (model X.prog X.w) X.A (throw (.ref a) : Sem Flow) (SP X pins D) X.xe s4) X.xe { s' with heap := h3 } := by
          rw [hf]
          refine HandSPX.setFlight_upZ fl3 fun h4 hh4 up4 => wpAny_throw (tk _ _ ?_)
          exact ⟨a, B, sI, pins, σ', H', cls, d, rfl, J, nb, (up.trans up3).trans up4, .inr (.inr (by rw [hs]; exact hh4)), na, os, ag, w⟩
        first
          | exact wpAny_bind (wpAny_pure (wpAny_bind fin))
          | exact wpAny_bind fin
      | @cons x c ts b₀ suite np pos' hds2 l2 hc hsu r ih =>
        intro w
        obtain ⟨b, hb1, hyes, hno⟩ := w
        refine wpAny_handleBy_cons (codeAny_handlers_test ?_) (by intro q; cases q)
        have LT : PySem.W.Looks (model X.prog X.w) h3 (typeOf (.ref a)) cls := fun A Q E s k q => wpAny_typeOf_ref (k _ _ he3) (by rw [hz3.1]; exact q)
        have LM := PySem.W.exm_one (M := model X.prog X.w) (J3.kIn) LT hb1
        have test : ∀ {Q : Value → Shared → Prop} {E : Value → Shared → Prop}, Q c { s' with heap := h3 } → wpAny (model X.prog X.w) (X.A.mark (some (.ref a))) (eval (.Name x np) X.env) Q E { s' with heap := h3 } := fun {Q E} q => by
          obtain ⟨hg, hdbg, hm | ⟨hm, hv, hnn⟩⟩ := hc
          · exact ld_glob (X := X.suite a ((a, oe3) :: (X.pn ++ pins))) S3 hg hm q hdbg
          · exact ld_blt (X := X.suite a ((a, oe3) :: (X.pn ++ pins))) S3 hg hm hv q hnn hdbg
        refine test (LM.here ?_)
        cases b with
        | true =>
          refine codeAny_handlers_suite ?_
          refine HandSPX.lands_againZ fl3 fun h4 fl4 up4 => ?_
          have J4 : Inv X pins σ' H' { s' with heap := h4 } := J.landed nb fl4.1 ((up.trans up3).trans up4) os ag
          obtain ⟨oe4, vs4, he4, hz4, hd4⟩ := fl4.there
          have S4 := J4.suite he4 hd4 na nL nF
          refine wpAny_mono ((hsu a oe4 cls d (X.pn ++ pins) hz4 ⟨_, hd4⟩).run [] _ _ H' _ S4 (hyes rfl a na)) (fun f s6 hsp => ?_) (fun _ _ z => False.elim z)
          cases f with
          | next =>
            obtain ⟨σ6, H6, S6, q6⟩ := hsp
            exact ⟨_, _, S6.unsuite ok, q6⟩
          | brk =>
            obtain ⟨σ6, H6, S6, q6⟩ := hsp
            exact ⟨_, _, S6.unsuite ok, q6⟩
          | cont =>
            obtain ⟨σ6, H6, S6, q6⟩ := hsp
            exact ⟨_, _, S6.unsuite ok, q6⟩
          | ret u =>
            obtain ⟨v6, σ6, H6, S6, r6, q6⟩ := hsp
            exact ⟨_, _, _, S6.unsuite ok, r6, q6⟩
        | false =>
          show wpAny _ X.A (handleBy (.ref a) X.env hds2) _ _ _
          exact ih (hno rfl)
      | @as x n i c ts b₀ suite np pos' hds2 l2 hN hi hln hc hsu r ih =>
        intro w
        have hloc : Loc X.env.scope n := .inl hln
        obtain ⟨b, hb1, hyes, hno⟩ := w
        refine wpAny_handleBy_cons (codeAny_handlers_test ?_) (by intro q; cases q)
        have LT : PySem.W.Looks (model X.prog X.w) h3 (typeOf (.ref a)) cls := fun A Q E s k q => wpAny_typeOf_ref (k _ _ he3) (by rw [hz3.1]; exact q)
        have LM := PySem.W.exm_one (M := model X.prog X.w) (J3.kIn) LT hb1
        have test : ∀ {Q : Value → Shared → Prop} {E : Value → Shared → Prop}, Q c { s' with heap := h3 } → wpAny (model X.prog X.w) (X.A.mark (some (.ref a))) (eval (.Name x np) X.env) Q E { s' with heap := h3 } := fun {Q E} q => by
          obtain ⟨hg, hdbg, hm | ⟨hm, hv, hnn⟩⟩ := hc
          · exact ld_glob (X := X.suite a ((a, oe3) :: (X.pn ++ pins))) S3 hg hm q hdbg
          · exact ld_blt (X := X.suite a ((a, oe3) :: (X.pn ++ pins))) S3 hg hm hv q hnn hdbg
        refine test (LM.here ?_)
        cases b with
        | true =>
          refine codeAny_handlers_suite_as ?_
          refine HandSPX.lands_againZ fl3 fun h4 fl4 up4 => ?_
          have J4 : Inv X pins σ' H' { s' with heap := h4 } := J.landed nb fl4.1 ((up.trans up3).trans up4) os ag
          obtain ⟨oe4, vs4, he4, hz4, hd4⟩ := fl4.there
          have S4 := J4.suite he4 hd4 na nL nF
          refine store_ok (X := X.suite a ((a, oe4) :: (X.pn ++ pins))) (v := .ref a) S4 hN hi hloc rfl (fun s5 S5 => ?_) (.inr hln)
          refine wpAny_mono ((hsu a oe4 cls d (X.pn ++ pins) hz4 ⟨_, hd4⟩).run [] s5 _ H' _ S5 (hyes rfl a na)) (fun f s6 hsp => ?_) (fun _ _ z => False.elim z)
          have end_ : ∀ {σ6 : L2.St} {H6 : Hp} {Q : Shared → Prop}, Inv (X.suite a ((a, oe4) :: (X.pn ++ pins))) [] σ6 H6 s6 → (∀ s7, Inv X pins (σ6.set i none) H6 s7 → Q s7) →
              wpAny (model X.prog X.w) X.A (do bindName X.env n .none; unbindBehindTheSuite X.env n pos') (fun _ s7 => Q s7) X.xe s6 := fun {σ6 H6 Q} S6 hq => gone_ok (S6.unsuite ok) hN hi hln hq
          cases f with
          | next =>
            obtain ⟨σ6, H6, S6, q6⟩ := hsp
            exact end_ S6 fun s7 J7 => ⟨_, _, J7, q6⟩
          | brk =>
            obtain ⟨σ6, H6, S6, q6⟩ := hsp
            exact end_ S6 fun s7 J7 => ⟨_, _, J7, q6⟩
          | cont =>
            obtain ⟨σ6, H6, S6, q6⟩ := hsp
            exact end_ S6 fun s7 J7 => ⟨_, _, J7, q6⟩
          | ret u =>
            obtain ⟨v6, σ6, H6, S6, r6, q6⟩ := hsp
            exact end_ S6 fun s7 J7 => ⟨_, _, _, J7, r6, q6⟩
        | false =>
          show wpAny _ X.A (handleBy (.ref a) X.env hds2) _ _ _
          exact ih (hno rfl)
    exact go hh w
  · cases f with
    | next =>
      obtain ⟨σ', H', J', q⟩ := hsp
      exact wpAny_execs_nil ⟨σ', H', J'.ofTry ok, q⟩
    | brk =>
      obtain ⟨σ', H', J', q⟩ := hsp
      exact ⟨σ', H', J'.ofTry ok, q⟩
    | cont =>
      obtain ⟨σ', H', J', q⟩ := hsp
      exact ⟨σ', H', J'.ofTry ok, q⟩
    | ret u =>
      obtain ⟨v, σ', H', J', r, q⟩ := hsp
      exact ⟨v, σ', H', J'.ofTry ok, r, q⟩
end
end Fk

set_option maxHeartbeats 4000000
/-! Frames one after the other; logs that stay; references and a model that agree, moved to another heap. -/
namespace Fk
open PySem PySem.Spec PyProof.Rows L2
theorem FrL.then {L M : List Addr} {H H1 H2 : Hp} (f : FrL L H H1) (g : FrL M H1 H2) (h : ∀ b ∈ M, b ∈ L ∨ H b = none) : FrL L H H2 := fun b o n e =>
  g b o (fun hm => (h b hm).elim n (fun z => by rw [e] at z; cases z)) (f b o n e)
theorem FrL.then1 {L : List Addr} {a : Addr} {H H1 H2 : Hp} (f : FrL L H H1) (g : FrL [a] H1 H2) (h : a ∈ L ∨ H a = none) : FrL L H H2 := f.then g fun b hb => by rw [List.mem_singleton.mp hb]; exact h
theorem FrL.free {L : List Addr} {H H1 : Hp} (f : FrL L H H1) {b : Addr} (n : b ∉ L) (e : H1 b = none) : H b = none := by
  cases c : H b with
  | none => rfl
  | some o => rw [f b o n c] at e; cases e
theorem val_mem {t : Tab} {x : Str} {v : V} (h : valV t x = some v) : (x, v) ∈ t := by
  unfold valV at h
  cases c : t.find? fun kv => decide (kv.1 = x) with
  | none => rw [c] at h; cases h
  | some p =>
    rw [c] at h
    have m := List.mem_of_find?_eq_some c
    have e : p.1 = x := by have := List.find?_some (p := fun kv : Str × V => decide (kv.1 = x)) c; exact of_decide_eq_true this
    obtain ⟨a, b⟩ := p
    cases h
    cases e
    exact m
theorem Tups.cons {H : Hp} {a : Addr} {as : List Addr} {l : List V} {ls : List (List V)} (h : H a = some (.tup l)) (t : Tups H as ls) : Tups H (a :: as) (l :: ls) := by
  refine ⟨by rw [List.length_cons, List.length_cons, t.1], fun i b m h1 h2 => ?_⟩
  cases i with
  | zero => cases h1; cases h2; exact h
  | succ j => exact t.2 j b m h1 h2
theorem Tups.head {H : Hp} {a : Addr} {as : List Addr} {l : List V} {ls : List (List V)} (t : Tups H (a :: as) (l :: ls)) : H a = some (.tup l) := t.2 0 a l rfl rfl
theorem Tups.tail {H : Hp} {a : Addr} {as : List Addr} {l : List V} {ls : List (List V)} (t : Tups H (a :: as) (l :: ls)) : Tups H as ls := ⟨by have := t.1; rw [List.length_cons, List.length_cons] at this; omega, fun i b m h1 h2 => t.2 (i + 1) b m h1 h2⟩
theorem tups_filter {α : Type} {H : Hp} (f : α → List V) (p : α → Bool) : ∀ (cs : List α) (as : List Addr), Tups H as (cs.map f) → ∃ bs : List Addr, ((as.zip cs).filter fun z => p z.2).map (fun z => V.ref z.1) = bs.map V.ref ∧ Tups H bs ((cs.filter p).map f)
  | [], as, _ => ⟨[], by rw [List.zip_nil_right]; rfl, Tups.nil⟩
  | c :: cs, [], t => absurd t.1 (by simp)
  | c :: cs, a :: as, t => by
    obtain ⟨bs, e, tb⟩ := tups_filter f p cs as t.tail
    rw [List.zip_cons_cons, List.filter_cons, List.filter_cons]
    by_cases h : p c = true
    · refine ⟨a :: bs, ?_, ?_⟩
      · rw [if_pos h, List.map_cons, List.map_cons, e]
      · rw [if_pos h, List.map_cons]
        exact Tups.cons t.head tb
    · refine ⟨bs, ?_, ?_⟩
      · rw [if_neg h, e]
      · rw [if_neg h]
        exact tb
theorem int_refs {x y z : Int} {as : List Addr} : ([V.int x, .int y, .int z] : List V) ≠ as.map V.ref := fun h => by
  cases as with
  | nil => cases h
  | cons b r => injection h with h _; cases h
theorem LogsL.out {H H' : Hp} {t : Tab} {L : Str → List (List V)} {M : List Addr} (h : LogsL H t L) (k : TupKeep H H') (f : FrL M H H') (n : ∀ b ∈ M, ∀ as : List Addr, H b ≠ some (.lst (as.map V.ref))) : LogsL H' t L := fun x =>
  (h x).imp id fun ⟨p, as, a, b, c⟩ => ⟨p, as, a, f p _ (fun hm => n p hm as b) b, c.keep k⟩
theorem CallsL.out {H H' : Hp} {lc : Addr} {cs : List (Str × V × V)} {M : List Addr} (h : CallsL H lc cs) (k : TupKeep H H') (f : FrL M H H') (n : lc ∉ M) : CallsL H' lc cs := by
  obtain ⟨as, a, b⟩ := h
  exact ⟨as, f lc _ n a, b.keep k⟩
theorem CallsL.same {H H' : Hp} {lc : Addr} {cs : List (Str × V × V)} (h : CallsL H lc cs) (s : Same H H') : CallsL H' lc cs := by
  obtain ⟨as, a, b⟩ := h
  exact ⟨as, s _ _ a, b.keep (TupKeep.of s)⟩
theorem callPut_nd {cs : List (Str × V × V)} {x : Str} {v o : V} (h : (cs.map (·.1)).Nodup) : ((callPut cs x v o).map (·.1)).Nodup := by
  unfold callPut
  rw [List.map_append, List.nodup_append]
  refine ⟨List.Nodup.sublist ((List.filter_sublist).map _) h, by simp, fun a ha b hb => ?_⟩
  obtain ⟨c, hc, rfl⟩ := List.mem_map.mp ha
  have := of_decide_eq_true (List.mem_filter.mp hc).2
  simp at hb
  rw [hb]
  exact this
theorem callPut_len (cs : List (Str × V × V)) (x : Str) (v o : V) : (callPut cs x v o).length ≤ cs.length + 1 := by
  unfold callPut
  rw [List.length_append]
  have := List.length_filter_le (fun c : Str × V × V => decide (c.1 ≠ x)) cs
  show _ + 1 ≤ _
  omega
theorem mem_callPut {cs : List (Str × V × V)} {x : Str} {v o : V} {c : Str × V × V} (h : c ∈ callPut cs x v o) : c ∈ cs ∨ c = (x, v, o) := by
  rcases List.mem_append.mp h with h | h
  · exact .inl (List.mem_filter.mp h).1
  · exact .inr (List.mem_singleton.mp h)
end Fk

set_option maxHeartbeats 4000000
/-! A comprehension over zip of two tuples. -/
namespace Fk
open PySem PySem.Spec PyProof.Rows L2 RZ
theorem lc_zipT {K : PySem.W.Frag} {a b D : Addr} {xs ys : List V} {σ : L2.St} {vs : List Nat} {g : TG} {tt : TT} {te : TE} {Q : Hp → Prop} {H1 : Hp} {n : Nat} (f : Nat → V) (hD1 : H1 D = none) (ha : ∀ H, Same H1 H → SqT K H a xs) (hb : ∀ H, Same H1 H → SqT K H b ys)
    (hx : n ≤ xs.length) (hy : n ≤ ys.length) (hn : xs.length ≤ n ∨ ys.length ≤ n) (hl : n ≤ 1000000)
    (hs : ∀ i x y T H, i < n → xs[i]? = some x → ys[i]? = some y → Same H1 H → H T = some (.tup [x, y]) → ∀ (N : VK) (M : Hp → Prop), (∀ H3, Same H H3 → N (f i) H3) →
      g (.ref T) (wipe σ vs) H fun σ2 H2 => wipe σ2 vs = wipe σ vs ∧ tt σ2 H2 fun bb H3 => if bb = true then te σ2 H3 N else M H3)
    (hd : ∀ H, Same H1 H → H D = some (.lst ((List.range n).map f)) → Q H) :
    ∃ W : Nat → Nat → Hp → Prop, (∃ m, W 0 m (upd H1 D (.lst []))) ∧ ∀ k m H, W k m H →
      ((ItzT K a b).stop k H ∧ Q H) ∨ ((ItzT K a b).go k H ∧ ∃ Nx : Hp → Prop, (∀ H', Nx H' → ∃ m', m' < m ∧ W (k + 1) m' H') ∧ ∀ x H', (ItzT K a b).yld k H x H' → g x (wipe σ vs) H' fun σ2 H2 => wipe σ2 vs = wipe σ vs ∧ tt σ2 H2 fun bb H3 =>
        if bb = true then te σ2 H3 fun y H4 => ∃ acc, H4 D = some (.lst acc) ∧ acc.length < sizeLine ∧ Nx (upd H4 D (.lst (acc ++ [y]))) else Nx H3) := by
  refine ⟨fun k m H => m = n - k ∧ k ≤ n ∧ Same H1 H ∧ H D = some (.lst ((List.range k).map f)), ⟨n, by omega, Nat.zero_le _, same_new hD1, upd_same⟩, ?_⟩
  rintro k m H ⟨rfl, hk, s1, hD⟩
  by_cases hlt : k < n
  · have lx : k < xs.length := by omega
    have ly : k < ys.length := by omega
    refine .inr ⟨⟨xs, ys, xs[k], ys[k], ha H s1, hb H s1, List.getElem?_eq_getElem lx, List.getElem?_eq_getElem ly⟩, fun H' => Same H1 H' ∧ H' D = some (.lst ((List.range (k + 1)).map f)), fun H' q => ⟨n - (k + 1), by omega, rfl, hlt, q⟩, fun x H' y => ?_⟩
    obtain ⟨T, u, v, rfl, hT, rfl, gx, gy⟩ := y
    have s2 := same_new (o := .tup [u, v]) hT
    refine hs k u v T _ hlt (gx xs (ha H s1)) (gy ys (hb H s1)) (s1.trans s2) upd_same _ _ fun H3 s3 => ⟨_, s3 _ _ (s2 _ _ hD), small_lt (by rw [List.length_map, List.length_range]; omega), fun c o e => ?_, ?_⟩
    · rw [upd_ne (ne_of_none e hD1)]
      exact s3 _ _ (s2 _ _ (s1 _ _ e))
    · rw [upd_same, List.range_succ, List.map_append]
      rfl
  · have e : k = n := by omega
    subst e
    exact .inl ⟨⟨xs, ys, ha H s1, hb H s1, hn⟩, hd H s1 hD⟩
theorem lc_gen {α : Type} {J : It} {us : List α} {val : α → V} {G : Hp → Prop} {H1 : Hp} {D : Addr} {σ : L2.St} {vs : List Nat} {g : TG} {tt : TT} {te : TE} {Q : Hp → Prop} (Y : Yields J (us.map val) G) (f : α → V) (p : α → Bool) (σf : α → L2.St) (hD1 : H1 D = none) (hG : ∀ H, Same H1 H → G H) (hw : ∀ u ∈ us, wipe (σf u) vs = wipe σ vs)
    (hg : ∀ H u, Same H1 H → u ∈ us → ∀ (R : L2.St → Hp → Prop), R (σf u) H → g (val u) (wipe σ vs) H R)
    (ht : ∀ H u, Same H1 H → u ∈ us → ∀ (R : Bool → Hp → Prop), (∀ H3, Same H H3 → R (p u) H3) → tt (σf u) H R)
    (he : ∀ H u, Same H1 H → u ∈ us → p u = true → ∀ (R : VK), (∀ H3, Same H H3 → R (f u) H3) → te (σf u) H R)
    (hl : us.length ≤ 1000000) (hd : ∀ H, Same H1 H → H D = some (.lst ((us.filter p).map f)) → Q H) :
    ∃ W : Nat → Nat → Hp → Prop, (∃ m, W 0 m (upd H1 D (.lst []))) ∧ ∀ k m H, W k m H →
      (J.stop k H ∧ Q H) ∨ (J.go k H ∧ ∃ Nx : Hp → Prop, (∀ H', Nx H' → ∃ m', m' < m ∧ W (k + 1) m' H') ∧ ∀ x H', J.yld k H x H' → g x (wipe σ vs) H' fun σ2 H2 => wipe σ2 vs = wipe σ vs ∧ tt σ2 H2 fun b H3 =>
        if b = true then te σ2 H3 fun y H4 => ∃ acc, H4 D = some (.lst acc) ∧ acc.length < sizeLine ∧ Nx (upd H4 D (.lst (acc ++ [y]))) else Nx H3) := by
  refine lcG Y (fun k acc H => Same H1 H ∧ acc = ((us.take k).filter p).map f) (fun k acc H h _ => hG H h.1) ⟨same_new hD1, rfl⟩ (fun k acc H x hI hD hx hacc hk => ?_) (by rw [List.length_map]; exact hl) (fun acc H hI hD _ => ?_)
  · obtain ⟨sm, ea⟩ := hI
    rw [List.getElem?_map] at hx
    cases hu : us[k]? with
    | none => rw [hu] at hx; cases hx
    | some u =>
      rw [hu] at hx
      cases hx
      have hm : u ∈ us := List.mem_of_getElem? hu
      have et : us.take (k + 1) = us.take k ++ [u] := by
        rw [List.take_add_one, hu]
        rfl
      refine hg H u sm hm _ ⟨hw u hm, ?_⟩
      refine ht H u sm hm _ (fun H3 s3 => ?_)
      by_cases hp : p u = true
      · rw [if_pos hp]
        refine he H3 u (sm.trans s3) hm hp _ (fun H4 s4 => ?_)
        refine lc_take (s4 _ _ (s3 _ _ hD)) hacc hk ⟨same_mut ((sm.trans s3).trans s4) hD1, ?_⟩
        rw [et, List.filter_append, List.map_append, List.filter_cons, hp, ea]
        rfl
      · rw [if_neg hp]
        refine lc_skip (s3 _ _ hD) hacc ⟨sm.trans s3, ?_⟩
        rw [et, List.filter_append, List.map_append, List.filter_cons, if_neg hp, ea]
        simp
  · obtain ⟨sm, ea⟩ := hI
    rw [List.length_map, List.take_length] at ea
    exact hd H sm (by rw [hD, ea])
def rLenQ (K : PySem.W.Frag) : List V → Hp → VK → Prop := fun xs H Q => ∃ p ys, xs = [.ref p] ∧ (SqL K H p ys ∨ SqT K H p ys) ∧ Q (.int ys.length) H
theorem ciK {X : Cx} {K : PySem.W.Frag} (h : X.K = K) : CallR X (.builtin "isinstance") (rIsi K) := h ▸ call_isi
theorem clK {X : Cx} {K : PySem.W.Frag} (h : X.K = K) : CallR X (.builtin "len") (rLenQ K) := h ▸ call_len_seq
end Fk

/-! truth of a thing within a comprehension, K given -/
namespace Fk
open PySem PySem.Spec PyProof.Rows L2
def tTruK (K : PySem.W.Frag) (ta : TE) : TT := fun σ H Q => ta σ H fun x H' => ∃ k, TruV K x H' k ∧ Q k H'
theorem ptK_truth {X : Cx} {K : PySem.W.Frag} {a : Expr} {ta : TE} (h : X.K = K) (ha : PE X a ta) (he : ∀ whole, isTrue a X.env whole = (do let v ← whole; standAt a.pos; holding [v] (truthy v))) : PT X a (tTruK K ta) := h ▸ pt_truth ha he
end Fk

set_option maxHeartbeats 4000000
/-! iter(bytes); a walk over zip of eight times the same iterator of bytes. -/
namespace Fk
open PySem PySem.Spec PyProof.Rows L2 PySem.W.KBw
open PySem.Sem (wp)
abbrev I8 (it : Addr) : Array Value := #[.ref it, .ref it, .ref it, .ref it, .ref it, .ref it, .ref it, .ref it]
abbrev IsT8 (h : Heap) (T : Addr) (xs : Array Value) : Prop := h.get? T = some { cls := .type "tuple", data := .seq xs }
section
variable {prog : Program} {w : World} {A : Around} {E : Value → Shared → Prop} {s : Shared} {b : Array UInt8} {t : Tok}
theorem nextOf_bytes_item {it : Addr} {i : Nat} {c : UInt8} {Q : Value → Shared → Prop} (hit : IsBytesIter s.heap it b t i) (hx : b[i]? = some c)
    (hQ : ∀ h', IsBytesIter h' it b t (i + 1) → Heap.SameBut it s.heap h' → Q (.int (c.toNat : Int) s.toks) { s with heap := h', toks := s.toks + 1 }) :
    wpAny (model prog w) A (Builtin.SmallTypes.nextOf (.ref it)) Q E s := by
  obtain ⟨o, ho, hc, hd⟩ := id hit
  unfold Builtin.SmallTypes.nextOf
  refine wpAny_bind (wpAny_callSpecial?_slot (name := Str.ofString "__next__") (iter_typeIs hit) slot_next
    (wpAny_call_entry slot_next (iter_typeIs hit) entry_next ?_ (args_next _)))
  show wpAny _ _ (field (.ref it) 0 >>= _) _ _ s
  refine wpAny_bind (wpAny_field ho hd (x := .bytes b t) rfl ?_)
  show wpAny _ _ (if (Value.bytes b t == Value.none) = true then _ else _) _ _ s
  rw [if_neg (show ¬ ((Value.bytes b t == Value.none) = true) from Bool.false_ne_true)]
  show wpAny _ _ (field (.ref it) 1 >>= _) _ _ s
  refine wpAny_bind (wpAny_field ho hd (x := .int i 0) rfl ?_)
  refine wpAny_bind (wpAny_of_eq (a := b) rfl ?_)
  simp only [Int.toNat_natCast, hx]
  refine wpAny_bind (wpAny_setField ho hd (by simp) (wpAny_bind (wpAny_mkInt (wpAny_pure ⟨_, rfl, wpAny_pure (hQ _ ?_ (Heap.SameBut.update ..))⟩))))
  exact ⟨_, Heap.get?_update_self _ ho (Obj.isFreed_of_fields (Obj.data_mapFields hd _)), (Obj.cls_mapFields ..).trans hc, by
    rw [Obj.data_mapFields hd]; simp [rawInt]⟩
theorem nextOf_bytes_end {it : Addr} {i : Nat} {Q : Value → Shared → Prop} (hh : A.handled = none) (hit : IsBytesIter s.heap it b t i) (hx : b[i]? = none)
    (hE : ∀ h' e, Heap.ExtBut it s.heap h' → (∃ o, h'.get? e = some o ∧ o.cls = .type "StopIteration") → E (.ref e) { s with heap := h' }) :
    wpAny (model prog w) A (Builtin.SmallTypes.nextOf (.ref it)) Q E s := by
  obtain ⟨o, ho, hc, hd⟩ := id hit
  unfold Builtin.SmallTypes.nextOf
  refine wpAny_bind (wpAny_callSpecial?_slot (name := Str.ofString "__next__") (iter_typeIs hit) slot_next
    (wpAny_call_entry slot_next (iter_typeIs hit) entry_next ?_ (args_next _)))
  show wpAny _ _ (field (.ref it) 0 >>= _) _ _ s
  refine wpAny_bind (wpAny_field ho hd (x := .bytes b t) rfl ?_)
  show wpAny _ _ (if (Value.bytes b t == Value.none) = true then _ else _) _ _ s
  rw [if_neg (show ¬ ((Value.bytes b t == Value.none) = true) from Bool.false_ne_true)]
  show wpAny _ _ (field (.ref it) 1 >>= _) _ _ s
  refine wpAny_bind (wpAny_field ho hd (x := .int i 0) rfl ?_)
  refine wpAny_bind (wpAny_of_eq (a := b) rfl ?_)
  simp only [Int.toNat_natCast, hx]
  refine wpAny_bind (wpAny_rule (wpAny_bind (wpAny_setField ho hd (by simp) ?_)))
  show wpAny _ _ (newExc (.type "StopIteration") [] >>= _) _ _ _
  refine wpAny_bind ?_
  simp only [newExc, newTuple]
  refine wpAny_bind (wpAny_newObj_type ?_ (by size_fits))
  refine wpAny_bind (m := firstArgMember _ _) (wpAny_of_eq (a := Value.none) (by first | rfl | (simp only [firstArgMember]; rfl)) ?_)
  refine wpAny_newObj_type ?_ (by size_fits)
  simp only [raiseNew]
  refine wpAny_bind (wpAny_handled ?_)
  first | rw [show A.in1.handled = none from hh] | rw [hh]
  refine wpAny_bind (wpAny_pure (wpAny_throw ?_))
  exact hE _ _ (((Heap.SameBut.update ..).extBut.push _).push _) ⟨_, Heap.get?_push_size _ rfl, rfl⟩
theorem updateSeq_t8 {T : Addr} {xs : Array Value} {x : Value} {k : Nat} {Q : Unit → Shared → Prop} (hT : IsT8 s.heap T xs) (hz : xs.size ≤ 100)
    (h : ∀ h', IsT8 h' T (xs.setIfInBounds k x) → Heap.SameBut T s.heap h' → Q () { s with heap := h' }) :
    wpAny (model prog w) A (updateSeq T (·.setIfInBounds k x)) Q E s := by
  refine wpAny_updateSeq hT rfl (h _ ?_ (Heap.SameBut.update ..)) (Nat.le_trans hz (by decide)) (by rw [Array.size_setIfInBounds]; exact Nat.le_trans hz (by decide))
  show (s.heap.update T _).get? T = _
  rw [Heap.get?_update_self _ hT rfl]
  simp [Obj.mapSeq]
end
section
variable {prog : Program} {w : World} {A : Around} {E : Value → Shared → Prop} {b : Array UInt8} {t : Tok}
theorem nextOf_bytes_item' {hp g d tk os} {it : Addr} {i : Nat} {c : UInt8} {Q : Value → Shared → Prop} (hit : IsBytesIter hp it b t i) (hx : b[i]? = some c)
    (hQ : ∀ h', IsBytesIter h' it b t (i + 1) → Heap.SameBut it hp h' → Q (.int (c.toNat : Int) tk) ⟨h', g, d, tk + 1, os⟩) :
    wpAny (model prog w) A (Builtin.SmallTypes.nextOf (.ref it)) Q E ⟨hp, g, d, tk, os⟩ := nextOf_bytes_item (s := ⟨hp, g, d, tk, os⟩) hit hx hQ
theorem updateSeq_t8' {hp g d tk os} {T : Addr} {xs : Array Value} {x : Value} {k : Nat} {Q : Unit → Shared → Prop} (hT : IsT8 hp T xs) (hz : xs.size ≤ 100)
    (h : ∀ h', IsT8 h' T (xs.setIfInBounds k x) → Heap.SameBut T hp h' → Q () ⟨h', g, d, tk, os⟩) :
    wpAny (model prog w) A (updateSeq T (·.setIfInBounds k x)) Q E ⟨hp, g, d, tk, os⟩ := updateSeq_t8 (s := ⟨hp, g, d, tk, os⟩) hT hz h
theorem seqItems_t8' {hp g d tk os} {T : Addr} {xs : Array Value} {Q : Option (Array Value) → Shared → Prop} (hT : IsT8 hp T xs) (h : Q (some xs) ⟨hp, g, d, tk, os⟩) : wpAny (model prog w) A (seqItems? (.ref T)) Q E ⟨hp, g, d, tk, os⟩ := wpAny_seqItems hT rfl h
theorem setField_z' {hp g d tk os} {a : Addr} {cls : Value} {vs : Array Value} {k : Nat} {x : Value} {Q : Unit → Shared → Prop}
    (ho : hp.get? a = some { cls := cls, dict := none, data := .fields vs, slots := #[] }) (hk : k < vs.size)
    (h : ∀ h', h'.get? a = some { cls := cls, dict := none, data := .fields (vs.setIfInBounds k x), slots := #[] } → Heap.SameBut a hp h' → Q () ⟨h', g, d, tk, os⟩) :
    wpAny (model prog w) A (setField (.ref a) k x) Q E ⟨hp, g, d, tk, os⟩ := wpAny_setField_rec (s := ⟨hp, g, d, tk, os⟩) ho hk h
theorem newTuple_z' {hp g d tk os} {items : List Value} {Q : Value → Shared → Prop} (h : Q (.ref hp.objs.size) ⟨hp.push { cls := .type "tuple", data := .seq items.toArray }, g, d, tk, os⟩)
    (hsz : items.length ≤ sizeLine) : wpAny (model prog w) A (newTuple items) Q E ⟨hp, g, d, tk, os⟩ := wpAny_newTuple (s := ⟨hp, g, d, tk, os⟩) h hsz
/-- the bytes from m0 on, as ints -/
def bI (b : Array UInt8) (k : Nat) : Int := ((b.getD k 0).toNat : Int)
theorem bI_get {b : Array UInt8} {k : Nat} (h : k < b.size) : b[k]? = some (b.getD k 0) := by
  rw [Array.getElem?_eq_getElem h, Array.getD_eq_getD_getElem?, Array.getElem?_eq_getElem h] <;> rfl
def RowI (b : Array UInt8) (m0 : Nat) (us : List Value) : Prop := ∀ i v, us[i]? = some v → ∃ t, v = Value.int (bI b (m0 + i)) t
theorem RowI.snoc {b : Array UInt8} {m0 : Nat} {us : List Value} (h : RowI b m0 us) (t : Tok) : RowI b m0 (us ++ [.int (bI b (m0 + us.length)) t]) := fun i v e => by
  by_cases c : i < us.length
  · rw [List.getElem?_append_left c] at e
    exact h i v e
  · rw [List.getElem?_append_right (by omega)] at e
    have e0 : i - us.length = 0 := by
      by_cases q : i - us.length = 0
      · exact q
      · rw [List.getElem?_eq_none (by simp; omega)] at e
        cases e
    rw [e0] at e
    have ei : i = us.length := by omega
    cases e
    exact ⟨t, by rw [ei]⟩
/-- what j draws leave -/
structure Dr (b : Array UInt8) (t : Tok) (z TI TO it : Addr) (h0 : Heap) (m0 j : Nat) (h : Heap) : Prop where
  hz : IsZip h z TI TO .ellipsis
  hTO : ∃ us rest : List Value, us.length = j ∧ us.length + rest.length = 8 ∧ RowI b m0 us ∧ IsT8 h TO (us ++ rest).toArray
  hit : IsBytesIter h it b t (m0 + j)
  hk : ∀ c o, c ≠ z → c ≠ TO → c ≠ it → h0.get? c = some o → h.get? c = some o
  sz : h.objs.size = h0.objs.size
/-- apart -/
structure Z8 (z TI TO it : Addr) : Prop where
  zi : z ≠ it
  zO : z ≠ TO
  Oi : TO ≠ it
  Iz : TI ≠ z
  IO : TI ≠ TO
  Ii : TI ≠ it
theorem forIn_draws {β : Type} {body : (Value × Nat) → β → Sem (ForInStep β)} {init : β} {z TI TO it : Addr} {h0 : Heap} {m0 : Nat} {gs dr os}
    (hbody : ∀ (h : Heap) (tk : Nat) (j : Nat) (Q : ForInStep β → Shared → Prop), Dr b t z TI TO it h0 m0 j h → j < 8 → (∀ h' tk', Dr b t z TI TO it h0 m0 (j + 1) h' → Q (.yield init) ⟨h', gs, dr, tk', os⟩) → wpAny (model prog w) A (body (.ref it, j) init) Q E ⟨h, gs, dr, tk, os⟩)
    {Q : β → Shared → Prop} (hQ : ∀ h tk, Dr b t z TI TO it h0 m0 8 h → Q init ⟨h, gs, dr, tk, os⟩) :
    ∀ (n j : Nat) (h : Heap) (tk : Nat), n + j = 8 → Dr b t z TI TO it h0 m0 j h → wpAny (model prog w) A (forIn ((List.replicate n (Value.ref it)).zipIdx j) init body) Q E ⟨h, gs, dr, tk, os⟩ := by
  intro n
  induction n with
  | zero =>
    intro j h tk e D
    rw [show j = 8 by omega] at D
    simp only [List.replicate_zero, List.zipIdx_nil, List.forIn_nil]
    exact wpAny_pure (hQ h tk D)
  | succ n ih =>
    intro j h tk e D
    rw [List.replicate_succ, List.zipIdx_cons, List.forIn_cons]
    refine wpAny_bind (hbody h tk j _ D (by omega) fun h' tk' D' => ?_)
    exact ih (j + 1) h' tk' (by omega) D'
theorem zip8_item {s : Shared} {z TI TO it : Addr} {m : Nat} {xs : List Value} {Q : Value → Shared → Prop} (Z : Z8 z TI TO it)
    (hz : IsZip s.heap z TI TO .none) (hTI : IsT8 s.heap TI (I8 it)) (hTO : IsT8 s.heap TO xs.toArray) (hxz : xs.length = 8) (hit : IsBytesIter s.heap it b t m) (hb : m + 8 ≤ b.size)
    (hQ : ∀ h' tk us, us.length = 8 → RowI b m us → IsZip h' z TI TO (rawInt s.heap.objs.size) → IsT8 h' TO us.toArray → IsBytesIter h' it b t (m + 8) → IsT8 h' s.heap.objs.size us.toArray →
      (∀ c o, c ≠ z → c ≠ TO → c ≠ it → s.heap.get? c = some o → h'.get? c = some o) → Q (.ref s.heap.objs.size) { s with heap := h', toks := tk }) :
    wpAny (model prog w) A (Builtin.«zip.__next__» ⟨[.ref z], []⟩) (fun fin s' => ∃ v, fin = .done (.ret v) ∧ Q v s') E s := by
  obtain ⟨hp, gs, dr, tk, os⟩ := s
  replace hz : IsZip hp z TI TO .none := hz
  replace hTO : IsT8 hp TO xs.toArray := hTO
  replace hTI : IsT8 hp TI (I8 it) := hTI
  replace hit : IsBytesIter hp it b t m := hit
  show wpAny _ _ (field (.ref z) 2 >>= _) _ _ _
  refine wpAny_bind (wpAny_field hz rfl (x := .bool false) rfl ?_)
  show wpAny _ _ (field (.ref z) 3 >>= _) _ _ _
  refine wpAny_bind (wpAny_field hz rfl (x := .ref TI) rfl ?_)
  refine wpAny_bind (seqItems_t8' hTI ?_)
  show wpAny _ _ (Builtin.SmallTypes.ownedTupleIsFree (.ref z) >>= _) _ _ _
  refine wpAny_bind ?_
  unfold Builtin.SmallTypes.ownedTupleIsFree
  refine wpAny_bind (wpAny_field hz rfl (x := .none) rfl (wpAny_pure ?_))
  simp only [if_true]
  refine wpAny_bind (wpAny_rule ?_)
  refine wpAny_bind (wpAny_field hz rfl (x := .ref TO) rfl ?_)
  refine wpAny_bind (setField_z' hz (by simp) fun h₀ hz₀ hs₀ => ?_)
  have D0 : Dr b t z TI TO it hp m 0 h₀ := ⟨hz₀, ⟨[], xs, rfl, by rw [hxz]; rfl, fun i v e => by simp at e, hs₀.extBut _ _ Z.zO.symm hTO⟩, (by obtain ⟨o, ho, r⟩ := hit; exact ⟨o, hs₀.extBut _ _ Z.zi.symm ho, r⟩), fun c o c1 _ _ e => hs₀.extBut _ _ c1 e, hs₀.1⟩
  clear hz₀ hs₀
  refine wpAny_bind ?_
  show wpAny _ _ (forIn ((List.replicate 8 (Value.ref it)).zipIdx 0) _ _) _ _ _
  refine forIn_draws (b := b) (t := t) (z := z) (TI := TI) (TO := TO) (h0 := hp) (m0 := m) (fun h tk j Q D hj hq => ?_) (fun h tk D => ?_) 8 0 h₀ tk rfl D0
  · refine wpAny_bind (wpAny_onRaise ?_)
    show wpAny _ _ (Builtin.SmallTypes.nextOf (.ref it) >>= _) _ _ _
    refine wpAny_bind (nextOf_bytes_item' D.hit (bI_get (by omega)) fun g ig sg => wpAny_pure ?_)
    obtain ⟨us, rest, e1, e2, ri, hT⟩ := D.hTO
    cases rest with
    | nil => simp at e2; omega
    | cons r rest =>
      have hT1 := sg.extBut _ _ Z.Oi hT
      refine wpAny_bind (seqItems_t8' hT1 ?_)
      refine wpAny_bind (updateSeq_t8' hT1 (by simp only [List.size_toArray, List.length_append]; omega) fun h1 t1 s1 => ?_)
      refine wpAny_bind (wpAny_letGo (wpAny_pure (hq h1 _ ?_)))
      refine ⟨s1.extBut _ _ Z.zO (sg.extBut _ _ Z.zi D.hz), ⟨us ++ [.int (bI b (m + us.length)) tk], rest, by rw [List.length_append, e1]; rfl, by rw [List.length_append]; simp at e2 ⊢; omega, ri.snoc tk, ?_⟩, ?_, fun c o c1 c2 c3 e => s1.extBut _ _ c2 (sg.extBut _ _ c3 (D.hk c o c1 c2 c3 e)), by rw [s1.1, sg.1, D.sz]⟩
      · have ex : ((us ++ r :: rest).toArray).setIfInBounds j (Value.int (bI b (m + us.length)) tk) = (us ++ [Value.int (bI b (m + us.length)) tk] ++ rest).toArray := by
          rw [List.setIfInBounds_toArray, List.set_append_right _ _ (by omega), show j - us.length = 0 by omega, List.append_assoc]
          rfl
        rw [← ex]
        rw [show m + us.length = m + j by rw [e1]]
        exact t1
      · obtain ⟨o, ho, rr⟩ := ig
        exact ⟨o, s1.extBut _ _ Z.Oi.symm ho, rr⟩
  · obtain ⟨us, rest, e1, e2, ri, hT⟩ := D.hTO
    have er : rest = [] := List.eq_nil_of_length_eq_zero (by omega)
    subst er
    rw [List.append_nil] at hT
    have hlz : z < h.objs.size := Heap.lt_size D.hz
    refine wpAny_bind (seqItems_t8' hT ?_)
    refine wpAny_bind (newTuple_z' ?_ (by show us.length ≤ sizeLine; rw [e1]; decide))
    show wpAny _ _ (Builtin.SmallTypes.ownedTupleHandOut (.ref z) (.ref h.objs.size) >>= _) _ _ _
    refine wpAny_bind ?_
    unfold Builtin.SmallTypes.ownedTupleHandOut
    refine wpAny_bind (setField_z' (Heap.get?_push_of_some _ D.hz) (by simp) fun h₇ hz₇ hs₇ => ?_)
    replace hz₇ : IsZip h₇ z TI TO (rawInt h.objs.size) := hz₇
    refine setField_z' hz₇ (by simp) fun h₈ hz₈ hs₈ => ?_
    replace hz₈ : IsZip h₈ z TI TO (rawInt h.objs.size) := hz₈
    have up : ∀ c o, c ≠ z → h.get? c = some o → h₈.get? c = some o := fun c o c1 e => hs₈.extBut _ _ c1 (hs₇.extBut _ _ c1 (Heap.get?_push_of_some _ e))
    have hT₈ : IsT8 h₈ h.objs.size us.toArray := hs₈.extBut _ _ (Nat.ne_of_gt hlz) (hs₇.extBut _ _ (Nat.ne_of_gt hlz) (Heap.get?_push_size _ rfl))
    rw [D.sz] at hz₈ hT₈
    refine wpAny_pure ⟨_, rfl, ?_⟩
    show Q (.ref h.objs.size) _
    rw [D.sz]
    refine hQ h₈ _ us e1 ri hz₈ (up _ _ Z.zO.symm hT) ?_ hT₈ fun c o c1 c2 c3 e => up c o c1 (D.hk c o c1 c2 c3 e)
    obtain ⟨o, ho, r⟩ := D.hit
    exact ⟨o, up _ o Z.zi.symm ho, r⟩
theorem zip8_end {s : Shared} {z TI TO it : Addr} {m : Nat} {xs : Array Value} {Q : Fin → Shared → Prop} (hh : A.handled = none) (Z : Z8 z TI TO it)
    (hz : IsZip s.heap z TI TO .none) (hTI : IsT8 s.heap TI (I8 it)) (hTO : IsT8 s.heap TO xs) (hit : IsBytesIter s.heap it b t m) (hx : b[m]? = none)
    (hE : ∀ h' e, (∀ c o, c ≠ z → c ≠ TO → c ≠ it → s.heap.get? c = some o → h'.get? c = some o) → (∃ o, h'.get? e = some o ∧ o.cls = .type "StopIteration") → E (.ref e) { s with heap := h' }) :
    wpAny (model prog w) A (Builtin.«zip.__next__» ⟨[.ref z], []⟩) Q E s := by
  show wpAny _ _ (field (.ref z) 2 >>= _) _ _ _
  refine wpAny_bind (wpAny_field hz rfl (x := .bool false) rfl ?_)
  show wpAny _ _ (field (.ref z) 3 >>= _) _ _ _
  refine wpAny_bind (wpAny_field hz rfl (x := .ref TI) rfl ?_)
  refine wpAny_bind (wpAny_seqItems hTI rfl ?_)
  show wpAny _ _ (Builtin.SmallTypes.ownedTupleIsFree (.ref z) >>= _) _ _ _
  refine wpAny_bind ?_
  unfold Builtin.SmallTypes.ownedTupleIsFree
  refine wpAny_bind (wpAny_field hz rfl (x := .none) rfl (wpAny_pure ?_))
  simp only [if_true]
  refine wpAny_bind (wpAny_rule ?_)
  refine wpAny_bind (wpAny_field hz rfl (x := .ref TO) rfl ?_)
  refine wpAny_bind (wpAny_setField_rec hz (by simp) fun h₁ hz₁ hs₁ => ?_)
  replace hz₁ : IsZip h₁ z TI TO .ellipsis := hz₁
  refine wpAny_bind ?_
  simp only [List.zipIdx_cons, List.zipIdx_nil, List.forIn_cons, List.forIn_nil]
  refine wpAny_bind (wpAny_bind (wpAny_onRaise ?_))
  show wpAny _ _ (Builtin.SmallTypes.nextOf (.ref it) >>= _) _ _ _
  have hit₁ : IsBytesIter h₁ it b t m := by obtain ⟨o, ho, r⟩ := hit; exact ⟨o, hs₁.extBut _ _ Z.zi.symm ho, r⟩
  refine wpAny_bind (nextOf_bytes_end hh hit₁ hx fun h₂ e hs₂ he => ?_)
  obtain ⟨oe, hoe, hce⟩ := he
  have hz₂ : IsZip h₂ z TI TO .ellipsis := hs₂ _ _ Z.zi hz₁
  have hez : e ≠ z := fun x => by subst x; rw [hz₂] at hoe; cases hoe; simp at hce
  exact wpAny_setField_rec hz₂ (by simp) fun h₃ _ hs₃ => hE h₃ e (fun c o c1 _ c3 x => hs₃.extBut _ _ c1 (hs₂ _ _ c3 (hs₁.extBut _ _ c1 x))) ⟨oe, hs₃.extBut _ _ hez hoe, hce⟩
end
end Fk

set_option maxHeartbeats 4000000
/-! iter(bytes); for .. in zip(it, .. eight times): the rules. -/
namespace Fk
open PySem PySem.Spec PyProof.Rows L2 PySem.W.KBw
theorem typeCall_zip_8 (a : Value) : checkTypeCall "zip" ⟨[a, a, a, a, a, a, a, a], []⟩ = pure () := by kernel_rfl
theorem newCall_zip_8 (a : Value) : checkBuiltinCall "zip.__new__" ⟨[.type "zip", a, a, a, a, a, a, a, a], []⟩ = pure () := by kernel_rfl
theorem args_oi_9 (o a : Value) : argsOk "object.__init__" ⟨[o, a, a, a, a, a, a, a, a], []⟩ := by
  unfold argsOk; rw [signature?_of (id := "object.__init__") (n := ['_', '_', 't', 'i', 'n', 'i', '_', '_']) (o := ['t', 'c', 'e', 'j', 'b', 'o']) (by kernel_rfl) F.owner_object]; kernel_rfl
abbrev z8H1 (h : Heap) (it : Addr) : Heap := h.push { cls := .type "tuple", data := .seq (I8 it) }
abbrev z8H2 (h : Heap) (it : Addr) : Heap := (z8H1 h it).push { cls := .type "tuple", data := .seq #[.none, .none, .none, .none, .none, .none, .none, .none] }
abbrev z8H3 (h : Heap) (it : Addr) : Heap := (z8H2 h it).push { cls := .type "zip", data := .fields #[.none, .bool false, .bool false, .ref h.objs.size, .ref (z8H1 h it).objs.size] }
theorem meets_zip8 (it : Addr) (b : Array UInt8) (t : Tok) :
    Meets (Builtin.«zip.__new__» ⟨[.type "zip", .ref it, .ref it, .ref it, .ref it, .ref it, .ref it, .ref it, .ref it], []⟩) (fun _ R s => IsBytesIter s.heap it b t 0 ∧
      R (.ok (.ret (.ref (z8H2 s.heap it).objs.size))) { s with heap := z8H3 s.heap it }) :=
  .of_wp fun prog w A R s h => by
    obtain ⟨hp, g, d, tk, os⟩ := s; obtain ⟨hi, h⟩ := h
    have hsub := sub_zip
    have hI : IsBytesIter (Shared.heap ⟨hp, g, d, tk, os⟩) it b t 0 := hi
    wp_walk using pyIter_self hI
    exact ⟨_, rfl, h⟩
section
variable {prog : Program} {w : World} {A : Around} {E : Value → Shared → Prop} {s : Shared} {b : Array UInt8} {t : Tok}
theorem call_zip8 {it : Addr} {Q : Value → Shared → Prop} (hi : IsBytesIter s.heap it b t 0)
    (h : ∀ h', IsZip h' (s.heap.objs.size + 2) s.heap.objs.size (s.heap.objs.size + 1) .none → IsT8 h' s.heap.objs.size (I8 it) → IsT8 h' (s.heap.objs.size + 1) #[.none, .none, .none, .none, .none, .none, .none, .none] →
      (∀ c o, s.heap.get? c = some o → h'.get? c = some o) → Q (.ref (s.heap.objs.size + 2)) { s with heap := h' }) :
    wpAny (model prog w) A (call (.type "zip") [.ref it, .ref it, .ref it, .ref it, .ref it, .ref it, .ref it, .ref it]) Q E s := by
  refine callType_new F.called_zip (by decide) (typeCall_zip_8 _) (newCall_zip_8 _) (fun obj => args_oi_9 obj _) F.entry_zip_new
    (meets_zip8 it b t) ⟨hi, ?_⟩
  have z1 : (z8H1 s.heap it).objs.size = s.heap.objs.size + 1 := Heap.size_push ..
  have z2 : (z8H2 s.heap it).objs.size = s.heap.objs.size + 2 := by rw [Heap.size_push, z1]
  have g3 : (z8H3 s.heap it).get? (z8H2 s.heap it).objs.size = some _ := Heap.get?_push_size _ rfl
  have g2 : (z8H3 s.heap it).get? (z8H1 s.heap it).objs.size = some _ := Heap.get?_push_of_some _ (Heap.get?_push_size _ rfl)
  have g1 : (z8H3 s.heap it).get? s.heap.objs.size = some _ := Heap.get?_push_of_some _ (Heap.get?_push_of_some _ (Heap.get?_push_size _ rfl))
  show _ ∧ _
  rw [z1, z2] at g3
  rw [z1] at g2
  rw [z2]
  exact ⟨⟨_, g3, rfl⟩, h _ g3 g1 g2 fun c o x => Heap.get?_push_of_some _ (Heap.get?_push_of_some _ (Heap.get?_push_of_some _ x))⟩
theorem pyNext_zip8_item {z TI TO it : Addr} {m : Nat} {xs : List Value} {Q : Option Value → Shared → Prop} (Z : Z8 z TI TO it)
    (hz : IsZip s.heap z TI TO .none) (hTI : IsT8 s.heap TI (I8 it)) (hTO : IsT8 s.heap TO xs.toArray) (hxz : xs.length = 8) (hit : IsBytesIter s.heap it b t m) (hb : m + 8 ≤ b.size)
    (hQ : ∀ h' tk us, us.length = 8 → RowI b m us → IsZip h' z TI TO (rawInt s.heap.objs.size) → IsT8 h' TO us.toArray → IsBytesIter h' it b t (m + 8) → IsT8 h' s.heap.objs.size us.toArray →
      (∀ c o, c ≠ z → c ≠ TO → c ≠ it → s.heap.get? c = some o → h'.get? c = some o) → Q (some (.ref s.heap.objs.size)) { s with heap := h', toks := tk }) :
    wpAny (model prog w) A (pyNext (.ref z)) Q E s := by
  have hT : s.TypeIs (.ref z) "zip" := ⟨_, hz, rfl⟩
  unfold pyNext
  exact wpAny_bind (wpAny_attempt (wpAny_callSpecial?_slot (name := Str.ofString "__next__") hT F.slot_zip_next
    (wpAny_call_entry F.slot_zip_next hT F.entry_zip_next
      (zip8_item Z hz hTI hTO hxz hit hb fun h' tk us a0 a1 a2 a3 a4 a5 a6 => wpAny_pure (hQ h' tk us a0 a1 a2 a3 a4 a5 a6)) (F.args_zip_next_1 _))))
theorem pyNext_zip8_end {z TI TO it : Addr} {m : Nat} {xs : Array Value} {Q : Option Value → Shared → Prop} (hh : A.handled = none) (Z : Z8 z TI TO it)
    (hz : IsZip s.heap z TI TO .none) (hTI : IsT8 s.heap TI (I8 it)) (hTO : IsT8 s.heap TO xs) (hit : IsBytesIter s.heap it b t m) (hx : b[m]? = none)
    (hQ : ∀ h', (∀ c o, c ≠ z → c ≠ TO → c ≠ it → s.heap.get? c = some o → h'.get? c = some o) → Q none { s with heap := h' }) : wpAny (model prog w) A (pyNext (.ref z)) Q E s := by
  have hT : s.TypeIs (.ref z) "zip" := ⟨_, hz, rfl⟩
  unfold pyNext
  refine wpAny_bind (wpAny_attempt (wpAny_callSpecial?_slot (name := Str.ofString "__next__") hT F.slot_zip_next
    (wpAny_call_entry F.slot_zip_next hT F.entry_zip_next (zip8_end hh Z hz hTI hTO hit hx fun h' e hk he => ?_) (F.args_zip_next_1 _))))
  obtain ⟨o, ho, hc⟩ := he
  refine wpAny_bind (wpAny_isInstance (T := "StopIteration") (b := true) ⟨o, ho, hc⟩ isSubtype_stop ?_)
  exact wpAny_pure (hQ _ hk)
end
theorem RowI.vals {b : Array UInt8} : ∀ (us : List Value) (m : Nat), RowI b m us → Vals ((List.range us.length).map fun k => V.int (bI b (m + k))) us := by
  intro us
  induction us with
  | nil => intro m _; exact .nil
  | cons u us ih =>
    intro m h
    rw [List.length_cons, List.range_succ_eq_map, List.map_cons, List.map_map]
    obtain ⟨t, rfl⟩ := h 0 u rfl
    refine .cons ⟨t, rfl⟩ ?_
    have q := ih (m + 1) fun i v e => by
      obtain ⟨t', e'⟩ := h (i + 1) v e
      exact ⟨t', by rw [e', show m + (i + 1) = m + 1 + i by omega]⟩
    refine (congrArg (fun l => Vals l us) (List.map_congr_left fun k _ => ?_)).mp q
    show V.int (bI b (m + 1 + k)) = V.int (bI b (m + (k + 1)))
    rw [show m + 1 + k = m + (k + 1) by omega]
def row8 (b : Array UInt8) (i : Nat) : List V := [.int (bI b (8 * i + 0)), .int (bI b (8 * i + 1)), .int (bI b (8 * i + 2)), .int (bI b (8 * i + 3)), .int (bI b (8 * i + 4)), .int (bI b (8 * i + 5)), .int (bI b (8 * i + 6)), .int (bI b (8 * i + 7))]
theorem row8_vals {b : Array UInt8} {us : List Value} {i : Nat} (h : RowI b (8 * i) us) (hl : us.length = 8) : Vals (row8 b i) us := by
  have q := h.vals us
  rw [hl] at q
  exact q
def It8 (b : Array UInt8) : It := ⟨fun i _ => 8 * i + 8 ≤ b.size, fun i H v H' => ∃ T, v = .ref T ∧ H T = none ∧ H' = upd H T (.tup (row8 b i)), fun i _ => b.size ≤ 8 * i⟩
theorem turn_zip8 {P : Program} {w : World} {K : PySem.W.Frag} {elts : List Expr} {kk : Nat} {tpos : Pos} {z TI TO it : Addr} (Z : Z8 z TI TO it) (b : Array UInt8) (t : Tok) :
    Turn P w K (.Tuple elts kk tpos) (It8 b) [z, TI, TO, it] z (fun i h => IsZip h z TI TO .none ∧ IsT8 h TI (I8 it) ∧ (∃ xs : List Value, xs.length = 8 ∧ IsT8 h TO xs.toArray) ∧ IsBytesIter h it b t (8 * i)) where
  mem := by simp
  obj := fun i h st c hc => by
    obtain ⟨hz, hTI, ⟨xs, hxz, hTO⟩, ⟨o1, e1, _, d1⟩⟩ := st
    have e' : c = z ∨ c = TI ∨ c = TO ∨ c = it := by simpa using hc
    rcases e' with q | q | q | q
    · rw [q]; exact ⟨_, hz, fun v q => nomatch q⟩
    · rw [q]; exact ⟨_, hTI, fun v q => nomatch q⟩
    · rw [q]; exact ⟨_, hTO, fun v q => nomatch q⟩
    · rw [q]; exact ⟨o1, e1, fun v q => by rw [d1] at q; cases q⟩
  keep := fun i h h' st k => by
    obtain ⟨hz, hTI, ⟨xs, hxz, hTO⟩, ⟨o1, e1, r⟩⟩ := st
    exact ⟨k z (by simp) _ hz, k TI (by simp) _ hTI, ⟨xs, hxz, k TO (by simp) _ hTO⟩, ⟨o1, k it (by simp) o1 e1, r⟩⟩
  item := by
    intro X hP hw hK hc i pins s σ H E I hf st hg
    subst hP hw hK
    obtain ⟨hz, hTI, ⟨xs, hxz, hTO⟩, hit⟩ := st
    have hg : 8 * i + 8 ≤ b.size := hg
    have hzl : z < s.heap.objs.size := Heap.lt_size hz
    refine pyNext_zip8_item Z hz hTI hTO hxz hit hg fun h' tk us hl ri z' TO' it' hT hk => ?_
    refine ⟨_, rfl, wpAny_letOwnedTupleGo_zip (s := { s with heap := h', toks := tk }) z' fun h'' z'' sb => ?_⟩
    have hT2 : IsT8 h'' s.heap.objs.size _ := (sb.2 _ (Nat.ne_of_gt hzl)).trans hT
    have new : ObjOk X.prog X.w (upd H s.heap.objs.size (.tup (row8 b i))) h'' s.heap.objs.size (.tup (row8 b i)) :=
      ⟨by show 8 ≤ sizeLine; decide, us, row8_vals ri hl, ⟨_, hT2, rfl, _, rfl⟩⟩
    have I1 : Inv X pins σ (upd H s.heap.objs.size (.tup (row8 b i))) { s with heap := h'', toks := tk } :=
      I.turnedNew (t' := tk) (ch := [z, TI, TO, it]) (fun c o hb q => (sb.2 c (fun q' => hb (by simp [q']))).trans (hk c o (fun q' => hb (by simp [q'])) (fun q' => hb (by simp [q'])) (fun q' => hb (by simp [q'])) q)) hf (Nat.le_refl _) new
    refine ⟨.ref s.heap.objs.size, _, I1, rfl, ⟨_, rfl, I.hok.fresh (Nat.le_refl _), rfl⟩, ⟨z'', ?_, ⟨us, hl, ?_⟩, ?_⟩, fun c hcm => ?_⟩
    · exact (sb.2 _ Z.Iz).trans (hk _ _ Z.Iz Z.IO Z.Ii hTI)
    · exact (sb.2 _ Z.zO.symm).trans TO'
    · obtain ⟨o, ho, r⟩ := it'
      exact ⟨o, (sb.2 _ Z.zi.symm).trans ho, r⟩
    · have hlt : c < s.heap.objs.size := by
        have e' : c = z ∨ c = TI ∨ c = TO ∨ c = it := by simpa using hcm
        rcases e' with q | q | q | q
        · rw [q]; exact hzl
        · rw [q]; exact Heap.lt_size hTI
        · rw [q]; exact Heap.lt_size hTO
        · rw [q]; obtain ⟨_, e1, _⟩ := hit; exact Heap.lt_size e1
      rw [upd_ne (Nat.ne_of_lt hlt)]
      exact (hf c hcm).1
  done := by
    intro X hP hw hK hc i pins s σ H E I hf st hg
    subst hP hw hK
    obtain ⟨hz, hTI, ⟨xs, hxz, hTO⟩, hit⟩ := st
    exact pyNext_zip8_end (I.ok.hd hc) Z hz hTI hTO hit (Array.getElem?_eq_none hg) fun h' hk => ⟨rfl, I.turnedL (t' := s.toks) (ch := [z, TI, TO, it]) (fun c o hb q =>
      hk c o (fun q' => hb (by simp [q'])) (fun q' => hb (by simp [q'])) (fun q' => hb (by simp [q'])) q) hf⟩
  self := fun A i s Q E st h => wpAny_pyIter_zip st.1 h
/-! ### iter(b) -/
def BiO (b : Array UInt8) (it : Addr) : HO := .ext fun h => ∃ t, IsBytesIter h it b t 0
theorem call_iterB {X : Cx} : CallR X (.builtin "iter") (fun xs H Q => ∃ b, xs = [.byt b] ∧ ∀ it, H it = none → X.s_0.heap.objs.size ≤ it → Q (.ref it) (upd H it (BiO b it))) := by
  intro pins s σ H xs us Q I r h
  obtain ⟨b, rfl, q⟩ := h
  obtain ⟨u, rfl, ru⟩ := vals1 r
  obtain ⟨t, rfl⟩ := ru
  refine Calls.call_function_entry (by decide +kernel) (by decide +kernel) PySem.W.kdk_entry_iter (PySem.W.kdk_args_iter _) ?_
  unfold Builtin.«iter»
  refine wpAny_bind (m := someArgs "iter" 1 2 _) (wpAny_of_eq (a := [Value.bytes b t]) (by first | rfl | kernel_rfl!) ?_)
  show wpAny _ _ (pyIter (.bytes b t) >>= _) _ _ _
  refine wpAny_bind (pyIter_bytes (wpAny_pure ⟨_, rfl, ?_⟩))
  have st : IsBytesIter (s.heap.push { cls := .type "bytes_iterator", data := .fields #[.bytes b t, .int 0 0] }) s.heap.objs.size b t 0 := ⟨_, Heap.get?_push_size _ rfl, rfl, rfl⟩
  refine ⟨.ref s.heap.objs.size, _, I.laid (t' := s.toks) (fun b u e => Heap.get?_push_of_some _ e) (Nat.le_refl _) (o := BiO b s.heap.objs.size) ⟨⟨t, st⟩, ⟨_, Heap.get?_push_size _ rfl⟩, fun h1 h2 ⟨t, o, ho, r⟩ k => ⟨t, o, k _ ho, r⟩⟩, rfl, q _ (I.hok.fresh (Nat.le_refl _)) I.sz⟩
/-! ### for .. in zip(it, ..) -/
def iZip8 (n : Nat) (ta : TA) : TI := fun σ H R => ta σ H fun vs H1 => ∃ it b, vs = [.ref it, .ref it, .ref it, .ref it, .ref it, .ref it, .ref it, .ref it] ∧ H1 it = some (BiO b it) ∧ n ≤ it ∧ R (It8 b) (ItX.dropH H1 it)
theorem pi_zip8 {X : Cx} {e0 e1 e2 e3 e4 e5 e6 e7 : Expr} {ta : TA} {p pos tpos : Pos} {elts : List Expr} {kk : Nat} (hg : Gl X "zip") (hm : X.mg "zip" = none) (ha : PA X [e0, e1, e2, e3, e4, e5, e6, e7] ta)
    (hs : starEach [e0, e1, e2, e3, e4, e5, e6, e7] X.env = (false, eval e0 X.env) :: starEach [e1, e2, e3, e4, e5, e6, e7] X.env := by rfl) (hpl : (backTo pos (starEach [e1, e2, e3, e4, e5, e6, e7] X.env)).any (·.1) = false := by rfl) :
    PI X (.Tuple elts kk tpos) (.Call (.Name "zip" p) [e0, e1, e2, e3, e4, e5, e6, e7] [] pos) (iZip8 X.s_0.heap.objs.size ta) := by
  refine ⟨fun pins s σ H R I h => ?_⟩
  refine Call_ (ld_blt I hg hm PyProof.Rows.boot_zip (PyProof.Rows.callWith_type1 (thn (ha.run pos pins s σ H _ I h) fun us s1 ⟨vs, H1, I1, r1, q1⟩ => ?_) hs hpl))
  obtain ⟨it, b, ex, hi, hn, q⟩ := q1
  subst ex
  obtain ⟨t, st⟩ := (I1.hok it _ hi).1
  have eu : us = [.ref it, .ref it, .ref it, .ref it, .ref it, .ref it, .ref it, .ref it] := by
    have z : ∀ (n : Nat) (us : List Value), Vals (List.replicate n (V.ref it)) us → us = List.replicate n (Value.ref it) := fun n => by
      induction n with
      | zero => intro us r; cases r; rfl
      | succ n ih =>
        intro us r
        cases r with
        | cons r0 r =>
          rw [ih _ r, show _ = Value.ref it from r0]
          rfl
    exact z 8 us r1
  subst eu
  have Id : Inv X pins σ (ItX.dropH H1 it) s1 := ItX.inv_drop I1 hi
  have hlt : it < s1.heap.objs.size := by obtain ⟨_, e1, _⟩ := st; exact Heap.lt_size e1
  refine call_zip8 st fun h' hz hTI hTO hk => wpAny_pyIter_zip hz ?_
  have I2 : Inv X pins σ (ItX.dropH H1 it) { s1 with heap := h' } := Id.kept (t' := s1.toks) hk
  have Z : Z8 (s1.heap.objs.size + 2) s1.heap.objs.size (s1.heap.objs.size + 1) it := ⟨by show s1.heap.objs.size + 2 ≠ it; exact Nat.ne_of_gt (Nat.lt_add_right 2 hlt), Nat.ne_of_gt (Nat.lt_succ_self _), by show s1.heap.objs.size + 1 ≠ it; exact Nat.ne_of_gt (Nat.lt_add_right 1 hlt), Nat.ne_of_lt (Nat.lt_add_of_pos_right (by decide)), Nat.ne_of_lt (Nat.lt_succ_self _), Nat.ne_of_gt hlt⟩
  refine ⟨s1.heap.objs.size + 2, [s1.heap.objs.size + 2, s1.heap.objs.size, s1.heap.objs.size + 1, it], _, It8 b, ItX.dropH H1 it, rfl, I2, turn_zip8 Z b t, ⟨hz, hTI, ⟨[.none, .none, .none, .none, .none, .none, .none, .none], rfl, hTO⟩, ?_⟩, fun c hcm => ?_, q⟩
  · obtain ⟨o, ho, r⟩ := st
    exact ⟨o, hk _ _ ho, r⟩
  · have e' : c = s1.heap.objs.size + 2 ∨ c = s1.heap.objs.size ∨ c = s1.heap.objs.size + 1 ∨ c = it := by simpa using hcm
    have fr : s1.heap.objs.size ≤ c → FpOk X pins (ItX.dropH H1 it) c := fun hle => Id.fpOk hle (Id.hok.fresh hle)
    rcases e' with z | z | z | z
    · exact fr (by rw [z]; exact Nat.le_add_right _ _)
    · exact fr (by rw [z]; exact Nat.le_refl _)
    · exact fr (by rw [z]; exact Nat.le_add_right _ _)
    · rw [z]; exact ItX.inv_fp I1 hi hn
/-- a loop over the bytes by eights -/
theorem for_zip8 {b : Array UInt8} {n : Nat} (hn : b.size = 8 * n) {g : TG} {tb : TS} {D : Ends} {σ : L2.St} {H : Hp} (Pv : Nat → L2.St → Hp → Prop) (h0 : Pv 0 σ H)
    (hs : ∀ (i : Nat) (T : Addr) (σ : L2.St) (H : Hp), i < n → Pv i σ H → H T = none → g (.ref T) σ (upd H T (.tup (row8 b i))) fun σ2 H2 => tb { D with nx := Pv (i + 1), ct := Pv (i + 1), bk := D.nx } σ2 H2) (hd : ∀ σ H, Pv n σ H → D.nx σ H) :
    ∃ W : Nat → Nat → L2.St → Hp → Prop, (∃ m, W 0 m σ H) ∧ ∀ i m σ H, W i m σ H →
      ((It8 b).stop i H ∧ D.nx σ H) ∨ ((It8 b).go i H ∧ ∃ N : L2.St → Hp → Prop, (∀ σ' H', N σ' H' → ∃ m', m' < m ∧ W (i + 1) m' σ' H') ∧ ∀ v H', (It8 b).yld i H v H' → g v σ H' fun σ2 H2 => tb { D with nx := N, ct := N, bk := D.nx } σ2 H2) := by
  refine ⟨fun i m σ H => m = n - i ∧ i ≤ n ∧ Pv i σ H, ⟨n, rfl, Nat.zero_le _, h0⟩, ?_⟩
  rintro i m σ H ⟨rfl, hi, p⟩
  by_cases hlt : i < n
  · refine .inr ⟨by show 8 * i + 8 ≤ b.size; omega, Pv (i + 1), fun σ' H' p' => ⟨n - (i + 1), by omega, rfl, hlt, p'⟩, fun v H' y => ?_⟩
    obtain ⟨T, rfl, hT, rfl⟩ := y
    exact hs i T σ H hlt p hT
  · have e : i = n := by omega
    subst e
    exact .inl ⟨by show b.size ≤ 8 * i; omega, hd σ H p⟩
end Fk

set_option maxHeartbeats 4000000
/-! list(text); classes and defs called with keywords; properties. -/
namespace Fk
open PySem PySem.Spec PyProof.Rows L2
section
variable {X : Cx}
/-- list(x), x a text -/
def rListS : List V → Hp → VK → Prop := fun xs H Q => ∃ x : Str, xs = [.str x] ∧ x.length ≤ sizeLine ∧ ∀ q, H q = none → Q (.ref q) (upd H q (.lst ((TL.tl x).map sgn)))
theorem call_listS (hc : X.calm = true) : CallR X (.type "list") rListS := by
  intro pins s σ H xs us Q I r h
  obtain ⟨x, e, hz, q⟩ := h
  subst e
  obtain ⟨u, eu, rx⟩ := vals1 r
  subst eu
  obtain ⟨t, rfl⟩ := rx
  refine PySem.call_list_str (I.ok.hd hc) x t (fun h' tk acc' c' hk hS hacc => ?_) hz
  refine ⟨.ref s.heap.objs.size, upd H s.heap.objs.size (.lst ((TL.tl x).map sgn)), I.laid hk (Nat.le_refl _) (show ObjOk X.prog X.w _ _ _ (.lst ((TL.tl x).map sgn)) from ⟨?_, acc'.toList, c', ?_, ?_⟩), rfl, q _ (I.hok.fresh (Nat.le_refl _))⟩
  · rw [List.length_map, ← TL.len_tl]; exact hz
  · have el : acc'.toList.length = acc'.size := by simp
    refine vals_of_at (by rw [List.length_map, el, hacc.1, ← TL.len_tl]; rfl) fun j x' w h1 h2 => ?_
    obtain ⟨c, u, hcx, rfl⟩ := hacc.2 j w (by rw [← Array.getElem?_toList]; exact h2)
    rw [List.getElem?_map, show (TL.tl x)[j]? = some c from by rw [← hcx]; exact Array.getElem?_toList] at h1
    cases h1
    exact ⟨u, rfl⟩
  · rw [Array.toArray_toList]; exact hS
end
/-! ### classes and defs called with keywords -/
def IniK (K : PySem.W.Frag) (C : Addr) (qual : Str) (st : Stmt) (ps : List Str) (n : Nat) (ks : List Str) (gV : List V → List V → List V) : Prop := ∃ (f : Addr) (fd : FuncData) (g : List Value → List Value → List Value), Mk K C f ∧ C8.Fun K "__init__" qual st f fd ∧ KBn K fd ps n ks g gV
structure MakK (P : Program) (w : World) (K : PySem.W.Frag) (mg : Str → Option Value) (base : Heap) (k : Nat) (x : Str) (C : Addr) (sp : Sp) (n : Nat) (ks : List Str) (gV : List V → List V → List V) : Prop where
  ex : ∃ (f : Addr) (fd : FuncData) (ps : List Str) (g : List Value → List Value → List Value), Mk K C f ∧ FnOk P w K mg base C8.CX0 k f fd ps sp ∧ mg x = some (.ref C) ∧ KBn K fd ps n ks g gV
def DefK (K : PySem.W.Frag) (mg : Str → Option Value) (x : Str) (st : Stmt) (ps : List Str) (n : Nat) (ks : List Str) (gV : List V → List V → List V) : Prop := ∃ (f : Addr) (fd : FuncData) (g : List Value → List Value → List Value), C8.Fun K x x st f fd ∧ mg x = some (.ref f) ∧ PySem.W.keepIn K (.ref f) = true ∧ KBn K fd ps n ks g gV
structure CalK (P : Program) (w : World) (K : PySem.W.Frag) (mg : Str → Option Value) (base : Heap) (k : Nat) (x : Str) (sp : Sp) (n : Nat) (ks : List Str) (gV : List V → List V → List V) : Prop where
  ex : ∃ (f : Addr) (fd : FuncData) (ps : List Str) (g : List Value → List Value → List Value), FnOk P w K mg base C8.CX0 k f fd ps sp ∧ mg x = some (.ref f) ∧ PySem.W.keepIn K (.ref f) = true ∧ KBn K fd ps n ks g gV
section
variable {P : Program} {w : World} {K : PySem.W.Frag} {mg : Str → Option Value} {base : Heap}
theorem makK {x qual : Str} {C : Addr} {st : Stmt} {ps ks : List Str} {n k : Nat} {sp : Sp} {gV : List V → List V → List V} (I : IniK K C qual st ps n ks gV) (hm : mg x = some (.ref C)) (F : ∀ f fd, C8.Fun K "__init__" qual st f fd → FnOk P w K mg base C8.CX0 k f fd ps sp) : MakK P w K mg base k x C sp n ks gV := by
  obtain ⟨f, fd, g, M, U, b⟩ := I
  exact ⟨f, fd, ps, g, M, F f fd U, hm, b⟩
theorem calK {x : Str} {st : Stmt} {ps ks : List Str} {n k : Nat} {sp : Sp} {gV : List V → List V → List V} (I : DefK K mg x st ps n ks gV) (F : ∀ f fd, C8.Fun K x x st f fd → FnOk P w K mg base C8.CX0 k f fd ps sp) : CalK P w K mg base k x sp n ks gV := by
  obtain ⟨f, fd, g, U, hm, hk, b⟩ := I
  exact ⟨f, fd, ps, g, F f fd U, hm, hk, b⟩
/-- a property of a class, by its getter -/
structure PDef (K : PySem.W.Frag) (C : Addr) (f qual : Str) (st : Stmt) : Prop where
  ex : ∃ (p g : Addr) (fd : FuncData), PropOf K C f p g ∧ C8.Fun K f qual st g fd ∧ fd.defaults = .none
structure Prp (P : Program) (w : World) (K : PySem.W.Frag) (mg : Str → Option Value) (base : Heap) (k : Nat) (C : Addr) (f : Str) (sp : Sp) : Prop where
  ex : ∃ (p g : Addr) (fd : FuncData) (ps : List Str), Cls K C ∧ PropOf K C f p g ∧ FnOk P w K mg base C8.CX0 k g fd ps sp ∧ Binds K fd ps []
theorem prp_of {f qual : Str} {C : Addr} {st : Stmt} {N ps : List Str} {k : Nat} {sp : Sp} (c : Cls K C) (D : PDef K C f qual st) (S : FnScope N ps (C8.fnScope st))
    (hb : ∀ (kV doc pm : Value) (an : Option Addr) (cdv ct : Value) (us : List Value), us.length = ps.length → bindArgs (PySem.W.fnOf f qual (C8.fnArgs st) (C8.fnBody st) (C8.fnScope st) .none kV doc pm an cdv ct) ⟨us, []⟩ = pure (ps.zip us))
    (len : ∀ vs H Q E, sp vs H Q E → vs.length = ps.length)
    (hbody : ∀ (f : Addr) (cdv : Value) (A : Around) (outer : List Env) (s : Shared) (H : Hp) (vs : List V) (Q : VK) (E : XK), Room k (A.deeper (envOfC qual (C8.fnScope st) s.heap.objs.size f cdv)) → sp vs H Q E →
      ∃ t, PSs (cxOf C8.CX0 P w K mg base N qual (C8.fnScope st) f cdv A outer s H E).nox (C8.fnBody st) t ∧ t { nx := fun _ H' => Q .non H', rt := Q } (start N vs) H) : Prp P w K mg base (k + 1) C f sp := by
  obtain ⟨p, g, fd, hp, F, df⟩ := D.ex
  exact ⟨p, g, fd, ps, c, hp, C8.fn0 F S len (hbody g), F.binds df hb⟩
end
section
variable {X : Cx} {k j n : Nat} {C : Addr} {x f : Str} {sp : Sp} {p pos : Pos} {e : Expr} {es : List Expr} {kws : List Keyword} {ks : List Str} {t tk : TA} {ta : TE} {gV : List V → List V → List V}
/-- C(e, .., k = v, ..) -/
theorem pe_mkK (c : MakK X.prog X.w X.K X.mg X.base k x C sp (n + 1) ks gV) (hr : Room j X.A) (hk : k + 1 ≤ j) (hg : Gl X x) (ha : PA X (e :: es) t) (hkw : PK X kws tk)
    (hall : (backToKw pos (keywordEach kws X.env)).all (·.1.isSome) = true := by rfl) (hks : (backToKw pos (keywordEach kws X.env)).filterMap (·.1) = ks := by rfl) (hdb : (x == ("__debug__" : Str)) = false := by decide)
    (he : starEach (e :: es) X.env = (false, eval e X.env) :: starEach es X.env := by rfl) (hpl : ((backTo pos (starEach (e :: es) X.env)).any (·.1) || (backToKw pos (keywordEach kws X.env)).any (·.1.isNone)) = false := by rfl) :
    PE X (.Call (.Name x p) (e :: es) kws pos) (tMakeK C n ks.length sp gV C8.E0 t tk) := by
  obtain ⟨f, fd, ps, g, M, F, hm, b⟩ := c.ex
  exact pe_makeK M F (hr.mono hk) hg hm b C8.pass0 ha hkw hall hks hdb he hpl
/-- C(k = v, ..) -/
theorem pe_mkK0 (c : MakK X.prog X.w X.K X.mg X.base k x C sp 1 ks gV) (hr : Room j X.A) (hk : k + 1 ≤ j) (hg : Gl X x) (hkw : PK X kws tk)
    (hall : (backToKw pos (keywordEach kws X.env)).all (·.1.isSome) = true := by rfl) (hks : (backToKw pos (keywordEach kws X.env)).filterMap (·.1) = ks := by rfl) (hdb : (x == ("__debug__" : Str)) = false := by decide)
    (hpl : ((backTo pos (starEach [] X.env)).any (·.1) || (backToKw pos (keywordEach kws X.env)).any (·.1.isNone)) = false := by rfl) :
    PE X (.Call (.Name x p) [] kws pos) (tMakeK C 0 ks.length sp gV C8.E0 tNil tk) := by
  obtain ⟨f, fd, ps, g, M, F, hm, b⟩ := c.ex
  exact pe_makeK0 M F (hr.mono hk) hg hm b C8.pass0 hkw hall hks hdb hpl
/-- x(e, .., k = v, ..) -/
theorem pe_cK (c : CalK X.prog X.w X.K X.mg X.base k x sp n ks gV) (hr : Room j X.A) (hk : k ≤ j) (hg : Gl X x) (ha : PA X (e :: es) t) (hkw : PK X kws tk)
    (hall : (backToKw pos (keywordEach kws X.env)).all (·.1.isSome) = true := by rfl) (hks : (backToKw pos (keywordEach kws X.env)).filterMap (·.1) = ks := by rfl) (hdb : (x == ("__debug__" : Str)) = false := by decide)
    (he : starEach (e :: es) X.env = (false, eval e X.env) :: starEach es X.env := by rfl) (hpl : ((backTo pos (starEach (e :: es) X.env)).any (·.1) || (backToKw pos (keywordEach kws X.env)).any (·.1.isNone)) = false := by rfl) :
    PE X (.Call (.Name x p) (e :: es) kws pos) (tCallN n ks.length sp gV C8.E0 t tk) := by
  obtain ⟨f, fd, ps, g, F, hm, hkp, b⟩ := c.ex
  exact pe_callN F (hr.mono hk) hg hm hkp b C8.pass0 ha hkw hall hks hdb he hpl
/-- e.f, a property -/
theorem pe_pr (c : Prp X.prog X.w X.K X.mg X.base k C f sp) (hr : Room j X.A) (hk : k + 1 ≤ j) (he : PE X e ta) (hab : attributeBase e f X.env (eval e X.env) = eval e X.env := by rfl) : PE X (.Attribute e f pos) (tProp C sp [] C8.E0 ta) := by
  obtain ⟨p, g, fd, ps, cl, hp, F, b⟩ := c.ex
  exact pe_prop he cl hp F (hr.mono hk) b .nil C8.pass0 hab
/-- e, locked behind its making: a thing of its own that is walked -/
def tLocked (te : TE) : TE := fun σ H Q => te σ H fun x H1 => ∃ d u, x = .ref d ∧ H1 d = some u ∧ Mut (some u) ∧ ∀ od, Q x (upd H1 d (.frz od u))
theorem pe_locked (he : PE X e ta) : PE X e (tLocked ta) := by
  refine ⟨fun pins s σ H Q I h => thn (he.run pins s σ H _ I h) fun v s1 ⟨x, H1, I1, r, d, u, ex, hd, mu, q⟩ => ?_⟩
  obtain ⟨od, I2⟩ := I1.lock hd mu
  exact ⟨x, _, I2, r, q od⟩
end
end Fk

set_option maxHeartbeats 4000000
/-! sorted(set(xs)), xs a list of texts. -/
namespace Fk
open PySem PySem.Spec PyProof.Rows L2 PySem.Froz

/-- what walking over the set asks of its table -/
def Pl (w : World) (t : SetTable) : Prop := Ris t.place.toList ∧ (w.params.followText "set-order" = true ∨ t.led = true)
theorem pl_add {w : World} {D : SD} {h : Int} {v : Value} (p : Pl w D.2.2) : Pl w (addTx h v D).2.2 := by
  obtain ⟨es, ep, t⟩ := D
  have p1 : Pl w (layNew t es h v).2.1 := ⟨layNew_ris t es h v p.1, p.2.imp id fun z => by rw [layNew_led t es h v]; exact z⟩
  have p2 : Pl w (if (layNew t es h v).2.1.plain = true then { (layNew t es h v).2.1 with plain := false } else (layNew t es h v).2.1) := by
    split <;> exact p1
  show Pl w (tailTx ep (layNew t es h v).1 (if (layNew t es h v).2.1.plain = true then { (layNew t es h v).2.1 with plain := false } else (layNew t es h v).2.1) (layNew t es h v).2.2.1).2.2
  generalize (if (layNew t es h v).2.1.plain = true then { (layNew t es h v).2.1 with plain := false } else (layNew t es h v).2.1) = t2 at p2 ⊢
  unfold tailTx
  split
  · exact ⟨relayAll_ris _ _ _, p2.2.imp id fun z => by rw [relayAll_led]; exact z⟩
  · exact p2
theorem perm_add (h : Int) (v : Value) (D : SD) : (addTx h v D).1.toList.Perm (D.1.toList ++ [(h, v)]) := by
  obtain ⟨es, ep, t⟩ := D
  have pm := layNew_perm t es h v
  rw [Array.toList_push] at pm
  show (tailTx ep (layNew t es h v).1 (if (layNew t es h v).2.1.plain = true then { (layNew t es h v).2.1 with plain := false } else (layNew t es h v).2.1) (layNew t es h v).2.2.1).1.toList.Perm _
  generalize (if (layNew t es h v).2.1.plain = true then { (layNew t es h v).2.1 with plain := false } else (layNew t es h v).2.1) = t2
  unfold tailTx
  split
  · exact (relayAll_perm _ _ _).trans pm
  · exact pm
def strOf : Value → Str
  | .str k _ => k
  | _ => Str.empty
/-- the set at a holds the texts l -/
structure TxR (P : Program) (w : World) (h : Heap) (a : Addr) (l : List Str) : Prop where
  ob : ∃ D : SD, h.get? a = some (sObj "set" D) ∧ TxOk P w D l ∧ Pl w D.2.2 ∧ (∀ e ∈ D.1.toList, ∃ k t, e.2 = Value.str k t) ∧ (D.1.toList.map fun e => strOf e.2).Perm l
  nd : l.Nodup
theorem TxR.at {P : Program} {w : World} {h h' : Heap} {a : Addr} {l : List Str} (R : TxR P w h a l) (k : ∀ o, h.get? a = some o → h'.get? a = some o) : TxR P w h' a l := by
  obtain ⟨⟨D, ho, r⟩, nd⟩ := R
  exact ⟨⟨D, k _ ho, r⟩, nd⟩
theorem txr_new {P : Program} {w : World} {h : Heap} {a : Addr} (ho : h.get? a = some { cls := .type "set", dict := none, data := .set #[] 0 (.fresh 0 0 (!w.params.followText "set-order")) }) : TxR P w h a [] := by
  refine ⟨⟨(#[], 0, .fresh 0 0 (!w.params.followText "set-order")), ho, TxOk.nil (by rfl), ⟨List.Pairwise.nil, ?_⟩, fun e he => by simp at he, by simp⟩, .nil⟩
  show _ ∨ (!w.params.followText "set-order") = true
  cases w.params.followText "set-order"
  · exact .inr rfl
  · exact .inl rfl
section
variable {P : Program} {w : World} {A : Around} {E : Value → Shared → Prop} {s : Shared}
theorem txr_same {a : Addr} {l : List Str} {k : Str} {u : Tok} {Q : Bool → Shared → Prop} (R : TxR P w s.heap a l) (hk : k ∈ l) (hb : l.length < scanBound) (h : Q false s) :
    wpAny (model P w) A (setAddHashed a (.str k u) ((strKind P w).hash k)) Q E s := by
  obtain ⟨⟨⟨es, ep, t⟩, ho, F, _⟩, _⟩ := R
  have hd : (sObj "set" (es, ep, t)).data = .set es ep t := rfl
  have hf : t.fits es.size = true := F.fit
  have hel : ElemsOf (strKind P w) es.toList := F.el
  have hsz : es.size = l.length := F.sz
  have hkey : (strKind P w).is k (.str k u) = true := is_str k u
  unfold setAddHashed setAddHashedIn
  refine wpAny_holding (wpAny_bind (wpAny_setState_of ho hd hf ?_))
  dsimp only
  rw [byScan_of rfl (by omega) hel]
  simp only [↓reduceIte]
  unfold setAddByScan
  refine wpAny_bind ?_
  refine wpAny_bind (wpAny_rule ?_)
  refine wpAny_bind (wpAny_setScan_of (knd := strKind P w) (k := k) hkey ho hd hf hel ?_)
  cases hr : List.findIdx? (fun e => (strKind P w).is k e.2) es.toList with
  | none =>
    obtain ⟨e, he, q⟩ := (F.mem k).mp hk
    have c := List.findIdx?_eq_none_iff.mp hr e he
    rw [q] at c
    cases c
  | some j =>
    dsimp only
    exact wpAny_pure (wpAny_pure h)
theorem txr_add {a : Addr} {l : List Str} {k : Str} {u : Tok} {Q : Bool → Shared → Prop} (R : TxR P w s.heap a l) (hb : l.length + 1 < scanBound)
    (h : ∀ (b : Bool) h', Heap.SameBut a s.heap h' → TxR P w h' a (if k ∈ l then l else k :: l) → Q b { s with heap := h' }) :
    wpAny (model P w) A (setAddHashed a (.str k u) ((strKind P w).hash k)) Q E s := by
  by_cases hk : k ∈ l
  · rw [if_pos hk] at h
    exact txr_same R hk (by omega) (h false s.heap (Heap.SameBut.refl a s.heap) R)
  · rw [if_neg hk] at h
    obtain ⟨⟨D, ho, F, p, st, pm⟩, nd⟩ := R
    refine add_x ho F hk hb (h true _ ?_ ⟨⟨_, get_upd _ ho rfl, add_ok u F, pl_add p, fun e he => ?_, ?_⟩, List.nodup_cons.mpr ⟨hk, nd⟩⟩)
    · exact Heap.SameBut.update _ _ _
    · rcases List.mem_append.mp ((perm_add _ _ D).mem_iff.mp he) with z | z
      · exact st e z
      · rw [List.mem_singleton] at z
        exact ⟨k, u, by rw [z]⟩
    · refine ((perm_add _ _ D).map fun e => strOf e.2).trans ?_
      rw [List.map_append]
      exact (List.perm_append_comm).trans (pm.cons k)

theorem set_update_strs {I : Addr} {fp wr : List Addr} {G : Array GenState → Array GenState → Prop} {n : Nat} {Pv : Nat → Value → Prop} {St : Nat → Shared → Prop} {R : Result → Shared → Prop}
    (W : WalksS P w A.in1 I fp wr G n Pv St) (S : Addr) (hSf : S ∉ fp) (ks : List Str) (hn : n = ks.length) (hb : ks.length + 1 < scanBound) (hval : ∀ i v, Pv i v → ∃ k t, ks[i]? = some k ∧ v = .str k t) :
    ∀ (m i : Nat) (s : Shared), n - i = m → i ≤ n → St i s → (∃ l, l.length ≤ i ∧ (∀ k, k ∈ l ↔ k ∈ ks.take i) ∧ TxR P w s.heap S l) →
      (∀ s' l, Moved (S :: wr) G s s' → l.length ≤ n → (∀ k, k ∈ l ↔ k ∈ ks) → TxR P w s'.heap S l → R (.ok (.ret .none)) s') →
      codeAny (model P w) A (.builtin "set.update.loop" ⟨[.ref S, .ref I], []⟩) R s := by
  have hSw : S ∉ wr := fun h => hSf (W.sub _ h)
  have hsub : ∀ b ∈ wr, b ∈ S :: wr := fun b hb => List.mem_cons_of_mem _ hb
  intro m
  induction m with
  | zero =>
    intro i s hk' hi hst ⟨l, hc, hm0, hS⟩ hR
    have hin : i = n := by omega
    subst hin
    refine codeAny_builtin F.entry_set_update_loop ?_
    rw [Around.under_plainId F.plain_set_update_loop _]
    show wpAny _ A.in1 (pyNext (.ref I) >>= _) _ _ s
    refine wpAny_bind (W.done s _ _ hst fun s' hm => ?_)
    show wpAny _ A.in1 (ret Value.none) _ _ s'
    rw [List.take_of_length_le (by omega)] at hm0
    exact wpAny_pure (hR s' l (hm.mono hsub) hc hm0 (hS.at fun o e => hm.heap S o hSw e))
  | succ m ih =>
    intro i s hk' hi hst ⟨l, hc, hm0, hS⟩ hR
    have hlt : i < n := by omega
    refine codeAny_builtin F.entry_set_update_loop ?_
    rw [Around.under_plainId F.plain_set_update_loop _]
    show wpAny _ A.in1 (pyNext (.ref I) >>= _) _ _ s
    refine wpAny_bind (W.item i s _ _ hlt hst fun v s' hP hst' hm => ?_)
    obtain ⟨z, t, hz, rfl⟩ := hval i v hP
    have hS' : TxR P w s'.heap S l := hS.at fun o e => hm.heap S o hSw e
    show wpAny _ A.in1 (holding [Value.str z t] (setAdd S (.str z t)) >>= _) _ _ s'
    refine wpAny_bind (wpAny_holding ?_)
    unfold setAdd
    refine wpAny_holding ?_
    refine wpAny_bind ((strKind P w).pyHash (k := z) (is_str _ _) ?_)
    refine txr_add (s := { s' with toks := s'.toks + 1 }) hS' (by omega) fun _ h' hsb hS2 => ?_
    have hm2 : ∀ k, k ∈ (if z ∈ l then l else z :: l) ↔ k ∈ ks.take (i + 1) := fun k => by
      have e : ks.take (i + 1) = ks.take i ++ [z] := by
        rw [List.take_add_one, hz]; rfl
      rw [e, List.mem_append, List.mem_singleton, ← hm0 k]
      by_cases c : z ∈ l
      · rw [if_pos c]
        exact ⟨.inl, fun q => q.elim id fun q => q ▸ c⟩
      · rw [if_neg c, List.mem_cons]
        exact Or.comm
    have hc2 : (if z ∈ l then l else z :: l).length ≤ i + 1 := by
      split
      · omega
      · rw [List.length_cons]; omega
    refine wpAny_pure ⟨plainId_quiet F.plain_set_update_loop _, ih (i + 1) _ (by omega) hlt (W.frame _ s' _ _ hst' (Nat.le_succ _) fun b hb o e => ?_) ⟨_, hc2, hm2, hS2⟩ fun s'' l2 hm'' hc'' hm3 hS'' => ?_⟩
    · rw [hsb.2 b (fun h : b = S => hSf (by rw [← h]; exact hb))]; exact e
    · refine hR s'' l2 (Moved.trans W.gtrans ((hm.mono hsub).then_heap (Nat.le_succ _) fun b o hb e => ?_) hm'') hc'' hm3 hS''
      rw [hsb.2 b (fun h : b = S => hb (by rw [h]; exact List.mem_cons_self))]; exact e

theorem str_vals : ∀ {us : List Value} {ks : List Str}, StrsAre us ks → ∀ (i : Nat) (v : Value), us[i]? = some v → ∃ k t, ks[i]? = some k ∧ v = .str k t
  | _, _, .nil, i, v, h => by simp at h
  | _, _, .cons n t hr, 0, v, h => ⟨n, t, rfl, (Option.some.inj h).symm⟩
  | _, _, .cons n t hr, i + 1, v, h => str_vals hr i v (by simpa using h)
theorem str_len : ∀ {us : List Value} {ks : List Str}, StrsAre us ks → us.length = ks.length
  | _, _, .nil => rfl
  | _, _, .cons n t hr => by rw [List.length_cons, List.length_cons, str_len hr]

set_option maxHeartbeats 6400000 in
theorem call_set_strs {l : Addr} {items : Array Value} (ks : List Str) {Q : Value → Shared → Prop} (hh : A.handled = none) (hl : s.heap.IsList l items) (hit : StrsAre items.toList ks) (hb : ks.length + 1 < scanBound)
    (h : ∀ (h' : Heap) (tk : Nat) L, TxR P w h' s.heap.objs.size L → L.length ≤ ks.length → (∀ k, k ∈ L ↔ k ∈ ks) → (∀ b o, s.heap.get? b = some o → h'.get? b = some o) → Q (.ref s.heap.objs.size) { s with heap := h', toks := tk }) :
    wpAny (model P w) A (call (.type "set") [.ref l]) Q E s := by
  have hisz : items.size = ks.length := by
    have q := str_len hit
    rw [Array.length_toList] at q
    exact q
  obtain ⟨c, tl, hmro⟩ := F.called_set.mro
  have hmade := F.called_set.made
  have hsub := F.called_set.sub
  refine wpAny_call (codeAny_of_tree ?_)
  show wpAny _ _ (callAny (.type "set") _) _ _ _
  refine wpAny_pure ⟨Code.quiet_builtin _ (by decide +kernel), codeAny_builtin F.entry_type_call ?_⟩
  rw [Around.under_plain (weight_type_call_type "set" [.ref l] []) rfl]
  have h1 := F.called_set.notType
  have h2 := F.called_set.canCreate
  have hct := F.typeCall_set_1 (.ref l)
  repeat (any_goals (first | assumption | wp_step))
  generalize hO : ({ cls := .type "set", dict := none, data := .set #[] 0 (.fresh 0 0 (!w.params.followText "set-order")) } : Obj) = O
  have hOc : O.cls = .type "set" := by rw [← hO]
  have hOf : O.isFreed = false := by rw [← hO]; rfl
  refine codeAny_mono (code_set_led1 (.ref l) (E := E) (Q₁ := fun obj s₁ => obj = .ref s.heap.objs.size ∧ s₁ = { s with heap := s.heap.push O }) ⟨rfl, by rw [hO]⟩) fun r s₁ hr => ?_
  cases r with
  | error e => exact hr
  | ok fl =>
    cases fl with
    | ret obj =>
      obtain ⟨rfl, rfl⟩ := hr
      have hS : (s.heap.push O).get? s.heap.objs.size = some O := Heap.get?_push_size _ hOf
      have hT : Shared.TypeIs { s with heap := s.heap.push O } (.ref s.heap.objs.size) "set" := ⟨_, hS, hOc⟩
      have hli := F.called_set.init.lookup
      have hbi := F.called_set.init.bind (.ref s.heap.objs.size)
      repeat (any_goals (first | assumption | wp_step))
      refine codeAny_mono (codeAny_call_builtin (R := wants (fun r s₂ => r = .none ∧ ∃ h' tk L, s₂ = { s with heap := h', toks := tk } ∧ TxR P w h' s.heap.objs.size L ∧ L.length ≤ ks.length ∧ (∀ k, k ∈ L ↔ k ∈ ks) ∧
          (∀ b o, s.heap.get? b = some o → h'.get? b = some o)) E) F.called_set.init.plain F.entry_set_init (check_set_init_1 hT ?_)) fun r₂ s₂ hr₂ => ?_
      · obtain ⟨ol, hol, hcl, nl, hdl⟩ := hl
        obtain ⟨ocls, odict, odata, oslots⟩ := ol
        simp only at hcl hdl
        subst hcl; subst hdl
        have hol' : (s.heap.push O).get? l = some { cls := .type "list", dict := odict, data := .seq items nl, slots := oslots } := Heap.get?_push_of_some _ hol
        subst hO
        have hsls := F.sub_list_set
        have hslf := F.sub_list_frozenset
        have hne : (Value.type "list" == Value.type "dict") = false := by decide
        have hl1 : (s.heap.push ({ cls := .type "set", dict := none, data := .set #[] 0 (.fresh 0 0 (!w.params.followText "set-order")) } : Obj)).IsList l items := ⟨_, hol', rfl, nl, rfl⟩
        unfold Builtin.«set.__init__» noKeywords Builtin.Frozenset.updateFrom
        generalize hPI : pyIter = PI
        wp_walk
        subst hPI
        refine wpAny_pyIter_list (s := { s with heap := s.heap.push ({ cls := .type "set", dict := none, data := .set #[] 0 (.fresh 0 0 (!w.params.followText "set-order")) } : Obj) }) hl1 ?_
        refine wpAny_bind (wpAny_runValue ?_)
        have hlS : l < s.heap.objs.size := Heap.lt_size hol
        have hh3 : A.in1.in1.in1.handled = none := by simp [hh]
        have hneI : l ≠ (s.heap.push ({ cls := .type "set", dict := none, data := .set #[] 0 (.fresh 0 0 (!w.params.followText "set-order")) } : Obj)).objs.size := by
          rw [Heap.size_push]; exact Nat.ne_of_lt (Nat.lt_succ_of_lt hlS)
        have hSf : s.heap.objs.size ∉ [(s.heap.push ({ cls := .type "set", dict := none, data := .set #[] 0 (.fresh 0 0 (!w.params.followText "set-order")) } : Obj)).objs.size, l] := by
          rw [Heap.size_push]; simp only [List.mem_cons, List.mem_singleton, List.not_mem_nil, or_false, not_or]
          exact ⟨Nat.ne_of_lt (Nat.lt_succ_self _), Nat.ne_of_gt hlS⟩
        refine set_update_strs ((Walks.list hh3 _ l hneI items).toS) s.heap.objs.size
          hSf ks hisz hb (fun i v hv => str_vals hit i v (by rw [Array.getElem?_toList]; exact hv)) (items.size - 0) 0 _ (by omega) (Nat.zero_le _)
          ⟨⟨_, Heap.get?_push_size _ rfl, rfl, rfl⟩, (hl1.push _)⟩ ⟨[], Nat.le_refl _, (fun k => by simp), txr_new (by exact Heap.get?_push_of_some _ hS)⟩ fun s' L hm hlen hmem hS' => ?_
        obtain ⟨h', g2, d', tk', os'⟩ := s'
        have eg : g2 = s.gens := hm.gens
        have ed : d' = s.drawn := hm.drawn
        have eo : os' = s.os := hm.os
        subst eg; subst ed; subst eo
        show wpAny _ _ _ _ _ _
        refine wpAny_pure ?_
        show wpAny _ _ (ret Value.none) _ _ _
        refine wpAny_pure ⟨rfl, h', tk', L, rfl, hS', by omega, hmem, fun b o e => ?_⟩
        have hb0 : b < s.heap.objs.size := Heap.lt_size e
        have hb2 : b ≠ (s.heap.push ({ cls := .type "set", dict := none, data := .set #[] 0 (.fresh 0 0 (!w.params.followText "set-order")) } : Obj)).objs.size := by
          rw [Heap.size_push]; exact Nat.ne_of_lt (Nat.lt_succ_of_lt hb0)
        exact hm.heap b o (by simp only [List.mem_cons, List.mem_singleton, List.not_mem_nil, or_false, not_or]; exact ⟨Nat.ne_of_lt hb0, hb2⟩) (Heap.get?_push_of_some _ (Heap.get?_push_of_some _ e))
      · cases r₂ with
        | error e => exact hr₂
        | ok fl₂ =>
          cases fl₂ with
          | ret r =>
            obtain ⟨rfl, h', tk, L, rfl, hS', hc', hm', hk'⟩ := hr₂
            repeat (any_goals (first | assumption | wp_step))
            exact h _ _ _ hS' hc' hm' hk'
          | _ => exact hr₂.elim
    | _ => exact hr.elim

theorem strs_of_vals : ∀ (vs : List Value), (∀ v ∈ vs, ∃ k t, v = Value.str k t) → StrsAre vs (vs.map strOf)
  | [], _ => .nil
  | v :: vs, h => by
    obtain ⟨k, t, rfl⟩ := h v List.mem_cons_self
    exact .cons k t (strs_of_vals vs fun u hu => h u (List.mem_cons_of_mem _ hu))
/-- sorted(the set) -/
theorem sorted_txr {a : Addr} {l : List Str} {Q : Value → Shared → Prop} (R : TxR P w s.heap a l) (hh : A.handled = none) (h64 : l.length < 64)
    (hQ : ∀ s' p (out : List Value) (c : Nat) (ys : List Str), (∀ b o, s.heap.get? b = some o → s'.heap.get? b = some o) → s'.gens = s.gens → s'.os = s.os → s.heap.objs.size ≤ p →
      s'.heap.get? p = some (seqObj "list" out.toArray c) → StrsAre out ys → ys.Perm l → sortedS ys = true → Q (.ref p) s') :
    wpAny (model P w) A (call (.builtin "sorted") [.ref a]) Q E s := by
  obtain ⟨⟨⟨es, ep, t⟩, ho, F, pl, st, pm0⟩, nd⟩ := R
  have hsz : es.size = l.length := F.sz
  refine Calls.call_function_entry PyProof.Rows.kind_sorted PyProof.Rows.plain_sorted PyProof.Rows.entry_sorted (PyProof.Rows.args_sorted1 _) ?_
  unfold Builtin.«sorted»
  refine wpAny_bind (m := checkCount "sorted" 1 1 _) (wpAny_pure ?_)
  refine wpAny_bind (collect_set (A := A.in1) hh ⟨_, ho, rfl, rfl⟩ F.fit (by show es.size < scanBound; unfold scanBound; omega) pl.1 pl.2 fun s1 vs k1 hz g1 o1 pm => ?_)
  have hvl : vs.length < 64 := by rw [pm.length_eq, List.length_map, Array.length_toList]; exact hsz ▸ h64
  have hS : StrsAre vs (vs.map strOf) := strs_of_vals vs fun v hv => by
    obtain ⟨e, he, q⟩ := List.mem_map.mp (pm.mem_iff.mp hv)
    obtain ⟨k, tk, z⟩ := st e he
    exact ⟨k, tk, by rw [← q]; exact z⟩
  have pk : (vs.map strOf).Perm l := by
    have q := pm.map strOf
    rw [List.map_map] at q
    exact q.trans pm0
  refine wpAny_bind (wpAny_newList ?_ (by rw [sizeLine_eq]; omega))
  have hoL : (s1.heap.push (seqObj "list" vs.toArray 0)).get? s1.heap.objs.size = some (seqObj "list" vs.toArray 0) := Heap.get?_push_size _ rfl
  refine wpAny_bind (wpAny_holding (wpAny_call_entry PyProof.Rows.slot_list_sort ⟨_, hoL, rfl⟩ PyProof.Rows.entry_list_sort
    (list_sort_treeK strKind_oneLt (s := { s1 with heap := s1.heap.push (seqObj "list" vs.toArray 0) }) hoL hS.keysOf (fun v₁ v₂ rest e => keyKind_strs (by rw [← e]; exact hS)) hvl fun st' hp hs => ⟨_, rfl, ?_⟩)
    (PyProof.Rows.args_list_sort _)))
  obtain ⟨ys, g1', g2, g3⟩ := sorted_out_str hS hp hs
  obtain ⟨c, hc⟩ := PyProof.Rows.sortedHeap_at (vs := vs) (out := (arrOf st').map (·.2)) hoL
  refine wpAny_pure ⟨_, rfl, hQ _ s1.heap.objs.size ((arrOf st').map (·.2)).toList c ys (fun b u e => ?_) g1 o1 hz (by rw [Array.toArray_toList]; exact hc) g1' (g2.trans pk) g3⟩
  have q := k1 b u e
  have hlt := Heap.lt_size q
  show (sortedHeap (s1.heap.push (seqObj "list" vs.toArray 0)) s1.heap.objs.size vs _).get? b = some u
  rw [PyProof.Rows.sortedHeap_old (Nat.ne_of_lt hlt) (by rw [size_push']; exact Nat.lt_succ_of_lt hlt)]
  exact Heap.get?_push_of_some _ q
end
section
variable {X : Cx}
/-- sorted(set(xs)), xs a list of fewer than 64 texts -/
def tSortSetS (K : PySem.W.Frag) (ta : TE) : TE := fun σ H Q => ta σ H fun x H1 => ∃ (l : Addr) (xs : List Str), x = .ref l ∧ SqL K H1 l (xs.map V.str) ∧ xs.length < 64 ∧
  ∀ ys p, ys.Nodup → (∀ k, k ∈ ys ↔ k ∈ xs) → sortedS ys = true → ys.length ≤ xs.length → H1 p = none → Q (.ref p) (upd H1 p (.lst (ys.map V.str)))
theorem pe_sortSetS {a : Expr} {ta : TE} {p p2 q pos : Pos} (hc : X.calm = true) (hg : Gl X "sorted") (hm : X.mg "sorted" = none) (hg2 : Gl X "set") (hm2 : X.mg "set" = none) (ha : PE X a ta)
    (na : starEach [a] X.env = (false, eval a X.env) :: starEach [] X.env := by rfl) : PE X (.Call (.Name "sorted" p) [.Call (.Name "set" p2) [a] [] q] [] pos) (tSortSetS X.K ta) := by
  refine ⟨fun pins s σ H Q I h => ?_⟩
  refine Call_ (ld_blt I hg hm boot_sorted ?_)
  refine PyProof.Rows.callWith_builtin1 (PyProof.Rows.args_cons ?_ rfl) rfl rfl
  refine Call_ (ld_blt I hg2 hm2 boot_set ?_)
  refine PyProof.Rows.callWith_type1 (PyProof.Rows.args_cons (thn (ha.run pins s σ H _ I h) fun v s1 ⟨x, H1, I1, r1, q1⟩ => PyProof.Rows.args_nil ?_) na) na rfl
  obtain ⟨l, xs, rfl, hq, h1, q1⟩ := q1
  cases r1
  obtain ⟨its, r, pl, hz⟩ := I1.list hq
  refine call_set_strs xs (I1.ok.hd hc) pl.isList (by simpa using strsAre_of r) (by unfold scanBound; omega) fun h' tk L R hl hmem hk => ?_
  refine PyProof.Rows.args_nil ?_
  obtain ⟨s2, e2⟩ : ∃ s2 : Shared, s2 = { s1 with heap := h', toks := tk } := ⟨_, rfl⟩
  rw [← e2]
  have I2 : Inv X pins σ H1 s2 := by rw [e2]; exact I1.kept fun b o e => hk b o e
  have R2 : TxR X.prog X.w s2.heap s1.heap.objs.size L := by rw [e2]; exact R
  refine sorted_txr R2 (I2.ok.hd hc) (by omega) fun s' p out c ys k g o hp hgp hs pm hsort => ?_
  have hlen : (ys.map V.str).length ≤ sizeLine := by rw [List.length_map, pm.length_eq, sizeLine_eq]; omega
  have hn : H1 p = none := I2.hok.fresh hp
  have J : Inv X pins σ (upd H1 p (.lst (ys.map V.str))) { s2 with heap := s'.heap, gens := s'.gens, drawn := s'.drawn, toks := s'.toks } :=
    I2.call (ch := []) (Un.laid k hp hn) (I2.hok.laid k hp ⟨hlen, out, c, vals_of_strs hs, hgp⟩) (by rw [g]; exact I2.bare) (fun _ z => nomatch z)
  have e : s' = { s2 with heap := s'.heap, gens := s'.gens, drawn := s'.drawn, toks := s'.toks } := by
    obtain ⟨h3, g3, d3, t3, o3⟩ := s'
    have eo : o3 = s2.os := o
    subst eo
    rfl
  rw [e]
  exact ⟨.ref p, _, J, rfl, q1 ys p (pm.nodup_iff.mpr R.nd) (fun k => by rw [pm.mem_iff, hmem k]) hsort (by rw [pm.length_eq]; exact hl) hn⟩
end
end Fk

set_option maxHeartbeats 4000000
/-! len(set(t)) of a tuple of texts. -/
namespace Fk
open PySem PySem.Spec PyProof.Rows L2 PySem.Froz
section
variable {P : Program} {w : World} {A : Around} {E : Value → Shared → Prop} {s : Shared}
set_option maxHeartbeats 6400000 in
theorem call_set_strsT {l : Addr} {items : Array Value} (ks : List Str) {Q : Value → Shared → Prop} (hh : A.handled = none) (hl : s.heap.IsTuple l items) (hit : StrsAre items.toList ks) (hb : ks.length + 1 < scanBound)
    (h : ∀ (h' : Heap) (tk : Nat) L, TxR P w h' s.heap.objs.size L → L.length ≤ ks.length → (∀ k, k ∈ L ↔ k ∈ ks) → (∀ b o, s.heap.get? b = some o → h'.get? b = some o) → Q (.ref s.heap.objs.size) { s with heap := h', toks := tk }) :
    wpAny (model P w) A (call (.type "set") [.ref l]) Q E s := by
  have hisz : items.size = ks.length := by
    have q := str_len hit
    rw [Array.length_toList] at q
    exact q
  obtain ⟨c, tl, hmro⟩ := F.called_set.mro
  have hmade := F.called_set.made
  have hsub := F.called_set.sub
  refine wpAny_call (codeAny_of_tree ?_)
  show wpAny _ _ (callAny (.type "set") _) _ _ _
  refine wpAny_pure ⟨Code.quiet_builtin _ (by decide +kernel), codeAny_builtin F.entry_type_call ?_⟩
  rw [Around.under_plain (weight_type_call_type "set" [.ref l] []) rfl]
  have h1 := F.called_set.notType
  have h2 := F.called_set.canCreate
  have hct := F.typeCall_set_1 (.ref l)
  repeat (any_goals (first | assumption | wp_step))
  generalize hO : ({ cls := .type "set", dict := none, data := .set #[] 0 (.fresh 0 0 (!w.params.followText "set-order")) } : Obj) = O
  have hOc : O.cls = .type "set" := by rw [← hO]
  have hOf : O.isFreed = false := by rw [← hO]; rfl
  refine codeAny_mono (code_set_led1 (.ref l) (E := E) (Q₁ := fun obj s₁ => obj = .ref s.heap.objs.size ∧ s₁ = { s with heap := s.heap.push O }) ⟨rfl, by rw [hO]⟩) fun r s₁ hr => ?_
  cases r with
  | error e => exact hr
  | ok fl =>
    cases fl with
    | ret obj =>
      obtain ⟨rfl, rfl⟩ := hr
      have hS : (s.heap.push O).get? s.heap.objs.size = some O := Heap.get?_push_size _ hOf
      have hT : Shared.TypeIs { s with heap := s.heap.push O } (.ref s.heap.objs.size) "set" := ⟨_, hS, hOc⟩
      have hli := F.called_set.init.lookup
      have hbi := F.called_set.init.bind (.ref s.heap.objs.size)
      repeat (any_goals (first | assumption | wp_step))
      refine codeAny_mono (codeAny_call_builtin (R := wants (fun r s₂ => r = .none ∧ ∃ h' tk L, s₂ = { s with heap := h', toks := tk } ∧ TxR P w h' s.heap.objs.size L ∧ L.length ≤ ks.length ∧ (∀ k, k ∈ L ↔ k ∈ ks) ∧
          (∀ b o, s.heap.get? b = some o → h'.get? b = some o)) E) F.called_set.init.plain F.entry_set_init (check_set_init_1 hT ?_)) fun r₂ s₂ hr₂ => ?_
      · obtain ⟨ol, hol, hcl, nl, hdl⟩ := hl
        obtain ⟨ocls, odict, odata, oslots⟩ := ol
        simp only at hcl hdl
        subst hcl; subst hdl
        have hol' : (s.heap.push O).get? l = some { cls := .type "tuple", dict := odict, data := .seq items nl, slots := oslots } := Heap.get?_push_of_some _ hol
        subst hO
        have hsls := F.sub_tuple_set
        have hslf := F.sub_tuple_frozenset
        have hne : (Value.type "tuple" == Value.type "dict") = false := by decide
        have hl1 : (s.heap.push ({ cls := .type "set", dict := none, data := .set #[] 0 (.fresh 0 0 (!w.params.followText "set-order")) } : Obj)).IsTuple l items := ⟨_, hol', rfl, nl, rfl⟩
        unfold Builtin.«set.__init__» noKeywords Builtin.Frozenset.updateFrom
        generalize hPI : pyIter = PI
        wp_walk
        subst hPI
        refine wpAny_pyIter_tuple (s := { s with heap := s.heap.push ({ cls := .type "set", dict := none, data := .set #[] 0 (.fresh 0 0 (!w.params.followText "set-order")) } : Obj) }) hl1 ?_
        refine wpAny_bind (wpAny_runValue ?_)
        have hlS : l < s.heap.objs.size := Heap.lt_size hol
        have hh3 : A.in1.in1.in1.handled = none := by simp [hh]
        have hneI : l ≠ (s.heap.push ({ cls := .type "set", dict := none, data := .set #[] 0 (.fresh 0 0 (!w.params.followText "set-order")) } : Obj)).objs.size := by
          rw [Heap.size_push]; exact Nat.ne_of_lt (Nat.lt_succ_of_lt hlS)
        have hSf : s.heap.objs.size ∉ [(s.heap.push ({ cls := .type "set", dict := none, data := .set #[] 0 (.fresh 0 0 (!w.params.followText "set-order")) } : Obj)).objs.size, l] := by
          rw [Heap.size_push]; simp only [List.mem_cons, List.mem_singleton, List.not_mem_nil, or_false, not_or]
          exact ⟨Nat.ne_of_lt (Nat.lt_succ_self _), Nat.ne_of_gt hlS⟩
        refine set_update_strs ((Walks.tuple hh3 _ l hneI items).toS) s.heap.objs.size
          hSf ks hisz hb (fun i v hv => str_vals hit i v (by rw [Array.getElem?_toList]; exact hv)) (items.size - 0) 0 _ (by omega) (Nat.zero_le _)
          ⟨⟨_, Heap.get?_push_size _ rfl, rfl, rfl⟩, (hl1.push _)⟩ ⟨[], Nat.le_refl _, (fun k => by simp), txr_new (by exact Heap.get?_push_of_some _ hS)⟩ fun s' L hm hlen hmem hS' => ?_
        obtain ⟨h', g2, d', tk', os'⟩ := s'
        have eg : g2 = s.gens := hm.gens
        have ed : d' = s.drawn := hm.drawn
        have eo : os' = s.os := hm.os
        subst eg; subst ed; subst eo
        show wpAny _ _ _ _ _ _
        refine wpAny_pure ?_
        show wpAny _ _ (ret Value.none) _ _ _
        refine wpAny_pure ⟨rfl, h', tk', L, rfl, hS', by omega, hmem, fun b o e => ?_⟩
        have hb0 : b < s.heap.objs.size := Heap.lt_size e
        have hb2 : b ≠ (s.heap.push ({ cls := .type "set", dict := none, data := .set #[] 0 (.fresh 0 0 (!w.params.followText "set-order")) } : Obj)).objs.size := by
          rw [Heap.size_push]; exact Nat.ne_of_lt (Nat.lt_succ_of_lt hb0)
        exact hm.heap b o (by simp only [List.mem_cons, List.mem_singleton, List.not_mem_nil, or_false, not_or]; exact ⟨Nat.ne_of_lt hb0, hb2⟩) (Heap.get?_push_of_some _ (Heap.get?_push_of_some _ e))
      · cases r₂ with
        | error e => exact hr₂
        | ok fl₂ =>
          cases fl₂ with
          | ret r =>
            obtain ⟨rfl, h', tk, L, rfl, hS', hc', hm', hk'⟩ := hr₂
            repeat (any_goals (first | assumption | wp_step))
            exact h _ _ _ hS' hc' hm' hk'
          | _ => exact hr₂.elim
    | _ => exact hr.elim

end
section
variable {X : Cx}
/-- len(set(t)), t a tuple of texts: how many different ones -/
def tLenSetT (K : PySem.W.Frag) (ta : TE) : TE := fun σ H Q => ta σ H fun x H1 => ∃ (l : Addr) (xs : List Str), x = .ref l ∧ SqT K H1 l (xs.map V.str) ∧ xs.length < 64 ∧ ∀ n : Nat, (∀ ys : List Str, ys.Nodup → (∀ k, k ∈ ys ↔ k ∈ xs) → ys.length = n → Q (.int n) H1) ∧ True
theorem pe_lenSetT {a : Expr} {ta : TE} {p p2 q pos : Pos} (hc : X.calm = true) (hg : Gl X "len") (hm : X.mg "len" = none) (hg2 : Gl X "set") (hm2 : X.mg "set" = none) (ha : PE X a ta)
    (na : starEach [a] X.env = (false, eval a X.env) :: starEach [] X.env := by rfl) : PE X (.Call (.Name "len" p) [.Call (.Name "set" p2) [a] [] q] [] pos) (tLenSetT X.K ta) := by
  refine ⟨fun pins s σ H Q I h => ?_⟩
  refine Call_ (ld_blt I hg hm boot_len ?_)
  refine PyProof.Rows.callWith_builtin1 (PyProof.Rows.args_cons ?_ rfl) rfl rfl
  refine Call_ (ld_blt I hg2 hm2 boot_set ?_)
  refine PyProof.Rows.callWith_type1 (PyProof.Rows.args_cons (thn (ha.run pins s σ H _ I h) fun v s1 ⟨x, H1, I1, r1, q1⟩ => PyProof.Rows.args_nil ?_) na) na rfl
  obtain ⟨l, xs, rfl, hq, h1, q1⟩ := q1
  cases r1
  obtain ⟨its, r, pl, hz⟩ := I1.tuple hq
  refine call_set_strsT xs (I1.ok.hd hc) pl (by simpa using strsAre_of r) (by unfold scanBound; omega) fun h' tk L R hl hmem hk => ?_
  refine PyProof.Rows.args_nil ?_
  have I2 : Inv X pins σ H1 { s1 with heap := h', toks := tk } := I1.kept fun b o e => hk b o e
  obtain ⟨⟨D, ho, F, _⟩, nd⟩ := R
  refine call_len_set ho ⟨rfl, rfl, rfl⟩ rfl F.fit (by rw [F.sz]; omega) ⟨.int L.length, H1, I2.tok _, ⟨_, by rw [F.sz]⟩, (q1 L.length).1 L nd hmem rfl⟩
end
end Fk

set_option maxHeartbeats 4000000
namespace Fk
open PySem PySem.Spec PyProof.Rows L2
def top (i : Nat) : Stmt := PySem.Challenge.pw_forkhaul_k46_one_field_alone.main.body.getD i (.Pass ⟨0, 0, 0, 0⟩)
abbrev s__wall : Stmt := top 0
theorem sc__wall : FnScope ["k"] ["k"] (C8.fnScope s__wall) := C8.fnScope_by (by decide +kernel)

abbrev s_ForkError_init : Stmt := inClass (top 2) 0
theorem sc_ForkError_init : FnScope ["self", "why"] ["self", "why"] (C8.fnScope s_ForkError_init) := C8.fnScope_by (by decide +kernel)

abbrev s_Clash_init : Stmt := inClass (top 4) 0
theorem sc_Clash_init : FnScope ["self", "name"] ["self", "name"] (C8.fnScope s_Clash_init) := C8.fnScope_by (by decide +kernel)

abbrev s_NoObject_init : Stmt := inClass (top 5) 0
theorem sc_NoObject_init : FnScope ["self", "name"] ["self", "name"] (C8.fnScope s_NoObject_init) := C8.fnScope_by (by decide +kernel)

abbrev s_is_id : Stmt := top 14
theorem sc_is_id : FnScope ["thing"] ["thing"] (C8.fnScope s_is_id) := C8.fnScope_by (by decide +kernel)

abbrev s_is_segment : Stmt := top 15
theorem sc_is_segment : FnScope ["thing"] ["thing"] (C8.fnScope s_is_segment) := C8.fnScope_by (by decide +kernel)

abbrev s_is_author : Stmt := top 16
theorem sc_is_author : FnScope ["thing"] ["thing"] (C8.fnScope s_is_author) := C8.fnScope_by (by decide +kernel)

abbrev s_is_text : Stmt := top 17
theorem sc_is_text : FnScope ["thing"] ["thing"] (C8.fnScope s_is_text) := C8.fnScope_by (by decide +kernel)

abbrev s_is_message : Stmt := top 18
theorem sc_is_message : FnScope ["thing"] ["thing"] (C8.fnScope s_is_message) := C8.fnScope_by (by decide +kernel)

abbrev s_is_time : Stmt := top 19
theorem sc_is_time : FnScope ["thing"] ["thing"] (C8.fnScope s_is_time) := C8.fnScope_by (by decide +kernel)

abbrev s_is_count : Stmt := top 20
theorem sc_is_count : FnScope ["thing"] ["thing"] (C8.fnScope s_is_count) := C8.fnScope_by (by decide +kernel)

abbrev s_are_ids : Stmt := top 21
theorem sc_are_ids : FnScope ["thing", "name"] ["thing"] (C8.fnScope s_are_ids) := C8.fnScope_by (by decide +kernel)

abbrev s_ascending : Stmt := top 22
theorem sc_ascending : FnScope ["names", "name"] ["names"] (C8.fnScope s_ascending) := C8.fnScope_by (by decide +kernel)

abbrev s__is_word : Stmt := top 23
theorem sc__is_word : FnScope ["thing", "signs"] ["thing", "signs"] (C8.fnScope s__is_word) := C8.fnScope_by (by decide +kernel)

abbrev s_is_value : Stmt := top 28
theorem sc_is_value : FnScope ["thing", "kinds", "kind", "name"] ["thing", "kinds"] (C8.fnScope s_is_value) := C8.fnScope_by (by decide +kernel)

abbrev s_Blob_init : Stmt := inClass (top 29) 0
theorem sc_Blob_init : FnScope ["self", "text"] ["self", "text"] (C8.fnScope s_Blob_init) := C8.fnScope_by (by decide +kernel)

abbrev s_Blob_eq : Stmt := inClass (top 29) 1
theorem sc_Blob_eq : FnScope ["self", "other"] ["self", "other"] (C8.fnScope s_Blob_eq) := C8.fnScope_by (by decide +kernel)

abbrev s_Blob_text : Stmt := inClass (top 29) 2
theorem sc_Blob_text : FnScope ["self"] ["self"] (C8.fnScope s_Blob_text) := C8.fnScope_by (by decide +kernel)

abbrev s_Tree_init : Stmt := inClass (top 30) 0
theorem sc_Tree_init : FnScope ["self", "entries", "segment"] ["self", "entries"] (C8.fnScope s_Tree_init) := C8.fnScope_by (by decide +kernel)

abbrev s_Tree_eq : Stmt := inClass (top 30) 1
theorem sc_Tree_eq : FnScope ["self", "other"] ["self", "other"] (C8.fnScope s_Tree_eq) := C8.fnScope_by (by decide +kernel)

abbrev s_Tree_entries : Stmt := inClass (top 30) 2
theorem sc_Tree_entries : FnScope ["self"] ["self"] (C8.fnScope s_Tree_entries) := C8.fnScope_by (by decide +kernel)

abbrev s_Commit_init : Stmt := inClass (top 31) 0
theorem sc_Commit_init : FnScope ["self", "tree", "parents", "author", "time", "message"] ["self", "tree", "parents", "author", "time", "message"] (C8.fnScope s_Commit_init) := C8.fnScope_by (by decide +kernel)

abbrev s_Commit_eq : Stmt := inClass (top 31) 1
theorem sc_Commit_eq : FnScope ["self", "other"] ["self", "other"] (C8.fnScope s_Commit_eq) := C8.fnScope_by (by decide +kernel)

abbrev s_Commit_tree : Stmt := inClass (top 31) 2
theorem sc_Commit_tree : FnScope ["self"] ["self"] (C8.fnScope s_Commit_tree) := C8.fnScope_by (by decide +kernel)

abbrev s_Commit_parents : Stmt := inClass (top 31) 3
theorem sc_Commit_parents : FnScope ["self"] ["self"] (C8.fnScope s_Commit_parents) := C8.fnScope_by (by decide +kernel)

abbrev s_Commit_author : Stmt := inClass (top 31) 4
theorem sc_Commit_author : FnScope ["self"] ["self"] (C8.fnScope s_Commit_author) := C8.fnScope_by (by decide +kernel)

abbrev s_Commit_time : Stmt := inClass (top 31) 5
theorem sc_Commit_time : FnScope ["self"] ["self"] (C8.fnScope s_Commit_time) := C8.fnScope_by (by decide +kernel)

abbrev s_Commit_message : Stmt := inClass (top 31) 6
theorem sc_Commit_message : FnScope ["self"] ["self"] (C8.fnScope s_Commit_message) := C8.fnScope_by (by decide +kernel)

abbrev s_Tag_init : Stmt := inClass (top 32) 0
theorem sc_Tag_init : FnScope ["self", "target", "label", "message"] ["self", "target", "label", "message"] (C8.fnScope s_Tag_init) := C8.fnScope_by (by decide +kernel)

abbrev s_Tag_eq : Stmt := inClass (top 32) 1
theorem sc_Tag_eq : FnScope ["self", "other"] ["self", "other"] (C8.fnScope s_Tag_eq) := C8.fnScope_by (by decide +kernel)

abbrev s_Tag_target : Stmt := inClass (top 32) 2
theorem sc_Tag_target : FnScope ["self"] ["self"] (C8.fnScope s_Tag_target) := C8.fnScope_by (by decide +kernel)

abbrev s_Tag_label : Stmt := inClass (top 32) 3
theorem sc_Tag_label : FnScope ["self"] ["self"] (C8.fnScope s_Tag_label) := C8.fnScope_by (by decide +kernel)

abbrev s_Tag_message : Stmt := inClass (top 32) 4
theorem sc_Tag_message : FnScope ["self"] ["self"] (C8.fnScope s_Tag_message) := C8.fnScope_by (by decide +kernel)

abbrev s_encode : Stmt := top 42
theorem sc_encode : FnScope ["thing", "lines", "segment", "kind", "name", "parents", "head"] ["thing"] (C8.fnScope s_encode) := C8.fnScope_by (by decide +kernel)

abbrev s_sum_of : Stmt := top 43
theorem sc_sum_of : FnScope ["data", "short", "modulus", "factor", "number", "at"] ["data", "short"] (C8.fnScope s_sum_of) := C8.fnScope_by (by decide +kernel)

abbrev s_id_of : Stmt := top 44
theorem sc_id_of : FnScope ["thing", "short"] ["thing", "short"] (C8.fnScope s_id_of) := C8.fnScope_by (by decide +kernel)

abbrev s__number_behind : Stmt := top 45
theorem sc__number_behind : FnScope ["number", "data", "factor", "rest", "byte", "whole", "steps", "a", "b", "c", "d", "e", "f", "g", "h"] ["number", "data", "factor"] (C8.fnScope s__number_behind) := C8.fnScope_by (by decide +kernel)

abbrev s_Store_init : Stmt := inClass (top 47) 0
theorem sc_Store_init : FnScope ["self", "short"] ["self", "short"] (C8.fnScope s_Store_init) := C8.fnScope_by (by decide +kernel)

abbrev s_Store_put : Stmt := inClass (top 47) 1
theorem sc_Store_put : FnScope ["self", "thing", "name"] ["self", "thing"] (C8.fnScope s_Store_put) := C8.fnScope_by (by decide +kernel)

abbrev s_Store_getitem : Stmt := inClass (top 47) 2
theorem sc_Store_getitem : FnScope ["self", "name"] ["self", "name"] (C8.fnScope s_Store_getitem) := C8.fnScope_by (by decide +kernel)

abbrev s_Store_contains : Stmt := inClass (top 47) 3
theorem sc_Store_contains : FnScope ["self", "name"] ["self", "name"] (C8.fnScope s_Store_contains) := C8.fnScope_by (by decide +kernel)

abbrev s_Store_len : Stmt := inClass (top 47) 4
theorem sc_Store_len : FnScope ["self"] ["self"] (C8.fnScope s_Store_len) := C8.fnScope_by (by decide +kernel)

abbrev s_Store_iter : Stmt := inClass (top 47) 5
theorem sc_Store_iter : FnScope ["self"] ["self"] (C8.fnScope s_Store_iter) := C8.fnScope_by (by decide +kernel)

abbrev s_Store_ids : Stmt := inClass (top 47) 6
theorem sc_Store_ids : FnScope ["self"] ["self"] (C8.fnScope s_Store_ids) := C8.fnScope_by (by decide +kernel)

abbrev s_Store_parts : Stmt := inClass (top 47) 7
theorem sc_Store_parts : FnScope ["self", "name"] ["self", "name"] (C8.fnScope s_Store_parts) := C8.fnScope_by (by decide +kernel)

abbrev s_Store_walk : Stmt := inClass (top 47) 8
theorem sc_Store_walk : FnScope ["self", "starts", "without", "cut"] ["self", "starts", "without", "cut"] (C8.fnScope s_Store_walk) := C8.fnScope_by (by decide +kernel)

abbrev s_Store_missing : Stmt := inClass (top 47) 9
theorem sc_Store_missing : FnScope ["self", "starts", "cut"] ["self", "starts", "cut"] (C8.fnScope s_Store_missing) := C8.fnScope_by (by decide +kernel)

abbrev s_Store_put_files : Stmt := inClass (top 47) 10
theorem sc_Store_put_files : FnScope ["self", "files"] ["self", "files"] (C8.fnScope s_Store_put_files) := C8.fnScope_by (by decide +kernel)

abbrev s_Store_files_of : Stmt := inClass (top 47) 11
theorem sc_Store_files_of : FnScope ["self", "name"] ["self", "name"] (C8.fnScope s_Store_files_of) := C8.fnScope_by (by decide +kernel)

abbrev s_Store_copied : Stmt := inClass (top 47) 12
theorem sc_Store_copied : FnScope ["self"] ["self"] (C8.fnScope s_Store_copied) := C8.fnScope_by (by decide +kernel)

abbrev s_Store_put_known : Stmt := inClass (top 47) 13
theorem sc_Store_put_known : FnScope ["self", "things"] ["self", "things"] (C8.fnScope s_Store_put_known) := C8.fnScope_by (by decide +kernel)

abbrev s_Store_forget : Stmt := inClass (top 47) 14
theorem sc_Store_forget : FnScope ["self", "name"] ["self", "name"] (C8.fnScope s_Store_forget) := C8.fnScope_by (by decide +kernel)

abbrev s_Store_long_id : Stmt := inClass (top 47) 15
theorem sc_Store_long_id : FnScope ["self", "name"] ["self", "name"] (C8.fnScope s_Store_long_id) := C8.fnScope_by (by decide +kernel)

abbrev s_Store_closure : Stmt := inClass (top 47) 16
theorem sc_Store_closure : FnScope ["self", "starts", "barred", "cut"] ["self", "starts", "barred", "cut"] (C8.fnScope s_Store_closure) := C8.fnScope_by (by decide +kernel)

abbrev s_Storeput_all : Stmt := inClass (top 47) 17
theorem sc_Storeput_all : FnScope ["self", "pairs"] ["self", "pairs"] (C8.fnScope s_Storeput_all) := C8.fnScope_by (by decide +kernel)

abbrev s_Storeabsent : Stmt := inClass (top 47) 18
theorem sc_Storeabsent : FnScope ["self", "names"] ["self", "names"] (C8.fnScope s_Storeabsent) := C8.fnScope_by (by decide +kernel)

abbrev s_Storetrees_below : Stmt := inClass (top 47) 19
theorem sc_Storetrees_below : FnScope ["self", "root"] ["self", "root"] (C8.fnScope s_Storetrees_below) := C8.fnScope_by (by decide +kernel)

abbrev s_l_cell_at : Stmt := top 49
theorem sc_l_cell_at : FnScope ["_law_script", "_law_k"] ["_law_script", "_law_k"] (C8.fnScope s_l_cell_at) := C8.fnScope_by (by decide +kernel)

abbrev s_l_well : Stmt := top 50
theorem sc_l_well : FnScope ["_law_cell"] ["_law_cell"] (C8.fnScope s_l_well) := C8.fnScope_by (by decide +kernel)

abbrev s_l_draw : Stmt := top 51
theorem sc_l_draw : FnScope ["_law_well_here", "_law_size", "_law_found", "_law_seed", "_law_mixed"] ["_law_well_here", "_law_size"] (C8.fnScope s_l_draw) := C8.fnScope_by (by decide +kernel)

abbrev s_l_pick : Stmt := top 52
theorem sc_l_pick : FnScope ["_law_well_here", "_law_some"] ["_law_well_here", "_law_some"] (C8.fnScope s_l_pick) := C8.fnScope_by (by decide +kernel)

abbrev s_l_word : Stmt := top 53
theorem sc_l_word : FnScope ["_law_well_here", "_law_signs", "_law_many", "_law_k"] ["_law_well_here", "_law_signs", "_law_many"] (C8.fnScope s_l_word) := C8.fnScope_by (by decide +kernel)

abbrev s_l_bent : Stmt := top 54
theorem sc_l_bent : FnScope ["_law_well_here", "_law_text", "_law_signs", "_law_at", "_law_sign"] ["_law_well_here", "_law_text", "_law_signs"] (C8.fnScope s_l_bent) := C8.fnScope_by (by decide +kernel)

abbrev s_l_hex : Stmt := top 55
theorem sc_l_hex : FnScope [] [] (C8.fnScope s_l_hex) := C8.fnScope_by (by decide +kernel)

abbrev s_l_small : Stmt := top 56
theorem sc_l_small : FnScope [] [] (C8.fnScope s_l_small) := C8.fnScope_by (by decide +kernel)

abbrev s_l_trees : Stmt := top 57
theorem sc_l_trees : FnScope ["_law_well_here", "_law_found", "_law_names", "_law_k", "_law_name", "_law_kind", "_law_target", "_law_rest_here", "_law_one", "_law_others", "_law_rows", "_law_other", "_law_sort_so", "_law_where"] ["_law_well_here"] (C8.fnScope s_l_trees) := C8.fnScope_by (by decide +kernel)

abbrev s_l_commit : Stmt := top 58
theorem sc_l_commit : FnScope ["_law_fields", "_law_tree", "_law_parents", "_law_hand", "_law_moment", "_law_words"] ["_law_fields"] (C8.fnScope s_l_commit) := C8.fnScope_by (by decide +kernel)

abbrev s_l_commits : Stmt := top 59
theorem sc_l_commits : FnScope ["_law_well_here", "_law_parents", "_law_k", "_law_tree", "_law_hand", "_law_moment", "_law_words", "_law_at", "_law_spoilt", "_law_late", "_law_base", "_law_others", "_law_other"] ["_law_well_here"] (C8.fnScope s_l_commits) := C8.fnScope_by (by decide +kernel)

abbrev s_l_rest : Stmt := top 60
theorem sc_l_rest : FnScope ["_law_well_here", "_law_text", "_law_target", "_law_tab", "_law_words", "_law_tag", "_law_rows"] ["_law_well_here"] (C8.fnScope s_l_rest) := C8.fnScope_by (by decide +kernel)

abbrev s_l_copy : Stmt := top 61
theorem sc_l_copy : FnScope ["_law_thing"] ["_law_thing"] (C8.fnScope s_l_copy) := C8.fnScope_by (by decide +kernel)

abbrev s_l_kin : Stmt := top 62
theorem sc_l_kin : FnScope ["_law_well_here", "_law_way", "_law_far", "_law_marks", "_law_k", "_law_words", "_law_mark", "_law_word_here"] ["_law_well_here"] (C8.fnScope s_l_kin) := C8.fnScope_by (by decide +kernel)

abbrev s_l_told : Stmt := top 63
theorem sc_l_told : FnScope ["_law_store", "_law_thing", "e"] ["_law_store", "_law_thing"] (C8.fnScope s_l_told) := C8.fnScope_by (by decide +kernel)

abbrev s_l_kin_right : Stmt := top 64
theorem sc_l_kin_right : FnScope ["_law_well_here", "_law_store", "_law_table", "_law_thing", "_law_name"] ["_law_well_here"] (C8.fnScope s_l_kin_right) := C8.fnScope_by (by decide +kernel)

abbrev s_law : Stmt := top 65
theorem sc_law : FnScope ["_law_script", "_law_cell", "_law_well_here", "_law_pairs", "_law_one", "_law_other"] ["_law_script"] (C8.fnScope s_law) := C8.fnScope_by (by decide +kernel)

structure Top (K : PySem.W.Frag) (mg : Str → Option Value) : Prop where
  d_is_id : IsDef K mg "is_id" s_is_id
  d_is_segment : IsDef K mg "is_segment" s_is_segment
  d_is_author : IsDef K mg "is_author" s_is_author
  d_is_text : IsDef K mg "is_text" s_is_text
  d_is_message : IsDef K mg "is_message" s_is_message
  d_is_time : IsDef K mg "is_time" s_is_time
  d_is_count : IsDef K mg "is_count" s_is_count
  d_are_ids : IsDef K mg "are_ids" s_are_ids
  d_ascending : IsDef K mg "ascending" s_ascending
  d__is_word : IsDef K mg "_is_word" s__is_word
  d_is_value : IsDef K mg "is_value" s_is_value
  d_encode : IsDef K mg "encode" s_encode
  d_sum_of : IsDef K mg "sum_of" s_sum_of
  d_id_of : IsDef K mg "id_of" s_id_of
  d__number_behind : IsDef K mg "_number_behind" s__number_behind
  d_l_cell_at : IsDef K mg "_law_cell_at" s_l_cell_at
  d_l_well : IsDef K mg "_law_well" s_l_well
  d_l_draw : IsDef K mg "_law_draw" s_l_draw
  d_l_pick : IsDef K mg "_law_pick" s_l_pick
  d_l_word : IsDef K mg "_law_word" s_l_word
  d_l_bent : IsDef K mg "_law_bent" s_l_bent
  d_l_hex : IsDef K mg "_law_hex" s_l_hex
  d_l_small : IsDef K mg "_law_small" s_l_small
  d_l_trees : IsDef K mg "_law_trees" s_l_trees
  d_l_commit : IsDef K mg "_law_commit" s_l_commit
  d_l_commits : IsDef K mg "_law_commits" s_l_commits
  d_l_rest : IsDef K mg "_law_rest" s_l_rest
  d_l_copy : IsDef K mg "_law_copy" s_l_copy
  d_l_kin : IsDef K mg "_law_kin" s_l_kin
  d_l_told : IsDef K mg "_law_told" s_l_told
  d_l_kin_right : IsDef K mg "_law_kin_right" s_l_kin_right
  d_law : IsDef K mg "law" s_law
  z_KeyError : mg "KeyError" = none
  z_TypeError : mg "TypeError" = none
  z_ValueError : mg "ValueError" = none
  z_all : mg "all" = none
  z_bool : mg "bool" = none
  z_bytes : mg "bytes" = none
  z_dict : mg "dict" = none
  z_int : mg "int" = none
  z_isinstance : mg "isinstance" = none
  z_iter : mg "iter" = none
  z_len : mg "len" = none
  z_list : mg "list" = none
  z_range : mg "range" = none
  z_set : mg "set" = none
  z_sorted : mg "sorted" = none
  z_str : mg "str" = none
  z_tuple : mg "tuple" = none
  z_zip : mg "zip" = none
  g_HEX_DIGITS : ∃ u, mg "HEX_DIGITS" = some u ∧ RelV (V.str (Str.ofString "0123456789abcdef")) u
  g_LETTERS : ∃ u, mg "LETTERS" = some u ∧ RelV (V.str (Str.ofString "abcdefghijklmnopqrstuvwxyz")) u
  g_SEGMENT_SIGNS : ∃ u, mg "SEGMENT_SIGNS" = some u ∧ RelV (V.str (Str.ofString "abcdefghijklmnopqrstuvwxyz0123456789._-")) u
  g_LONGEST_WORD : ∃ u, mg "LONGEST_WORD" = some u ∧ RelV (V.int 12) u
  g_LONGEST_TEXT : ∃ u, mg "LONGEST_TEXT" = some u ∧ RelV (V.int 2000) u
  g_LONGEST_MESSAGE : ∃ u, mg "LONGEST_MESSAGE" = some u ∧ RelV (V.int 200) u
  g_LATEST : ∃ u, mg "LATEST" = some u ∧ RelV (V.int 1000000000000) u
  g_MOST_ENTRIES : ∃ u, mg "MOST_ENTRIES" = some u ∧ RelV (V.int 30) u
  g_MOST_PARENTS : ∃ u, mg "MOST_PARENTS" = some u ∧ RelV (V.int 6) u
  g_LONG_MODULUS : ∃ u, mg "LONG_MODULUS" = some u ∧ RelV (V.int 2305843009213693951) u
  g_SHORT_MODULUS : ∃ u, mg "SHORT_MODULUS" = some u ∧ RelV (V.int 251) u
  g_FACTOR : ∃ u, mg "FACTOR" = some u ∧ RelV (V.int 1000003) u
  g_FACTOR_2 : ∃ u, mg "FACTOR_2" = some u ∧ RelV (V.int 1000006000009) u
  g_FACTOR_4 : ∃ u, mg "FACTOR_4" = some u ∧ RelV (V.int 1000012000054000108000081) u
  g_FACTOR_8 : ∃ u, mg "FACTOR_8" = some u ∧ RelV (V.int 1000024000252001512005670013608020412017496006561) u
  g_ONES_8 : ∃ u, mg "ONES_8" = some u ∧ RelV (V.int 1000022000208001096003478006652007108003280) u
  g_BLOCK : ∃ u, mg "BLOCK" = some u ∧ RelV (V.int 256) u
section
variable {P : Program} {w : World} {K : PySem.W.Frag} {mg : Str → Option Value} {base : Heap}
def spIsWord : Sp := fun vs H Q _ => ∃ (v : V) (y : Str), vs = [v, .str y] ∧ Thing H v ∧ ∀ H', Same H H' → Q (.bl (evalV (isWordF y) v)) H'
theorem c__is_word (T : Top K mg) : C8.Cal P w K mg base 2 "_is_word" spIsWord [] := by
  refine cal_of T.d__is_word sc__is_word (fun _ _ _ _ _ _ us hl => match us, hl with | [_, _], _ => rfl) (fun vs H Q E h => ?_) (fun f cdv A outer s H vs Q E hr h => ?_)
  · obtain ⟨x, y, rfl, _⟩ := h
    rfl
  · obtain ⟨v, y, rfl, t, q⟩ := h
    refine ⟨_, (pss_one (ps_ret (pe_and (pe_callB call_isi (by rfl) T.z_isinstance (by decide +kernel) (pa_cons (pv 0) (pa_cons (pe_bltn (v := .ty "str") (by rfl) T.z_str (by decide +kernel) rfl) pa_nil))) (pe_and (pe_chain op_le op_le pe_int (pe_callB call_len_str (by rfl) T.z_len (by decide +kernel) (pa_cons (pv 0) pa_nil)) (C8.pe_gc (by rfl) T.g_LONGEST_WORD)) (pe_one (pe_cmpR op_eq (pe_bm PySem.F.plainAttrs_str PySem.F.slot_str_strip PySem.F.type_str_strip mt_stripChars (pv 0) (pa_cons (pv 1) pa_nil)) pe_str (nomark _))))))), ?_⟩
    refine ⟨v, rfl, ?_⟩
    dsimp only [tCons, tC, tNil]
    refine t.isi ?_
    refine ⟨_, rfl, ?_⟩
    rcases t.cases with ⟨x, rfl, hx, ho⟩ | hn
    · refine iteT ⟨.str x, rfl, x, rfl, small_line (by omega), _, _, rfl, rfl, _, rfl, ite2 (fun h1 => ?_) (fun h1 => ?_)⟩
      · have h1 := of_decide_eq_true h1
        refine ⟨_, _, rfl, rfl, _, rfl, ite2 (fun h2 => ?_) (fun h2 => ?_)⟩
        · have h2 := of_decide_eq_true h2
          refine ⟨.str x, rfl, rfl, .str y, rfl, x, y, rfl, rfl, small_line (by omega), rfl, of_ev (q _ (Same.refl _)) (Eq.trans ?_ (strip_none x y).symm)⟩
          unfold isWordF
          rw [decide_eq_true (by omega), decide_eq_true (by omega)]
          rfl
        · have h2 : ¬ x.length ≤ 12 := fun z => h2 (decide_eq_true (by omega))
          refine of_ev (q _ (Same.refl _)) ?_
          unfold isWordF
          rw [decide_eq_false h2, Bool.false_and, Bool.and_false]
      · have h1 : ¬ 1 ≤ x.length := fun z => h1 (decide_eq_true (by omega))
        refine ⟨_, rfl, iteF (of_ev (q _ (Same.refl _)) ?_)⟩
        unfold isWordF
        rw [decide_eq_false h1, Bool.false_and]
    · rw [hn]
      exact iteF (of_ev0 hn (q _ (Same.refl _)))
theorem evalV_split {f : Str → Bool} : evalV f = fun v => match v with | .str x => f x | _ => false := rfl
theorem c_is_id (T : Top K mg) : C8.Cal P w K mg base 2 "is_id" (spWord isIdF) [] := by
  refine cal_of T.d_is_id sc_is_id (fun _ _ _ _ _ _ us hl => match us, hl with | [_], _ => rfl) (fun vs H Q E h => ?_) (fun f cdv A outer s H vs Q E hr h => ?_)
  · obtain ⟨x, rfl, _⟩ := h
    rfl
  · obtain ⟨v, rfl, t, q⟩ := h
    refine ⟨_, (pss_one (ps_ret (pe_and (pe_callB call_isi (by rfl) T.z_isinstance (by decide +kernel) (pa_cons (pv 0) (pa_cons (pe_bltn (v := .ty "str") (by rfl) T.z_str (by decide +kernel) rfl) pa_nil))) (pe_and (pe_cmpR op_eq (pe_callB call_len_str (by rfl) T.z_len (by decide +kernel) (pa_cons (pv 0) pa_nil)) pe_int (nomark _)) (pe_one (pe_cmpR op_eq (pe_bm PySem.F.plainAttrs_str PySem.F.slot_str_strip PySem.F.type_str_strip mt_stripChars (pv 0) (pa_cons (C8.pe_gc (by rfl) T.g_HEX_DIGITS) pa_nil)) pe_str (nomark _))))))), ?_⟩
    refine ⟨v, rfl, ?_⟩
    dsimp only [tCons, tC, tNil]
    refine t.isi ?_
    refine ⟨_, rfl, ?_⟩
    rcases t.cases with ⟨x, rfl, hx, ho⟩ | hn
    · refine iteT ⟨.str x, rfl, x, rfl, small_line (by omega), rfl, _, rfl, ite2 (fun h1 => ?_) (fun h1 => ?_)⟩
      · have h1 := V.int.inj (of_decide_eq_true h1)
        refine ⟨.str x, rfl, rfl, x, HEX, rfl, rfl, small_line (by omega), rfl, of_ev (q _ (Same.refl _)) (Eq.trans ?_ (strip_none x HEX).symm)⟩
        unfold isIdF
        rw [decide_eq_true (by omega)]
        rfl
      · have h1 : ¬ x.length = 16 := fun z => h1 (decide_eq_true (by rw [z]; rfl))
        refine of_ev (q _ (Same.refl _)) ?_
        unfold isIdF
        rw [decide_eq_false h1, Bool.false_and]
    · rw [hn]
      exact iteF (of_ev0 hn (q _ (Same.refl _)))
theorem c_is_text (T : Top K mg) : C8.Cal P w K mg base 1 "is_text" (spWord isTextF) [] := by
  refine cal_ofT T.d_is_text sc_is_text (by decide +kernel) (by decide) (fun _ _ _ _ _ _ us hl => match us, hl with | [_], _ => rfl) (fun vs H Q E h => ?_) (fun f cdv A outer s H vs Q E hr h => ?_)
  · obtain ⟨x, rfl, _⟩ := h
    rfl
  · obtain ⟨v, rfl, t, q⟩ := h
    refine ⟨_, (psst_cons (PST.of (ps_if (PW.pt (pw_or (pt_not (pt_val (pe_callB call_isi (by rfl) T.z_isinstance (by decide +kernel) (pa_cons (pv 0) (pa_cons (pe_bltn (v := .ty "str") (by rfl) T.z_str (by decide +kernel) rfl) pa_nil))))) (pw_or1 (pt_cmpR op_gt (pe_callB call_len_str (by rfl) T.z_len (by decide +kernel) (pa_cons (pv 0) pa_nil)) (C8.pe_gc (by rfl) T.g_LONGEST_TEXT) (nomark _)))))
      (pss_one (ps_ret pe_bl))
      pss_nil))
      (CwR.psst_one (CwR.pst_ret (pet_and (pe_bm0 PySem.F.plainAttrs_str PySem.F.slot_str_isascii PySem.F.type_str_isascii mt_isascii (pv 0)) (pet_one (pet_bm0 PySem.F.plainAttrs_str PySem.F.slot_str_isprintable PySem.F.type_str_isprintable mt_isprintable (CwR.pet_replC (pv 0)))))))), ?_⟩
    refine ⟨v, rfl, ?_⟩
    dsimp only [tCons, tC, tNil]
    refine t.isi ?_
    refine ⟨_, rfl, ?_⟩
    rcases t.cases with ⟨x, rfl, hx, ho⟩ | hn
    · refine iteF ⟨.str x, rfl, x, rfl, small_line (by omega), _, _, rfl, rfl, _, rfl, ite2 (fun h1 => ?_) (fun h1 => ?_)⟩
      · have h1 := of_decide_eq_true h1
        refine of_ev (q _ (Same.refl _)) ?_
        unfold isTextF
        rw [decide_eq_false (by omega), Bool.false_and]
      · have h1 : x.length ≤ 2000 := by
          have : ¬ (2000 : Int) < (x.length : Nat) := fun z => h1 (decide_eq_true z)
          omega
        have key : isTextF x = plainT x := by
          unfold isTextF
          rw [decide_eq_true h1, plain_text]
          rfl
        refine ⟨.str x, rfl, rfl, x, rfl, rfl, trivial, _, rfl, ite2 (fun h2 => ?_) (fun h2 => ?_)⟩
        · refine ⟨.str x, rfl, x, rfl, by have : (Str.ofString "").length = 0 := by decide +kernel
                                          rw [this]; omega, rfl, _, rfl, rfl, trivial, of_ev (q _ (Same.refl _)) ?_⟩
          rw [key]
          unfold plainT
          rw [h2, Bool.true_and]
        · refine of_ev (q _ (Same.refl _)) ?_
          rw [key]
          unfold plainT
          rw [Bool.eq_false_iff.mpr h2, Bool.false_and]
    · rw [hn]
      exact iteT (of_ev0 hn (q _ (Same.refl _)))
def spMsg : Sp := fun vs H Q _ => ∃ x : Str, vs = [.str x] ∧ isTextF x = true ∧ x.length ≤ 200 ∧ ∀ H', Same H H' → Q (.bl true) H'
theorem c_is_message (T : Top K mg) : C8.Cal P w K mg base 2 "is_message" spMsg [] := by
  refine cal_of T.d_is_message sc_is_message (fun _ _ _ _ _ _ us hl => match us, hl with | [_], _ => rfl) (fun vs H Q E h => ?_) (fun f cdv A outer s H vs Q E hr h => ?_)
  · obtain ⟨x, rfl, _⟩ := h
    rfl
  · obtain ⟨x, rfl, ht, hl, q⟩ := h
    refine ⟨_, (pss_one (ps_ret (pe_and (C8.pe_c (c_is_text T) hr (by decide) (by rfl) (pa_cons (pv 0) pa_nil)) (pe_one (pe_cmpR op_le (pe_callB call_len_str (by rfl) T.z_len (by decide +kernel) (pa_cons (pv 0) pa_nil)) (C8.pe_gc (by rfl) T.g_LONGEST_MESSAGE) (nomark _)))))), ?_⟩
    refine ⟨.str x, rfl, .str x, rfl, .str x (by omega) (ok_text ht), fun H1 s1 => ⟨_, rfl, ?_⟩⟩
    rw [show evalV isTextF (.str x) = true from ht]
    refine iteT ⟨.str x, rfl, x, rfl, small_line (by omega), _, _, rfl, rfl, ?_⟩
    show Q (.bl (decide ((x.length : Int) ≤ 200))) H1
    rw [decide_eq_true (by omega)]
    exact q H1 s1
theorem isi_int {n : Int} {C : String} {b : Bool} {Q : VK} {H : Hp} (hk : (PySem.W.kitOne K (.type "int") (.type C)) = some b) (k : Q (.bl b) H) : rIsi K [.int n, .ty C] H Q :=
  ⟨_, _, .type "int", .type C, b, rfl, .ty C, .base (.int n), hk, k⟩
def spAsc : Sp := fun vs H Q _ => ∃ (a : Addr) (t : Tab), vs = [.ref a] ∧ H a = some (.dK (kT t)) ∧ t.length < 64 ∧ ∀ (ys : List Str) (p : Addr) (H' : Hp), ys.Perm (t.map (·.1)) → sortedS ys = true → H p = none → Same H H' → H' p = some (.tup (ys.map V.str)) → Q (.ref p) H'
theorem c_ascending (T : Top K mg) : C8.Cal P w K mg base 1 "ascending" spAsc [] := by
  refine cal_of T.d_ascending sc_ascending (fun _ _ _ _ _ _ us hl => match us, hl with | [_], _ => rfl) (fun vs H Q E h => ?_) (fun f cdv A outer s H vs Q E hr h => ?_)
  · obtain ⟨a, t, rfl, _⟩ := h
    rfl
  · obtain ⟨a, t, rfl, ha, hl, q⟩ := h
    refine ⟨_, (pss_one (ps_ret (pe_callTy call_tuple_of (by rfl) T.z_tuple (by decide +kernel) (pa_cons (pe_callB (cr_sortedS) (by rfl) T.z_sorted (by decide +kernel) (pa_cons (pe_lock (pe_lc (own := [("name", 1)]) (g := gName 1) (by rfl) sc_ascending.nd (pi_keys (pv 0)) (blkOk_by (own := [("name", 1)]) (N := ["names", "name"]) (sc := C8.fnScope s_ascending) (by decide +kernel)) (fun _ _ _ _ _ => (pg_name (i := 1) sc_ascending.nd rfl (Or.inl rfl))) (fun _ _ _ _ _ => pts_nil) (fun _ _ _ _ _ => (pe_callTy SkE.call_str_str (by rfl) T.z_str (by decide +kernel) (pa_cons (pv 1) pa_nil))))) pa_nil)) pa_nil)))), ?_⟩
    refine ⟨a, _, ha, trivial, fun od => ⟨.ref a, rfl, a, od, rfl, .inl ⟨kT t, upd_same, fun D hD => ?_⟩⟩⟩
    have na : D ≠ a := fun z => by
      rw [z, upd_same] at hD
      cases hD
    have Y : Yields (Itk a od (kT t)) ((t.map (·.1)).map V.str) (fun H => H a = some (.frz od (.dK (kT t)))) := by
      rw [← kV_kT]
      exact yields_keys
    refine lc_pure (i := 1) (us := t.map (·.1)) (g := V.str) Y V.str (fun _ => true) hD (fun H s => s _ _ upd_same) (fun H u _ hu R r => r H (Same.refl H))
      (fun H u _ hu _ R r => ⟨_, rfl, u, rfl, r H (Same.refl H)⟩) (by rw [List.length_map]; omega) (fun H2 s2 h2 => ?_)
    rw [filt_all] at h2
    have sm : Same H (upd H2 a (.dK (kT t))) := fun b o e => by
      by_cases hb : b = a
      · rw [hb, upd_same, ← ha, ← hb, e]
      · rw [upd_ne hb]
        exact s2 _ _ (by rw [upd_ne hb]; exact e)
    have hD' : H D = none := by rw [upd_ne na] at hD; exact hD
    refine ⟨s2 _ _ upd_same, D, t.map (·.1), rfl, .inl (.inl ?_), by rw [List.length_map]; exact hl, fun ys p hp hs hn => ?_⟩
    · rw [upd_ne na]
      exact h2
    · refine ⟨p, _, rfl, .inl ⟨.inl (.inl upd_same), fun l hl => ?_⟩⟩
      have np : H p = none := sm.free hn
      have nl : H l = none := (sm.trans (same_new hn)).free hl
      exact q ys l _ hp hs nl ((sm.trans (same_new hn)).trans (same_new hl)) upd_same
theorem c_is_segment (T : Top K mg) : C8.Cal P w K mg base 3 "is_segment" (spWord isSegF) [] := by
  refine cal_of T.d_is_segment sc_is_segment (fun _ _ _ _ _ _ us hl => match us, hl with | [_], _ => rfl) (fun vs H Q E h => ?_) (fun f cdv A outer s H vs Q E hr h => ?_)
  · obtain ⟨x, rfl, _⟩ := h
    rfl
  · obtain ⟨v, rfl, t, q⟩ := h
    refine ⟨_, (pss_one (ps_ret (pe_and (C8.pe_c (c__is_word T) hr (by decide) (by rfl) (pa_cons (pv 0) (pa_cons (C8.pe_gc (by rfl) T.g_SEGMENT_SIGNS) pa_nil))) (pe_and (pe_cmpR op_ne (pv 0) pe_str (nomark _)) (pe_one (pe_cmpR op_notin_str pe_str (pv 0) rfl)))))), ?_⟩
    refine ⟨v, rfl, v, SSG, rfl, t, fun H1 s1 => ⟨_, rfl, ?_⟩⟩
    rcases t.cases with ⟨x, rfl, hx, ho⟩ | hn
    · refine ite2 (fun h1 => ?_) (fun h1 => ?_)
      · have h1 : isWordF SSG x = true := h1
        refine ⟨.str x, rfl, rfl, _, rfl, ite2 (fun h2 => ?_) (fun h2 => ?_)⟩
        · refine ⟨.str x, rfl, _, x, rfl, rfl, of_ev (q _ s1) ?_⟩
          have h2 : ¬ x = "." := fun z => by
            rw [z] at h2
            simp at h2
          unfold isSegF
          rw [h1, decide_eq_false h2]
          rfl
        · refine of_ev (q _ s1) ?_
          have h2 : x = "." := Decidable.byContradiction fun z => h2 (by rw [decide_eq_false (fun e => z (V.str.inj e))]; rfl)
          unfold isSegF
          rw [decide_eq_true h2]
          simp
      · have h1 : isWordF SSG x = false := Bool.eq_false_iff.mpr h1
        refine of_ev (q _ s1) ?_
        unfold isSegF
        rw [h1, Bool.false_and]
    · rw [hn]
      exact iteF (of_ev0 hn (q _ s1))
theorem c_is_author (T : Top K mg) : C8.Cal P w K mg base 3 "is_author" (spWord (isWordF LET)) [] := by
  refine cal_of T.d_is_author sc_is_author (fun _ _ _ _ _ _ us hl => match us, hl with | [_], _ => rfl) (fun vs H Q E h => ?_) (fun f cdv A outer s H vs Q E hr h => ?_)
  · obtain ⟨x, rfl, _⟩ := h
    rfl
  · obtain ⟨v, rfl, t, q⟩ := h
    refine ⟨_, (pss_one (ps_ret (C8.pe_c (c__is_word T) hr (by decide) (by rfl) (pa_cons (pv 0) (pa_cons (C8.pe_gc (by rfl) T.g_LETTERS) pa_nil))))), ?_⟩
    exact ⟨v, rfl, v, LET, rfl, t, q⟩
def spTimeN : Sp := fun vs H Q _ => ∃ n : Int, vs = [.int n] ∧ 0 ≤ n ∧ n ≤ 1000000000000 ∧ ∀ H', Same H H' → Q (.bl true) H'
theorem c_is_count (T : Top K mg) : C8.Cal P w K mg base 1 "is_count" spTimeN [] := by
  refine cal_of T.d_is_count sc_is_count (fun _ _ _ _ _ _ us hl => match us, hl with | [_], _ => rfl) (fun vs H Q E h => ?_) (fun f cdv A outer s H vs Q E hr h => ?_)
  · obtain ⟨x, rfl, _⟩ := h
    rfl
  · obtain ⟨n, rfl, h0, h1, q⟩ := h
    refine ⟨_, (pss_one (ps_ret (pe_and (pe_callB call_isi (by rfl) T.z_isinstance (by decide +kernel) (pa_cons (pv 0) (pa_cons (pe_bltn (v := .ty "int") (by rfl) T.z_int (by decide +kernel) rfl) pa_nil))) (pe_and (pe_not (pe_callB call_isi (by rfl) T.z_isinstance (by decide +kernel) (pa_cons (pv 0) (pa_cons (pe_bltn (v := .ty "bool") (by rfl) T.z_bool (by decide +kernel) rfl) pa_nil)))) (pe_one (pe_cmpR op_ge (pv 0) pe_int (nomark _))))))), ?_⟩
    refine ⟨.int n, rfl, ?_⟩
    dsimp only [tCons, tC, tNil]
    refine isi_int (b := true) (kit_ty (by decide +kernel)) ⟨_, rfl, iteT ?_⟩
    refine ⟨.int n, rfl, ?_⟩
    dsimp only [tCons, tC, tNil]
    refine isi_int (b := false) (kit_ty (by decide +kernel)) ⟨_, rfl, _, rfl, iteT ⟨_, rfl, _, _, rfl, rfl, ?_⟩⟩
    show Q (.bl (decide (0 ≤ n))) H
    rw [decide_eq_true h0]
    exact q H (Same.refl H)
theorem c_is_time (T : Top K mg) : C8.Cal P w K mg base 2 "is_time" spTimeN [] := by
  refine cal_of T.d_is_time sc_is_time (fun _ _ _ _ _ _ us hl => match us, hl with | [_], _ => rfl) (fun vs H Q E h => ?_) (fun f cdv A outer s H vs Q E hr h => ?_)
  · obtain ⟨x, rfl, _⟩ := h
    rfl
  · obtain ⟨n, rfl, h0, h1, q⟩ := h
    refine ⟨_, (pss_one (ps_ret (pe_and (C8.pe_c (c_is_count T) hr (by decide) (by rfl) (pa_cons (pv 0) pa_nil)) (pe_one (pe_cmpR op_le (pv 0) (C8.pe_gc (by rfl) T.g_LATEST) (nomark _)))))), ?_⟩
    refine ⟨.int n, rfl, n, rfl, h0, h1, fun H1 s1 => ⟨_, rfl, iteT ⟨_, rfl, _, _, rfl, rfl, ?_⟩⟩⟩
    show Q (.bl (decide (n ≤ 1000000000000))) H1
    rw [decide_eq_true (by omega)]
    exact q H1 s1
theorem isi_tup {H : Hp} {p : Addr} {xs : List V} {Q : VK} (h : TupK K H p xs) (k : Q (.bl true) H) : rIsi K [.ref p, .ty "tuple"] H Q := by
  rcases h with e | ⟨o, its, n, lk, c, _⟩
  · exact ⟨_, _, .type "tuple", .type "tuple", true, rfl, .ty "tuple", .base (.tup e), kit_ty (by decide +kernel), k⟩
  · exact ⟨_, _, .type "tuple", .type "tuple", true, rfl, .ty "tuple", .kTuple lk c, kit_ty (by decide +kernel), k⟩
def spAreIds (K : PySem.W.Frag) : Sp := fun vs H Q _ => ∃ (p : Addr) (ps : List Str), vs = [.ref p] ∧ TupK K H p (ps.map V.str) ∧ ps.length ≤ 60 ∧ (∀ x ∈ ps, isIdF x = true) ∧ ∀ H', Same H H' → Q (.bl true) H'
theorem ok_id {x : Str} (h : isIdF x = true) : OkS x ∧ x.length = 16 := by
  unfold isIdF at h
  obtain ⟨h1, h2⟩ := Bool.and_eq_true_iff.mp h
  exact ⟨ok_sub (only_sub h2) ok_hex, of_decide_eq_true h1⟩
theorem c_are_ids (T : Top K mg) : C8.Cal P w K mg base 3 "are_ids" (spAreIds K) [] := by
  refine cal_of T.d_are_ids sc_are_ids (fun _ _ _ _ _ _ us hl => match us, hl with | [_], _ => rfl) (fun vs H Q E h => ?_) (fun f cdv A outer s H vs Q E hr h => ?_)
  · obtain ⟨p, ps, rfl, _⟩ := h
    rfl
  · obtain ⟨p, ps, rfl, hp, hl, hi, q⟩ := h
    refine ⟨_, (pss_one (ps_ret (pe_and (pe_callB call_isi (by rfl) T.z_isinstance (by decide +kernel) (pa_cons (pv 0) (pa_cons (pe_bltn (v := .ty "tuple") (by rfl) T.z_tuple (by decide +kernel) rfl) pa_nil))) (pe_one (pe_callB (cr_all rfl) (by rfl) T.z_all (by decide +kernel) (pa_cons (pe_lc (own := [("name", 1)]) (g := gName 1) (by rfl) sc_are_ids.nd (pi_tup (pv 0)) (blkOk_by (own := [("name", 1)]) (N := ["thing", "name"]) (sc := C8.fnScope s_are_ids) (by decide +kernel)) (fun _ _ _ _ _ => (pg_name (i := 1) sc_are_ids.nd rfl (Or.inl rfl))) (fun _ _ _ _ _ => pts_nil) (fun _ _ _ _ _ => (C8.pe_c (c_is_id T) hr (by decide) (by rfl) (pa_cons (pv 1) pa_nil)))) pa_nil)))))), ?_⟩
    refine ⟨.ref p, rfl, ?_⟩
    dsimp only [tCons, tC, tNil]
    refine isi_tup hp ⟨_, rfl, iteT ?_⟩
    refine ⟨.ref p, rfl, p, rfl, ⟨_, hp.sq⟩, fun D hD => ?_⟩
    refine lc_pure (i := 1) (us := ps) (g := V.str) yields_tup (fun u => .bl (isIdF u)) (fun _ => true) hD (fun H s => (hp.keep (TupKeep.of s)).sq) (fun H u _ hu R r => r H (Same.refl H))
      (fun H u _ hu _ R r => ⟨.str u, rfl, .str u, rfl, .str u (by have := (ok_id (hi u hu)).2; omega) (ok_id (hi u hu)).1, fun H' s' => r H' s'⟩) (by omega) (fun H2 s2 h2 => ?_)
    refine ⟨D, ps.map isIdF, rfl, .inl (.inl ?_), ?_⟩
    · rw [h2, filt_all, List.map_map]
      rfl
    · have e : (ps.map isIdF).all id = true := List.all_eq_true.mpr fun b hb => by
        obtain ⟨x, hx, rfl⟩ := List.mem_map.mp hb
        exact hi x hx
      rw [e]
      exact q H2 s2
end

end Fk

set_option maxHeartbeats 4000000
/-! The four kinds of objects: what they are, where they stand, their texts. -/
namespace Fk
open PySem PySem.Spec PyProof.Rows L2
inductive Ob where
  | blob (x : Str)
  | tree (es : List (Str × Str × Str))
  | commit (t : Str) (ps : List Str) (au : Str) (tm : Int) (msg : Str)
  | tag (tg lb msg : Str)
  deriving DecidableEq
def Ob.kd : Ob → Nat
  | .blob _ => 0
  | .tree _ => 1
  | .commit .. => 2
  | .tag .. => 3
theorem Ob.kd_lt (o : Ob) : o.kd < 4 := by cases o <;> simp [Ob.kd]
/-- the classes -/
structure C4 where
  B : Addr
  T : Addr
  C : Addr
  G : Addr
def C4.at (c : C4) : Nat → Addr
  | 0 => c.B
  | 1 => c.T
  | 2 => c.C
  | _ => c.G
abbrev Ent := Str × Str × Str
def entL (e : Ent) : List V := [.str e.2.1, .str e.2.2]
def KINDS : List Str := ["file", "exec", "dir"]
def EntOk (e : Ent) : Prop := isSegF e.1 = true ∧ e.2.1 ∈ KINDS ∧ isIdF e.2.2 = true
def EntsOk (es : List Ent) : Prop := es.length ≤ 30 ∧ (es.map (·.1)).Nodup ∧ sortedS (es.map (·.1)) = true ∧ ∀ e ∈ es, EntOk e
def Ob.ok : Ob → Prop
  | .blob x => isTextF x = true
  | .tree es => EntsOk es
  | .commit t ps au tm msg => isIdF t = true ∧ ps.length ≤ 6 ∧ ps.Nodup ∧ (∀ p ∈ ps, isIdF p = true) ∧ isWordF LET au = true ∧ 0 ≤ tm ∧ tm ≤ 1000000000000 ∧ isTextF msg = true ∧ msg.length ≤ 200
  | .tag tg lb msg => isIdF tg = true ∧ isSegF lb = true ∧ isTextF msg = true ∧ msg.length ≤ 200
/-- a table's entries -/
def EntsAt (K : PySem.W.Frag) (H : Hp) (t : Tab) (es : List Ent) : Prop := Paired (fun p e => p.1 = e.1 ∧ ∃ q, p.2 = V.ref q ∧ TupK K H q (entL e)) t es
def cmF (t : Str) (p : Addr) (au : Str) (tm : Int) (msg : Str) : List (Str × V) := [("_tree", .str t), ("_parents", .ref p), ("_author", .str au), ("_time", .int tm), ("_message", .str msg)]
def tgF (tg lb msg : Str) : List (Str × V) := [("_target", .str tg), ("_label", .str lb), ("_message", .str msg)]
/-- at a stands the object o; d: the dict of a tree -/
def ObAt (K : PySem.W.Frag) (c : C4) (H : Hp) (a d : Addr) : Ob → Prop
  | .blob x => ∃ dx, H a = some (.ins c.B dx [("_text", .str x)])
  | .tree es => ∃ dx t, H a = some (.ins c.T dx [("_entries", .ref d)]) ∧ H d = some (.dK (kT t)) ∧ EntsAt K H t es
  | .commit t ps au tm msg => ∃ dx p, H a = some (.ins c.C dx (cmF t p au tm msg)) ∧ TupK K H p (ps.map V.str)
  | .tag tg lb msg => ∃ dx, H a = some (.ins c.G dx (tgF tg lb msg))
theorem EntsAt.keep {K : PySem.W.Frag} {H H' : Hp} {t : Tab} {es : List Ent} (h : EntsAt K H t es) (k : TupKeep H H') : EntsAt K H' t es := Paired.mapP h fun _ _ ⟨e, q, e1, e2⟩ => ⟨e, q, e1, e2.keep k⟩
/-- instances and tuples stay -/
def InsKeep (H H' : Hp) : Prop := ∀ b C dx fs, H b = some (.ins C dx fs) → H' b = some (.ins C dx fs)
theorem InsKeep.of {H H' : Hp} (s : Same H H') : InsKeep H H' := fun b _ _ _ e => s b _ e
theorem InsKeep.trans {H H1 H2 : Hp} (a : InsKeep H H1) (b : InsKeep H1 H2) : InsKeep H H2 := fun c _ _ _ e => b c _ _ _ (a c _ _ _ e)
theorem InsKeep.at {a : Addr} {H : Hp} {o : HO} (n : ∀ C dx fs, H a ≠ some (.ins C dx fs)) : InsKeep H (upd H a o) := fun b C dx fs e => by
  have z : b ≠ a := fun z => n C dx fs (by rw [← z]; exact e)
  rw [upd_ne z]
  exact e
theorem ObAt.keep {K : PySem.W.Frag} {c : C4} {H H' : Hp} {a d : Addr} {o : Ob} (h : ObAt K c H a d o) (k : TupKeep H H') (i : InsKeep H H') (e : ∀ u, H d = some (.dK u) → H' d = some (.dK u)) : ObAt K c H' a d o := by
  cases o with
  | blob x => obtain ⟨dx, h⟩ := h; exact ⟨dx, i _ _ _ _ h⟩
  | tree es => obtain ⟨dx, t, h, h2, h3⟩ := h; exact ⟨dx, t, i _ _ _ _ h, e _ h2, h3.keep k⟩
  | commit t ps au tm msg => obtain ⟨dx, p, h, h2⟩ := h; exact ⟨dx, p, i _ _ _ _ h, h2.keep k⟩
  | tag tg lb msg => obtain ⟨dx, h⟩ := h; exact ⟨dx, i _ _ _ _ h⟩
theorem ObAt.same {K : PySem.W.Frag} {c : C4} {H H' : Hp} {a d : Addr} {o : Ob} (h : ObAt K c H a d o) (s : Same H H') : ObAt K c H' a d o := h.keep (TupKeep.of s) (InsKeep.of s) fun _ e => s _ _ e
/-- only the list at a changed -/
theorem Fr.tups {a : Addr} {H H' : Hp} {l : List V} (f : Fr a H H') (h : H a = some (.lst l)) : TupKeep H H' := fun b xs e => f b _ (fun z => by rw [z, h] at e; cases e) e
theorem Fr.inss {a : Addr} {H H' : Hp} {l : List V} (f : Fr a H H') (h : H a = some (.lst l)) : InsKeep H H' := fun b C dx fs e => f b _ (fun z => by rw [z, h] at e; cases e) e
theorem Fr.dict {a d : Addr} {H H' : Hp} {l : List V} {u : List (Key × V)} (f : Fr a H H') (h : H a = some (.lst l)) (e : H d = some (.dK u)) : H' d = some (.dK u) := f d _ (fun z => by rw [z, h] at e; cases e) e
theorem ObAt.wl {K : PySem.W.Frag} {cl : C4} {H H' : Hp} {a d w : Addr} {c : Int} {o : Ob} (h : ObAt K cl H a d o) (hw : Wl H w c) (f : Fr w H H') : ObAt K cl H' a d o := by
  obtain ⟨_, x, y, e⟩ := hw
  exact h.keep (f.tups e) (f.inss e) fun _ z => f.dict e z
/-- where an object stands -/
theorem ObAt.ins {K : PySem.W.Frag} {c : C4} {H : Hp} {a d : Addr} {o : Ob} (h : ObAt K c H a d o) : ∃ dx fs, H a = some (.ins (c.at o.kd) dx fs) := by
  cases o with
  | blob x => obtain ⟨dx, h⟩ := h; exact ⟨dx, _, h⟩
  | tree es => obtain ⟨dx, t, h, _⟩ := h; exact ⟨dx, _, h⟩
  | commit t ps au tm msg => obtain ⟨dx, p, h, _⟩ := h; exact ⟨dx, _, h⟩
  | tag tg lb msg => obtain ⟨dx, h⟩ := h; exact ⟨dx, _, h⟩
/-! ### trees that are equal -/
def datE (es : List Ent) : List (Key × PyData) := es.map fun e => (.inr e.1, .tuple [.str e.2.1, .str e.2.2])
theorem dat_at {K : PySem.W.Frag} {H : Hp} : ∀ {t : Tab} {es : List Ent}, EntsAt K H t es → DD K H (kT t) (datE es)
  | _, _, .nil => .nil
  | _, _, .cons (a := p) (b := e) ⟨e1, q, e2, e3⟩ r => by
    refine .cons ⟨by show Sum.inr p.1 = Sum.inr e.1; rw [e1], ?_⟩ (dat_at r)
    show Dp K H p.2 _
    rw [e2]
    exact dp_head e3
theorem kinds_ok : ∀ k ∈ KINDS, OkS k := fun k hk => by
  have : ∀ k ∈ KINDS, ((TL.tl k).all fun u => decide (u < 1114112)) = true := by decide +kernel
  exact ok_by (this k hk)
theorem id_ok {x : Str} (h : isIdF x = true) : OkS x := by
  unfold isIdF at h
  exact ok_sub (only_sub (Bool.and_eq_true_iff.mp h).2) ok_hex
theorem shaped_ents {es : List Ent} (h : ∀ e ∈ es, EntOk e) : shapedAll (datE es) := fun p hp => by
  obtain ⟨e, he, rfl⟩ := List.mem_map.mp hp
  exact shaped_head (kinds_ok _ (h e he).2.1) (id_ok (h e he).2.2)
theorem valD_ents {es : List Ent} (nd : (es.map (·.1)).Nodup) {e : Ent} (he : e ∈ es) : valD (datE es) (.inr e.1) = some (.tuple [.str e.2.1, .str e.2.2]) := by
  induction es with
  | nil => exact absurd he (by simp)
  | cons f r ih =>
    obtain ⟨n1, n2⟩ := List.nodup_cons.mp (show (f.1 :: r.map (·.1)).Nodup from nd)
    show valD ((.inr f.1, _) :: datE r) _ = _
    rcases List.mem_cons.mp he with z | z
    · rw [z]
      exact valD_pos rfl
    · rw [valD_neg (fun q => n1 (by rw [show f.1 = e.1 from Sum.inr.inj q]; exact List.mem_map.mpr ⟨e, z, rfl⟩))]
      exact ih n2 z
theorem valD_mem {es : List Ent} {k : Str} {d : PyData} (h : valD (datE es) (.inr k) = some d) : ∃ e ∈ es, e.1 = k ∧ d = .tuple [.str e.2.1, .str e.2.2] := by
  induction es with
  | nil => cases h
  | cons f r ih =>
    have h : valD ((.inr f.1, .tuple [.str f.2.1, .str f.2.2]) :: datE r) (.inr k) = some d := h
    by_cases c : f.1 = k
    · rw [valD_pos (by rw [c])] at h
      exact ⟨f, List.mem_cons_self, c, (Option.some.inj h).symm⟩
    · rw [valD_neg (fun q => c (Sum.inr.inj q))] at h
      obtain ⟨e, he, r⟩ := ih h
      exact ⟨e, List.mem_cons_of_mem _ he, r⟩
theorem nodup_inj {α : Type} {l : List α} (h : l.Nodup) {i j : Nat} (hi : i < l.length) (hj : j < l.length) (e : l[i] = l[j]) : i = j := by
  have p := List.pairwise_iff_getElem.mp h
  rcases Nat.lt_trichotomy i j with c | c | c
  · exact absurd e (p i j hi hj c)
  · exact c
  · exact absurd e.symm (p j i hj hi c)
theorem sub_perm {α : Type} [DecidableEq α] : ∀ {l m : List α}, l.Nodup → (∀ x ∈ l, x ∈ m) → m.length ≤ l.length → l.Perm m
  | [], m, _, _, h => by rw [List.eq_nil_of_length_eq_zero (Nat.le_zero.mp h)]
  | x :: r, m, nd, hs, h => by
    obtain ⟨n1, n2⟩ := List.nodup_cons.mp nd
    have hx := hs x List.mem_cons_self
    have hl := List.length_erase_of_mem hx
    have h : m.length ≤ r.length + 1 := h
    exact ((sub_perm n2 (fun y hy => (List.mem_erase_of_ne (fun (z : y = x) => n1 (by rw [← z]; exact hy))).mpr (hs y (List.mem_cons_of_mem _ hy))) (by omega)).cons x).trans (List.perm_cons_erase hx).symm
theorem ents_eq {es fs : List Ent} (he : es.map (·.1) = fs.map (·.1)) (nd : (fs.map (·.1)).Nodup) (hm : ∀ e ∈ es, e ∈ fs) : es = fs := by
  have hl : es.length = fs.length := by
    have := congrArg List.length he
    rwa [List.length_map, List.length_map] at this
  refine List.ext_getElem hl fun i h1 h2 => ?_
  obtain ⟨j, hj, e⟩ := List.mem_iff_getElem.mp (hm _ (List.getElem_mem h1))
  have k1 : (fs.map (·.1))[j]'(by rw [List.length_map]; exact hj) = (fs.map (·.1))[i]'(by rw [List.length_map]; exact h2) := by
    rw [List.getElem_map, e]
    have := List.getElem_of_eq he (i := i) (by rw [List.length_map]; exact h1)
    rw [List.getElem_map, List.getElem_map] at this
    rw [this, List.getElem_map]
  have : j = i := nodup_inj nd _ _ k1
  subst this
  exact e.symm
theorem eqv_ents2 {es fs : List Ent} (h : EntsOk es) (k : EntsOk fs) : eqvDict (datE es) (datE fs) = decide (es = fs) := by
  obtain ⟨_, n1, s1, _⟩ := h
  obtain ⟨_, n2, s2, _⟩ := k
  by_cases c : es = fs
  · subst c
    rw [decide_eq_true rfl]
    unfold eqvDict
    rw [decide_eq_true rfl, Bool.true_and, List.all_eq_true]
    intro p hp
    obtain ⟨e, he, rfl⟩ := List.mem_map.mp hp
    unfold hitD
    show (match valD (datE es) (.inr e.1) with | none => false | some d => PyData.eqv _ d) = true
    rw [valD_ents n1 he]
    show PyData.eqv _ _ = true
    rw [eqv_head, decide_eq_true rfl]
  · rw [decide_eq_false c]
    refine Bool.eq_false_iff.mpr fun z => c ?_
    unfold eqvDict at z
    obtain ⟨z1, z2⟩ := Bool.and_eq_true_iff.mp z
    have hl : es.length = fs.length := by
      have := of_decide_eq_true z1
      unfold datE at this
      rwa [List.length_map, List.length_map] at this
    have hm : ∀ e ∈ es, e ∈ fs := fun e he => by
      have q := List.all_eq_true.mp z2 _ (List.mem_map.mpr ⟨e, he, rfl⟩)
      unfold hitD at q
      cases v : valD (datE fs) (.inr e.1) with
      | none =>
        have q : (match valD (datE fs) (.inr e.1) with | none => false | some d => PyData.eqv _ d) = true := q
        rw [v] at q
        cases q
      | some d =>
        obtain ⟨f, hf, e1, e2⟩ := valD_mem v
        have q : (match valD (datE fs) (.inr e.1) with | none => false | some d => PyData.eqv _ d) = true := q
        rw [v] at q
        rw [e2] at q
        have q : PyData.eqv _ _ = true := q
        rw [eqv_head] at q
        have q := of_decide_eq_true q
        have : e = f := by
          obtain ⟨a, b, d⟩ := e
          obtain ⟨a', b', d'⟩ := f
          simp only [Prod.mk.injEq] at q e1 ⊢
          exact ⟨e1.symm, by first | exact q.1 | exact q.1.symm, by first | exact q.2 | exact q.2.symm⟩
        rw [this]
        exact hf
    have kp : (es.map (·.1)).Perm (fs.map (·.1)) := by
      refine sub_perm n1 (fun k hk => ?_) (by rw [List.length_map, List.length_map, hl]; exact Nat.le_refl _)
      obtain ⟨e, he, rfl⟩ := List.mem_map.mp hk
      exact List.mem_map.mpr ⟨e, hm e he, rfl⟩
    exact ents_eq (sort_uniq s1 s2 kp) n2 hm
/-! ### operators by one of two rules -/
theorem op_or {X : Cx} {f : Value → Value → Sem Value} {r1 r2 : R2} (h1 : OpR X f r1) (h2 : OpR X f r2) : OpR X f (fun x y H Q => r1 x y H Q ∨ r2 x y H Q) := fun pins s σ H x y v u Q I rx ry h => h.elim (h1 pins s σ H x y v u Q I rx ry) (h2 pins s σ H x y v u Q I rx ry)
theorem op_mono {X : Cx} {f : Value → Value → Sem Value} {r1 r2 : R2} (h : OpR X f r1) (k : ∀ x y H Q, r2 x y H Q → r1 x y H Q) : OpR X f r2 := fun pins s σ H x y v u Q I rx ry q => h pins s σ H x y v u Q I rx ry (k x y H Q q)
end Fk

set_option maxHeartbeats 4000000
namespace Fk
open PySem PySem.Spec PyProof.Rows L2
/-- the classes, the error, the store -/
structure TopO (K : PySem.W.Frag) (mg : Str → Option Value) (c : C4) (CS cX iX ek pd : Addr) : Prop extends Top K mg where
  ins : ∀ i, i < 4 → C8.InsC K (c.at i)
  kk : ∀ i j, i < 4 → j < 4 → PySem.W.kitOne K (.ref (c.at i)) (.ref (c.at j)) = some (decide (i = j))
  ne : ∀ i, i < 4 → PySem.W.findIn K (.ref (c.at i)) "__ne__" = some (some (.builtin "object.__ne__"))
  cS : Cls K CS
  mgB : mg "Blob" = some (.ref c.B)
  mgT : mg "Tree" = some (.ref c.T)
  mgC : mg "Commit" = some (.ref c.C)
  mgG : mg "Tag" = some (.ref c.G)
  mgS : mg "Store" = some (.ref CS)
  g_ENTRY_KINDS : ∃ u, mg "ENTRY_KINDS" = some u ∧ RelV (.ref ek) u
  kE : KTup K ek (KINDS.map V.str)
  kP : KTup K pd []
  iniB : ∃ f fd, Mk K c.B f ∧ C8.Fun K "__init__" "Blob.__init__" s_Blob_init f fd ∧ fd.defaults = .none
  iniT : ∃ f fd, Mk K c.T f ∧ C8.Fun K "__init__" "Tree.__init__" s_Tree_init f fd ∧ fd.defaults = .none
  kC3f : IniK K c.C "Commit.__init__" s_Commit_init ["self", "tree", "parents", "author", "time", "message"] 3 ["author", "time", "message"] (fun vs zs => vs ++ zs)
  kC3 : IniK K c.C "Commit.__init__" s_Commit_init ["self", "tree", "parents", "author", "time", "message"] 3 ["author", "time"] (fun vs zs => vs ++ (zs ++ [.str ""]))
  kC2f : IniK K c.C "Commit.__init__" s_Commit_init ["self", "tree", "parents", "author", "time", "message"] 2 ["author", "time", "message"] (fun vs zs => vs ++ (.ref pd :: zs))
  kC2 : IniK K c.C "Commit.__init__" s_Commit_init ["self", "tree", "parents", "author", "time", "message"] 2 ["author", "time"] (fun vs zs => vs ++ (.ref pd :: (zs ++ [.str ""])))
  kG2 : IniK K c.G "Tag.__init__" s_Tag_init ["self", "target", "label", "message"] 2 ["label", "message"] (fun vs zs => vs ++ zs)
  kG1 : IniK K c.G "Tag.__init__" s_Tag_init ["self", "target", "label", "message"] 2 ["label"] (fun vs zs => vs ++ (zs ++ [.str ""]))
  kS1 : IniK K CS "Store.__init__" s_Store_init ["self", "short"] 1 ["short"] (fun vs zs => vs ++ zs)
  dId : DefK K mg "id_of" s_id_of ["thing", "short"] 1 ["short"] (fun vs zs => vs ++ zs)
  dSum : DefK K mg "sum_of" s_sum_of ["data", "short"] 1 ["short"] (fun vs zs => vs ++ zs)
  eqB : MDef K c.B "__eq__" "Blob.__eq__" s_Blob_eq
  eqT : MDef K c.T "__eq__" "Tree.__eq__" s_Tree_eq
  eqC : MDef K c.C "__eq__" "Commit.__eq__" s_Commit_eq
  eqG : MDef K c.G "__eq__" "Tag.__eq__" s_Tag_eq
  pBtext : PDef K c.B "text" "Blob.text" s_Blob_text
  pTentries : PDef K c.T "entries" "Tree.entries" s_Tree_entries
  pCtree : PDef K c.C "tree" "Commit.tree" s_Commit_tree
  pCparents : PDef K c.C "parents" "Commit.parents" s_Commit_parents
  pCauthor : PDef K c.C "author" "Commit.author" s_Commit_author
  pCtime : PDef K c.C "time" "Commit.time" s_Commit_time
  pCmessage : PDef K c.C "message" "Commit.message" s_Commit_message
  pGtarget : PDef K c.G "target" "Tag.target" s_Tag_target
  pGlabel : PDef K c.G "label" "Tag.label" s_Tag_label
  pGmessage : PDef K c.G "message" "Tag.message" s_Tag_message
  nB_text : NoAttr K c.B "_text"
  nT_entries : NoAttr K c.T "_entries"
  nC_tree : NoAttr K c.C "_tree"
  nC_parents : NoAttr K c.C "_parents"
  nC_author : NoAttr K c.C "_author"
  nC_time : NoAttr K c.C "_time"
  nC_message : NoAttr K c.C "_message"
  nG_target : NoAttr K c.G "_target"
  nG_label : NoAttr K c.G "_label"
  nG_message : NoAttr K c.G "_message"
  nS_short : NoAttr K CS "_short"
  nS_things : NoAttr K CS "_things"
  mSput : MDef K CS "put" "Store.put" s_Store_put
  mSgetitem : MDef K CS "__getitem__" "Store.__getitem__" s_Store_getitem
  mScontains : MDef K CS "__contains__" "Store.__contains__" s_Store_contains
  mSlen : MDef K CS "__len__" "Store.__len__" s_Store_len
  eX : ErrC K mg "Clash" "name" cX iX
  exX : PySem.W.exmOne K (.ref cX) (.ref cX) = some true
section
variable {P : Program} {w : World} {K : PySem.W.Frag} {mg : Str → Option Value} {base : Heap} {c : C4} {CS cX iX ek pd : Addr}
theorem TopO.g_Blob (T : TopO K mg c CS cX iX ek pd) : ∃ u, mg "Blob" = some u ∧ RelV (.ref c.B) u := ⟨_, T.mgB, rfl⟩
theorem TopO.g_Tree (T : TopO K mg c CS cX iX ek pd) : ∃ u, mg "Tree" = some u ∧ RelV (.ref c.T) u := ⟨_, T.mgT, rfl⟩
theorem TopO.g_Commit (T : TopO K mg c CS cX iX ek pd) : ∃ u, mg "Commit" = some u ∧ RelV (.ref c.C) u := ⟨_, T.mgC, rfl⟩
theorem TopO.g_Tag (T : TopO K mg c CS cX iX ek pd) : ∃ u, mg "Tag" = some u ∧ RelV (.ref c.G) u := ⟨_, T.mgG, rfl⟩
theorem TopO.cB (T : TopO K mg c CS cX iX ek pd) : Cls K c.B := (T.ins 0 (by decide)).cl
theorem TopO.cT (T : TopO K mg c CS cX iX ek pd) : Cls K c.T := (T.ins 1 (by decide)).cl
theorem TopO.cC (T : TopO K mg c CS cX iX ek pd) : Cls K c.C := (T.ins 2 (by decide)).cl
theorem TopO.cG (T : TopO K mg c CS cX iX ek pd) : Cls K c.G := (T.ins 3 (by decide)).cl
/-- isinstance(thing, one of the classes) -/
theorem TopO.isi (T : TopO K mg c CS cX iX ek pd) {H : Hp} {a d : Addr} {o : Ob} {j : Nat} {Q : VK} (h : ObAt K c H a d o) (hj : j < 4) (k : Q (.bl (decide (o.kd = j))) H) : rIsi K [.ref a, .ref (c.at j)] H Q := by
  obtain ⟨dx, fs, e⟩ := h.ins
  have I := T.ins _ o.kd_lt
  exact ⟨_, _, .ref (c.at o.kd), .ref (c.at j), _, rfl, .own _, .base (.ins e I.cl I.ha I.hn I.htk I.hm), T.kk _ _ o.kd_lt hj, k⟩
theorem TopO.first (T : TopO K mg c CS cX iX ek pd) {i j : Nat} (hi : i < 4) (hj : j < 4) : PySem.W.notFirst K (c.at j) (.ref (c.at i)) = true := by
  have h := T.kk i j hi hj
  unfold PySem.W.notFirst
  by_cases e : (Value.ref (c.at i) == Value.ref (c.at j)) = true
  · rw [e]; rfl
  · unfold PySem.W.kitOne at h
    rw [if_neg e] at h
    have ij : decide (i = j) = false := decide_eq_false fun z => e (by rw [z]; exact beq_self_eq_true _)
    rw [ij] at h
    have h : (if ((PySem.W.clsIn K (c.at j)).isSome && PySem.W.typeIn K (.ref (c.at j)) == some (.type "type")) = true then PySem.W.subIn K (.ref (c.at i)) (.ref (c.at j)) else none) = some false := h
    split at h
    · rw [h]
      simp
    · cases h
/-! ### made -/
/-- behind the making: all that stood before stands -/
theorem made_same {H H' : Hp} {x dx C : Addr} (hx : H x = none) (hd : H dx = none) (f : Fr x (upd (upd H dx (.own x)) x (.ins C dx [])) H') : Same H H' := fun b o e => by
  have n1 := ne_of_none e hx
  exact f b o n1 (by rw [upd_ne n1, upd_ne (ne_of_none e hd)]; exact e)
def spBlobI (c : C4) : Sp := fun vs H Q _ => ∃ (a dx : Addr) (x : Str), vs = [.ref a, .str x] ∧ H a = some (.ins c.B dx []) ∧ isTextF x = true ∧ ∀ H', Fr a H H' → H' a = some (.ins c.B dx [("_text", .str x)]) → Q .non H'
theorem text_len {x : Str} (h : isTextF x = true) : x.length ≤ 2000 := by
  unfold isTextF at h
  exact of_decide_eq_true (Bool.and_eq_true_iff.mp h).1
theorem fr_sets {a : Addr} {H H1 : Hp} (s : Same H H1) {o : HO} : Fr a H (upd H1 a o) := (Fr.same s).trans Fr.at
theorem k_Blob (T : TopO K mg c CS cX iX ek pd) : C8.Mak P w K mg base 3 "Blob" c.B (spBlobI c) [] := by
  obtain ⟨f, fd, M, F, df⟩ := T.iniB
  refine C8.mak0 M T.mgB F (F.binds (ps := ["self", "text"]) df fun _ _ _ _ _ _ us hl => match us, hl with | [_, _], _ => rfl) .nil sc_Blob_init (fun vs H Q E h => ?_) (fun cdv A outer s H vs Q E hr h => ?_)
  · obtain ⟨a, dx, x, rfl, _⟩ := h
    rfl
  · obtain ⟨a, dx, x, rfl, ha, hx, q⟩ := h
    have T := T
    refine ⟨_, (pss_cons (ps_if (pt_not (pt_val (C8.pe_c (c_is_text T.toTop) hr (by decide) (by rfl) (pa_cons (pv 1) pa_nil))))
      (pss_one ps_never)
      pss_nil)
      (pss_one (ps_fld (pv 0) (pv 1) rfl))), ?_⟩
    refine ⟨.str x, rfl, .str x, rfl, .str x (by have := text_len hx; omega) (ok_text hx), fun H1 s1 => ⟨_, rfl, ?_⟩⟩
    rw [show evalV isTextF (.str x) = true from hx]
    exact iteF ⟨.str x, rfl, .ref a, rfl, a, c.B, dx, _, rfl, s1 _ _ ha, T.cB, T.nB_text, (by decide), q _ (fr_sets s1) upd_same⟩
theorem do_blob {x : Str} {H : Hp} {Q : VK} (hx : isTextF x = true) (q : ∀ a H', H a = none → Same H H' → ObAt K c H' a a (.blob x) → Q (.ref a) H') :
    ∀ a dx, H a = none → H dx = none → dx ≠ a → spBlobI c (.ref a :: ([.str x] ++ [])) (upd (upd H dx (.own a)) a (.ins c.B dx [])) (fun v H2 => v = .non ∧ Q (.ref a) H2) C8.E0 := fun a dx ha hd _ =>
  ⟨a, dx, x, rfl, upd_same, hx, fun H' f e => ⟨rfl, q a H' ha (made_same ha hd f) ⟨dx, e⟩⟩⟩
end

end Fk

set_option maxHeartbeats 4000000
namespace Fk
open PySem PySem.Spec PyProof.Rows L2
section
variable {P : Program} {w : World} {K : PySem.W.Frag} {mg : Str → Option Value} {base : Heap} {c : C4} {CS cX iX ek pd : Addr}
/-! ### trees -/
def spValue (K : PySem.W.Frag) : Sp := fun vs H Q _ => ∃ (p k : Addr) (kd i : Str), vs = [.ref p, .ref k] ∧ TupK K H p [.str kd, .str i] ∧ TupK K H k (KINDS.map V.str) ∧ kd ∈ KINDS ∧ isIdF i = true ∧ ∀ H', Same H H' → Q (.bl true) H'
theorem c_is_value (T : Top K mg) : C8.Cal P w K mg base 3 "is_value" (spValue K) [] := by
  refine cal_of T.d_is_value sc_is_value (fun _ _ _ _ _ _ us hl => match us, hl with | [_, _], _ => rfl) (fun vs H Q E h => ?_) (fun f cdv A outer s H vs Q E hr h => ?_)
  · obtain ⟨p, k, kd, i, rfl, _⟩ := h
    rfl
  · obtain ⟨p, k, kd, i, rfl, hp, hk, hm, hi, q⟩ := h
    refine ⟨_, (pss_cons (ps_if (PW.pt (pw_or (pt_not (pt_val (pe_callB call_isi (by rfl) T.z_isinstance (by decide +kernel) (pa_cons (pv 0) (pa_cons (pe_bltn (v := .ty "tuple") (by rfl) T.z_tuple (by decide +kernel) rfl) pa_nil))))) (pw_or1 (pt_cmpR op_ne (pe_callB call_len_seq (by rfl) T.z_len (by decide +kernel) (pa_cons (pv 0) pa_nil)) pe_int (nomark _)))))
      (pss_one (ps_ret pe_bl))
      pss_nil)
      (pss_cons (ps_asg (pv 0) (pg_tup rfl (pgs_cons (pg_name (i := 2) sc_is_value.nd rfl (Or.inl rfl)) (pgs_cons (pg_name (i := 3) sc_is_value.nd rfl (Or.inl rfl)) pgs_nil))))
      (pss_one (ps_ret (pe_and (pe_cmpR op_in_seq (pv 2) (pv 1) rfl) (pe_one (C8.pe_c (c_is_id T) hr (by decide) (by rfl) (pa_cons (pv 3) pa_nil)))))))), ?_⟩
    refine ⟨.ref p, rfl, ?_⟩
    dsimp only [tCons, tC, tNil]
    refine isi_tup hp ⟨_, rfl, iteF ?_⟩
    refine ⟨.ref p, rfl, p, _, rfl, .inr hp.sq, rfl, _, rfl, iteF ?_⟩
    refine ⟨.ref p, rfl, p, _, rfl, hp.sq, rfl, _, _, rfl, _, _, rfl, rfl, ?_⟩
    refine ⟨.str kd, rfl, .ref k, rfl, k, _, rfl, .inr hk.sq, rfl, flat_strs KINDS, _, rfl, ifT ?_ ?_⟩
    · unfold inV
      rw [if_neg Bool.false_ne_true, List.any_eq_true]
      exact ⟨.str kd, List.mem_map.mpr ⟨kd, hm, rfl⟩, by show (kd == kd) = true; exact beq_self_eq_true kd⟩
    · exact ⟨.str i, rfl, .str i, rfl, .str i (by have := (ok_id hi).2; omega) (ok_id hi).1, fun H' s' => by
        rw [show evalV isIdF (.str i) = true from hi]
        exact q H' s'⟩
/-- what stands at each place -/
theorem EntsAt.keys {H : Hp} : ∀ {t : Tab} {es : List Ent}, EntsAt K H t es → t.map (·.1) = es.map (·.1)
  | _, _, .nil => rfl
  | _, _, .cons (a := p) (b := e) ⟨e1, _⟩ r => by
    rw [List.map_cons, List.map_cons, e1, EntsAt.keys r]
theorem EntsAt.val {H : Hp} : ∀ {t : Tab} {es : List Ent}, EntsAt K H t es → (es.map (·.1)).Nodup → ∀ e ∈ es, ∃ q, valV t e.1 = some (.ref q) ∧ TupK K H q (entL e)
  | _, _, .nil, _, e, he => absurd he (by simp)
  | _, _, .cons (a := p) (b := f) (l₂ := l) ⟨e1, q, e2, e3⟩ r, nd, e, he => by
    obtain ⟨n1, n2⟩ := List.nodup_cons.mp (show (f.1 :: l.map (·.1)).Nodup from nd)
    rcases List.mem_cons.mp he with z | z
    · rw [z]
      exact ⟨q, by rw [show p = (p.1, p.2) from rfl, valV_pos e1, e2], e3⟩
    · obtain ⟨q', v, k⟩ := EntsAt.val r n2 e z
      exact ⟨q', by rw [show p = (p.1, p.2) from rfl, valV_neg (fun c => n1 (by rw [← e1, c]; exact List.mem_map.mpr ⟨e, z, rfl⟩))]; exact v, k⟩
def lookE (es : List Ent) (y : Str) : Ent := (es.find? fun e => decide (e.1 = y)).getD (y, "", "")
theorem look_mem {es : List Ent} (nd : (es.map (·.1)).Nodup) {e : Ent} (he : e ∈ es) : lookE es e.1 = e := by
  unfold lookE
  induction es with
  | nil => exact absurd he (by simp)
  | cons f r ih =>
    obtain ⟨n1, n2⟩ := List.nodup_cons.mp (show (f.1 :: r.map (·.1)).Nodup from nd)
    rw [List.find?_cons]
    rcases List.mem_cons.mp he with z | z
    · rw [z, decide_eq_true rfl]
      rfl
    · rw [decide_eq_false (fun q => n1 (by rw [q]; exact List.mem_map.mpr ⟨e, z, rfl⟩))]
      exact ih n2 z
theorem look_perm {es : List Ent} (nd : (es.map (·.1)).Nodup) {ys : List Str} (h : ys.Perm (es.map (·.1))) : (ys.map (lookE es)).Perm es := by
  refine (h.map (lookE es)).trans ?_
  rw [List.map_map]
  have e : es.map (lookE es ∘ fun e => e.1) = es := by
    conv => rhs; rw [← List.map_id es]
    exact List.map_congr_left fun x hx => look_mem nd hx
  rw [e]
theorem look_keys {es : List Ent} {ys : List Str} (h : ∀ y ∈ ys, y ∈ es.map (·.1)) (nd : (es.map (·.1)).Nodup) : (ys.map (lookE es)).map (·.1) = ys := by
  rw [List.map_map]
  conv => rhs; rw [← List.map_id ys]
  refine List.map_congr_left fun y hy => ?_
  obtain ⟨e, he, rfl⟩ := List.mem_map.mp (h y hy)
  show (lookE es e.1).1 = e.1
  rw [look_mem nd he]
theorem paired_map {α β γ : Type} {R : β → γ → Prop} {f : α → β} {g : α → γ} : ∀ {l : List α}, (∀ y ∈ l, R (f y) (g y)) → Paired R (l.map f) (l.map g)
  | [], _ => .nil
  | y :: r, h => .cons (h y List.mem_cons_self) (paired_map fun z hz => h z (List.mem_cons_of_mem _ hz))
theorem seg_short {x : Str} (h : isSegF x = true) : x.length ≤ 100000 := by have := seg_len h; omega
def spTreeI (K : PySem.W.Frag) (c : C4) : Sp := fun vs H Q _ => ∃ (a e dx : Addr) (t : Tab) (es : List Ent), vs = [.ref a, .ref e] ∧ H a = some (.ins c.T dx []) ∧ H e = some (.dK (kT t)) ∧ EntsAt K H t es ∧ es.length ≤ 30 ∧ (es.map (·.1)).Nodup ∧ (∀ x ∈ es, EntOk x) ∧
  ∀ d t' es' H', H d = none → Fr a H H' → H' a = some (.ins c.T dx [("_entries", .ref d)]) → H' d = some (.dK (kT t')) → EntsAt K H' t' es' → es'.Perm es → EntsOk es' → Q .non H'
theorem k_Tree (T : TopO K mg c CS cX iX ek pd) : C8.Mak P w K mg base 4 "Tree" c.T (spTreeI K c) [] := by
  obtain ⟨f, fd, M, F, df⟩ := T.iniT
  refine C8.mak0 M T.mgT F (F.binds (ps := ["self", "entries"]) df fun _ _ _ _ _ _ us hl => match us, hl with | [_, _], _ => rfl) .nil sc_Tree_init (fun vs H Q E h => ?_) (fun cdv A outer s H vs Q E hr h => ?_)
  · obtain ⟨a, e, dx, t, es, rfl, _⟩ := h
    rfl
  · obtain ⟨a, e, dx, t, es, rfl, ha, he, hE, hl, nd, ok, q⟩ := h
    have nae : a ≠ e := fun z => by rw [z, he] at ha; cases ha
    have kE := hE.keys
    have lt : t.length = es.length := by
      have := congrArg List.length kE
      rwa [List.length_map, List.length_map] at this
    have ndt : Nd t := by unfold Nd; rw [kE]; exact nd
    refine ⟨_, (pss_cons (ps_if (PW.pt (pw_or (pt_not (pt_val (pe_callB call_isi (by rfl) T.z_isinstance (by decide +kernel) (pa_cons (pv 1) (pa_cons (pe_bltn (v := .ty "dict") (by rfl) T.z_dict (by decide +kernel) rfl) pa_nil))))) (pw_or1 (pt_cmpR op_gt (pe_callB call_lenD (by rfl) T.z_len (by decide +kernel) (pa_cons (pv 1) pa_nil)) (C8.pe_gc (by rfl) T.g_MOST_ENTRIES) (nomark _)))))
      (pss_one ps_never)
      pss_nil)
      (pss_cons (ps_lock (ps_for PassesOwn.never rfl (pi_keys (pv 1)) (pg_name (i := 2) sc_Tree_init.nd rfl (Or.inl rfl))
      (pss_one (ps_if (PW.pt (pw_or (pt_not (pt_val (C8.pe_c (c_is_segment T.toTop) hr (by decide) (by rfl) (pa_cons (pv 2) pa_nil)))) (pw_or1 (pt_not (pt_val (C8.pe_c (c_is_value T.toTop) hr (by decide) (by rfl) (pa_cons (pe_dget (hu_of hr) (pv 1) (pv 2) (fun _ _ => rfl)) (pa_cons (C8.pe_gc (by rfl) T.g_ENTRY_KINDS) pa_nil))))))))
      (pss_one ps_never)
      pss_nil))))
      (pss_one (ps_fld (pv 0) (pe_dc (own := [("segment", 2)]) (g := gName 2) (by rfl) sc_Tree_init.nd (pi_tup (C8.pe_c (c_ascending T.toTop) hr (by decide) (by rfl) (pa_cons (pv 1) pa_nil))) (blkOk_by (own := [("segment", 2)]) (N := ["self", "entries", "segment"]) (sc := C8.fnScope s_Tree_init) (by decide +kernel)) (fun _ _ _ _ _ => (pg_name (i := 2) sc_Tree_init.nd rfl (Or.inl rfl))) (fun _ _ _ _ _ => pts_nil) (fun _ _ _ _ _ => (pv 2)) (fun _ _ _ _ _ => (pe_dget (hu_of hr) (pv 1) (pv 2) (fun _ _ => rfl)))) rfl)))), ?_⟩
    refine ⟨.ref e, rfl, ?_⟩
    dsimp only [tCons, tC, tNil]
    refine ⟨_, _, .type "dict", .type "dict", true, rfl, .ty "dict", .base (.dK he), kit_ty (by decide +kernel), _, rfl, iteF ?_⟩
    refine ⟨.ref e, rfl, e, _, rfl, he, _, _, rfl, rfl, _, rfl, ifF (fun z => ?_) ?_⟩
    · have z := of_decide_eq_true z
      rw [len_kT, lt] at z
      omega
    refine ⟨e, _, he, trivial, fun od => ⟨.ref e, rfl, e, od, rfl, .inl ⟨kT t, upd_same, ?_⟩⟩⟩
    have Y : Yields (Itk e od (kT t)) ((t.map (·.1)).map V.str) (fun H => H e = some (.frz od (.dK (kT t)))) := by
      rw [← kV_kT]
      exact yields_keys
    have he0 : (upd H e (.frz od (.dK (kT t)))) e = some (.frz od (.dK (kT t))) := upd_same
    have s0 : ∀ b o, b ≠ e → H b = some o → (upd H e (.frz od (.dK (kT t)))) b = some o := fun b o n z => by rw [upd_ne n]; exact z
    generalize upd H e (.frz od (.dK (kT t))) = HL at he0 s0
    refine forG Y (fun i σ H' => Same HL H' ∧ ∃ z, σ = [some (.ref a), some (.ref e), z]) ⟨Same.refl _, none, rfl⟩ (fun i σ H' ⟨s, _⟩ => s _ _ he0) (fun i x σ H' hx I => ?_) (fun σ H' I => ?_)
    · obtain ⟨s, z, rfl⟩ := I
      rw [kE, List.map_map, List.getElem?_map] at hx
      cases hi : es[i]? with
      | none => rw [hi] at hx; cases hx
      | some e0 =>
        rw [hi] at hx
        cases hx
        have hm : e0 ∈ es := List.mem_of_getElem? hi
        obtain ⟨o1, o2, o3⟩ := ok e0 hm
        refine ⟨.str e0.1, rfl, .str e0.1, rfl, .str e0.1 (seg_short o1) (ok_seg o1), fun H1 s1 => ⟨_, rfl, ?_⟩⟩
        rw [show evalV isSegF (.str e0.1) = true from o1]
        refine iteF ?_
        obtain ⟨q0, hv, ht⟩ := hE.val nd e0 hm
        have g1 := dget_kT (.inr ⟨od, s1 _ _ (s _ _ he0)⟩) e0.1
        rw [hv] at g1
        have tk : TupK K H1 q0 (entL e0) := ht.imp (fun z => s1 _ _ (s _ _ (s0 _ _ (fun y => by rw [y, he] at z; cases z) z))) id
        exact ⟨.ref e, rfl, .str e0.1, rfl, e, _, rfl, g1, q0, ek, e0.2.1, e0.2.2, rfl, tk, .inr T.kE, o2, o3, fun H2 s2 => ⟨_, rfl, iteF ⟨s.trans (s1.trans s2), _, rfl⟩⟩⟩
    · obtain ⟨s, z, rfl⟩ := I
      refine ⟨s _ _ he0, ?_⟩
      have sH : Same H (upd H' e (.dK (kT t))) := fun b o z => by
        by_cases hb : b = e
        · rw [hb, upd_same, ← he, ← hb, z]
        · rw [upd_ne hb]
          exact s _ _ (s0 _ _ hb z)
      generalize upd H' e (.dK (kT t)) = H1 at sH
      refine ⟨.ref e, rfl, e, t, rfl, sH _ _ he, by omega, fun ys p H2 hp hs _ s2 h2 => ?_⟩
      rw [kE] at hp
      have hy : ∀ y ∈ ys, y ∈ es.map (·.1) := fun y hy => hp.mem_iff.mp hy
      refine ⟨p, rfl, ⟨_, SqT.of h2⟩, fun D hD => ?_⟩
      have s02 := sH.trans s2
      refine dc_tab (us := ys) (val := V.str) yields_tup (fun y => y) (fun y => (valV t y).getD .non) (fun _ => true) (fun y => [some (.ref a), some (.ref e), some (.str y)]) hD (fun H s => SqT.of (s _ _ h2)) (fun _ _ => rfl)
        (fun H u _ _ R k => k) (fun H u _ _ R k => k H (Same.refl H)) (fun H u _ _ _ R k => ⟨_, rfl, k H (Same.refl H)⟩) (fun H3 u s3 hu _ R k => ?_) (by have := hp.length_eq; rw [List.length_map] at this; omega) (by rw [filt_all, List.map_id']; exact hp.nodup_iff.mpr nd) (fun H3 s3 h3 => ?_)
      · obtain ⟨e0, hm, rfl⟩ := List.mem_map.mp (hy u hu)
        obtain ⟨q0, hv, _⟩ := hE.val nd e0 hm
        have g1 := dget_kT (.inl (s3 _ _ (s02 _ _ he))) e0.1
        rw [hv] at g1
        rw [hv] at k
        exact ⟨.ref e, rfl, .str e0.1, rfl, e, _, rfl, g1, k H3 (Same.refl H3)⟩
      · have s03 := s02.trans s3
        have fD : H D = none := s02.free hD
        have nDa : D ≠ a := ne_of_none' fD ha
        refine ⟨.ref a, rfl, a, c.T, dx, _, rfl, s03 _ _ ha, T.cT, T.nT_entries, (by decide), q D (ys.map fun y => (y, (valV t y).getD .non)) (ys.map (lookE es)) _ fD (fr_sets s03) upd_same ?_ ?_ (look_perm nd hp) ?_⟩
        · rw [upd_ne nDa, h3, filt_all]
        · refine paired_map fun y hy' => ?_
          obtain ⟨e0, hm, rfl⟩ := List.mem_map.mp (hy y hy')
          obtain ⟨q0, hv, ht⟩ := hE.val nd e0 hm
          rw [look_mem nd hm, hv]
          exact ⟨rfl, q0, rfl, ht.imp (fun z => (fr_sets s03) _ _ (fun y => by rw [y, ha] at z; cases z) z) id⟩
        · refine ⟨by rw [(look_perm nd hp).length_eq]; exact hl, by rw [look_keys hy nd]; exact hp.nodup_iff.mpr nd, by rw [look_keys hy nd]; exact hs, fun x hx => ok x ((look_perm nd hp).mem_iff.mp hx)⟩
end

end Fk

set_option maxHeartbeats 4000000
namespace Fk
open PySem PySem.Spec PyProof.Rows L2
section
variable {P : Program} {w : World} {K : PySem.W.Frag} {mg : Str → Option Value} {base : Heap} {c : C4} {CS cX iX ek pd : Addr}
/-! ### commits and tags -/
def spCommitI (K : PySem.W.Frag) (c : C4) : Sp := fun vs H Q _ => ∃ (a dx p : Addr) (t : Str) (ps : List Str) (au : Str) (tm : Int) (msg : Str), vs = [.ref a, .str t, .ref p, .str au, .int tm, .str msg] ∧ H a = some (.ins c.C dx []) ∧ TupK K H p (ps.map V.str) ∧ Ob.ok (.commit t ps au tm msg) ∧
  ∀ H', Fr a H H' → H' a = some (.ins c.C dx (cmF t p au tm msg)) → Q .non H'
theorem word_ok {x y : Str} (h : isWordF y x = true) (hy : OkS y) : OkS x ∧ x.length ≤ 12 := by
  unfold isWordF at h
  obtain ⟨h1, h2⟩ := Bool.and_eq_true_iff.mp h
  obtain ⟨h3, h4⟩ := Bool.and_eq_true_iff.mp h2
  exact ⟨ok_sub (only_sub h4) hy, of_decide_eq_true h3⟩
theorem iniF_Commit (T : TopO K mg c CS cX iX ek pd) : ∀ f fd, C8.Fun K "__init__" "Commit.__init__" s_Commit_init f fd → FnOk P w K mg base C8.CX0 5 f fd ["self", "tree", "parents", "author", "time", "message"] (spCommitI K c) := fun f fd F => by
  refine C8.fn0 F sc_Commit_init (fun vs H Q E h => ?_) (fun cdv A outer s H vs Q E hr h => ?_)
  · obtain ⟨a, dx, p, t, ps, au, tm, msg, rfl, _⟩ := h
    rfl
  · obtain ⟨a, dx, p, t, ps, au, tm, msg, rfl, ha, hp, ⟨o1, o2, o3, o4, o5, o6, o7, o8, o9⟩, q⟩ := h
    refine ⟨_, (pss_cons (ps_if (pt_not (pt_val (C8.pe_c (c_is_id T.toTop) hr (by decide) (by rfl) (pa_cons (pv 1) pa_nil))))
      (pss_one ps_never)
      pss_nil)
      (pss_cons (ps_if (PW.pt (pw_or (pt_not (pt_val (C8.pe_c (c_are_ids T.toTop) hr (by decide) (by rfl) (pa_cons (pv 2) pa_nil)))) (pw_or (pt_cmpR op_gt (pe_callB call_len_seq (by rfl) T.z_len (by decide +kernel) (pa_cons (pv 2) pa_nil)) (C8.pe_gc (by rfl) T.g_MOST_PARENTS) (nomark _)) (pw_or1 (pt_cmpR op_lt (pe_lenSetT rfl (by rfl) T.z_len (by rfl) T.z_set (pv 2)) (pe_callB call_len_seq (by rfl) T.z_len (by decide +kernel) (pa_cons (pv 2) pa_nil)) (nomark _))))))
      (pss_one ps_never)
      pss_nil)
      (pss_cons (ps_if (pt_not (pt_val (C8.pe_c (c_is_author T.toTop) hr (by decide) (by rfl) (pa_cons (pv 3) pa_nil))))
      (pss_one ps_never)
      pss_nil)
      (pss_cons (ps_if (pt_not (pt_val (C8.pe_c (c_is_time T.toTop) hr (by decide) (by rfl) (pa_cons (pv 4) pa_nil))))
      (pss_one ps_never)
      pss_nil)
      (pss_cons (ps_if (pt_not (pt_val (C8.pe_c (c_is_message T.toTop) hr (by decide) (by rfl) (pa_cons (pv 5) pa_nil))))
      (pss_one ps_never)
      pss_nil)
      (pss_cons (ps_fld (pv 0) (pv 1) rfl)
      (pss_cons (ps_fld (pv 0) (pv 2) rfl)
      (pss_cons (ps_fld (pv 0) (pv 3) rfl)
      (pss_cons (ps_fld (pv 0) (pv 4) rfl)
      (pss_one (ps_fld (pv 0) (pv 5) rfl))))))))))), ?_⟩
    refine ⟨.str t, rfl, .str t, rfl, .str t (by have := (ok_id o1).2; omega) (ok_id o1).1, fun H1 s1 => ⟨_, rfl, ?_⟩⟩
    rw [show evalV isIdF (.str t) = true from o1]
    refine iteF ?_
    refine ⟨.ref p, rfl, p, ps, rfl, hp.keep (TupKeep.of s1), by omega, o4, fun H2 s2 => ⟨_, rfl, iteF ?_⟩⟩
    have hp2 := hp.keep (TupKeep.of (s1.trans s2))
    refine ⟨.ref p, rfl, p, _, rfl, .inr hp2.sq, _, _, rfl, rfl, _, rfl, ifF (fun z => ?_) ?_⟩
    · have z := of_decide_eq_true z
      rw [List.length_map] at z
      omega
    refine ⟨.ref p, rfl, p, ps, rfl, hp2.sq, by omega, fun n => ⟨fun ys ny hm hn => ?_, trivial⟩⟩
    have en : n = ps.length := by
      have : ys.Perm ps := (List.perm_ext_iff_of_nodup ny o3).mpr hm
      rw [← hn, this.length_eq]
    refine ⟨.ref p, rfl, p, _, rfl, .inr hp2.sq, _, _, rfl, rfl, _, rfl, ifF (fun z => ?_) ?_⟩
    · have z := of_decide_eq_true z
      rw [List.length_map] at z
      omega
    refine ⟨.str au, rfl, .str au, rfl, .str au (by have := (word_ok o5 ok_let).2; omega) (word_ok o5 ok_let).1, fun H3 s3 => ⟨_, rfl, ?_⟩⟩
    rw [show evalV (isWordF LET) (.str au) = true from o5]
    refine iteF ?_
    refine ⟨.int tm, rfl, tm, rfl, o6, o7, fun H4 s4 => ⟨_, rfl, iteF ?_⟩⟩
    refine ⟨.str msg, rfl, msg, rfl, o8, o9, fun H5 s5 => ⟨_, rfl, iteF ?_⟩⟩
    have s15 := (((s1.trans s2).trans s3).trans s4).trans s5
    refine ⟨.str t, rfl, .ref a, rfl, a, c.C, dx, _, rfl, s15 _ _ ha, T.cC, T.nC_tree, (by decide), ?_⟩
    refine ⟨.ref p, rfl, .ref a, rfl, a, c.C, dx, _, rfl, upd_same, T.cC, T.nC_parents, (by show 1 < 1000; decide), ?_⟩
    refine ⟨.str au, rfl, .ref a, rfl, a, c.C, dx, _, rfl, upd_same, T.cC, T.nC_author, (by show 2 < 1000; decide), ?_⟩
    refine ⟨.int tm, rfl, .ref a, rfl, a, c.C, dx, _, rfl, upd_same, T.cC, T.nC_time, (by show 3 < 1000; decide), ?_⟩
    refine ⟨.str msg, rfl, .ref a, rfl, a, c.C, dx, _, rfl, upd_same, T.cC, T.nC_message, (by show 4 < 1000; decide), ?_⟩
    exact q _ (((((fr_sets s15).trans Fr.at).trans Fr.at).trans Fr.at).trans Fr.at) upd_same
theorem k_Commit_2_author_time_message (T : TopO K mg c CS cX iX ek pd) : MakK P w K mg base 5 "Commit" c.C (spCommitI K c) 3 ["author", "time", "message"] (fun vs zs => vs ++ zs) := makK T.kC3f T.mgC (iniF_Commit T)
theorem k_Commit_2_author_time (T : TopO K mg c CS cX iX ek pd) : MakK P w K mg base 5 "Commit" c.C (spCommitI K c) 3 ["author", "time"] (fun vs zs => vs ++ (zs ++ [.str ""])) := makK T.kC3 T.mgC (iniF_Commit T)
theorem k_Commit_1_author_time_message (T : TopO K mg c CS cX iX ek pd) : MakK P w K mg base 5 "Commit" c.C (spCommitI K c) 2 ["author", "time", "message"] (fun vs zs => vs ++ (.ref pd :: zs)) := makK T.kC2f T.mgC (iniF_Commit T)
theorem k_Commit_1_author_time (T : TopO K mg c CS cX iX ek pd) : MakK P w K mg base 5 "Commit" c.C (spCommitI K c) 2 ["author", "time"] (fun vs zs => vs ++ (.ref pd :: (zs ++ [.str ""]))) := makK T.kC2 T.mgC (iniF_Commit T)
theorem do_commit {p : Addr} {t : Str} {ps : List Str} {au : Str} {tm : Int} {msg : Str} {H : Hp} {Q : VK} (hp : TupK K H p (ps.map V.str)) (ok : Ob.ok (.commit t ps au tm msg)) (q : ∀ a H', H a = none → Same H H' → ObAt K c H' a a (.commit t ps au tm msg) → Q (.ref a) H') :
    ∀ a dx, H a = none → H dx = none → dx ≠ a → spCommitI K c [.ref a, .str t, .ref p, .str au, .int tm, .str msg] (upd (upd H dx (.own a)) a (.ins c.C dx [])) (fun v H2 => v = .non ∧ Q (.ref a) H2) C8.E0 := fun a dx ha hd nd => by
  have s1 : Same H (upd (upd H dx (.own a)) a (.ins c.C dx [])) := made_same ha hd (Fr.refl _ _)
  exact ⟨a, dx, p, t, ps, au, tm, msg, rfl, upd_same, hp.keep (TupKeep.of s1), ok, fun H' f e => ⟨rfl, q a H' ha (made_same ha hd f) ⟨dx, p, e, hp.keep (TupKeep.of (made_same ha hd f))⟩⟩⟩
def spTagI (c : C4) : Sp := fun vs H Q _ => ∃ (a dx : Addr) (tg lb msg : Str), vs = [.ref a, .str tg, .str lb, .str msg] ∧ H a = some (.ins c.G dx []) ∧ Ob.ok (.tag tg lb msg) ∧ ∀ H', Fr a H H' → H' a = some (.ins c.G dx (tgF tg lb msg)) → Q .non H'
theorem iniF_Tag (T : TopO K mg c CS cX iX ek pd) : ∀ f fd, C8.Fun K "__init__" "Tag.__init__" s_Tag_init f fd → FnOk P w K mg base C8.CX0 5 f fd ["self", "target", "label", "message"] (spTagI c) := fun f fd F => by
  refine C8.fn0 F sc_Tag_init (fun vs H Q E h => ?_) (fun cdv A outer s H vs Q E hr h => ?_)
  · obtain ⟨a, dx, tg, lb, msg, rfl, _⟩ := h
    rfl
  · obtain ⟨a, dx, tg, lb, msg, rfl, ha, ⟨o1, o2, o8, o9⟩, q⟩ := h
    refine ⟨_, (pss_cons (ps_if (pt_not (pt_val (C8.pe_c (c_is_id T.toTop) hr (by decide) (by rfl) (pa_cons (pv 1) pa_nil))))
      (pss_one ps_never)
      pss_nil)
      (pss_cons (ps_if (pt_not (pt_val (C8.pe_c (c_is_segment T.toTop) hr (by decide) (by rfl) (pa_cons (pv 2) pa_nil))))
      (pss_one ps_never)
      pss_nil)
      (pss_cons (ps_if (pt_not (pt_val (C8.pe_c (c_is_message T.toTop) hr (by decide) (by rfl) (pa_cons (pv 3) pa_nil))))
      (pss_one ps_never)
      pss_nil)
      (pss_cons (ps_fld (pv 0) (pv 1) rfl)
      (pss_cons (ps_fld (pv 0) (pv 2) rfl)
      (pss_one (ps_fld (pv 0) (pv 3) rfl))))))), ?_⟩
    refine ⟨.str tg, rfl, .str tg, rfl, .str tg (by have := (ok_id o1).2; omega) (ok_id o1).1, fun H1 s1 => ⟨_, rfl, ?_⟩⟩
    rw [show evalV isIdF (.str tg) = true from o1]
    refine iteF ?_
    refine ⟨.str lb, rfl, .str lb, rfl, .str lb (seg_short o2) (ok_seg o2), fun H2 s2 => ⟨_, rfl, ?_⟩⟩
    rw [show evalV isSegF (.str lb) = true from o2]
    refine iteF ?_
    refine ⟨.str msg, rfl, msg, rfl, o8, o9, fun H5 s5 => ⟨_, rfl, iteF ?_⟩⟩
    have s15 := (s1.trans s2).trans s5
    refine ⟨.str tg, rfl, .ref a, rfl, a, c.G, dx, _, rfl, s15 _ _ ha, T.cG, T.nG_target, (by decide), ?_⟩
    refine ⟨.str lb, rfl, .ref a, rfl, a, c.G, dx, _, rfl, upd_same, T.cG, T.nG_label, (by show 1 < 1000; decide), ?_⟩
    refine ⟨.str msg, rfl, .ref a, rfl, a, c.G, dx, _, rfl, upd_same, T.cG, T.nG_message, (by show 2 < 1000; decide), ?_⟩
    exact q _ (((fr_sets s15).trans Fr.at).trans Fr.at) upd_same
theorem k_Tag_1_label_message (T : TopO K mg c CS cX iX ek pd) : MakK P w K mg base 5 "Tag" c.G (spTagI c) 2 ["label", "message"] (fun vs zs => vs ++ zs) := makK T.kG2 T.mgG (iniF_Tag T)
theorem k_Tag_1_label (T : TopO K mg c CS cX iX ek pd) : MakK P w K mg base 5 "Tag" c.G (spTagI c) 2 ["label"] (fun vs zs => vs ++ (zs ++ [.str ""])) := makK T.kG1 T.mgG (iniF_Tag T)
theorem do_tag {tg lb msg : Str} {H : Hp} {Q : VK} (ok : Ob.ok (.tag tg lb msg)) (q : ∀ a H', H a = none → Same H H' → ObAt K c H' a a (.tag tg lb msg) → Q (.ref a) H') :
    ∀ a dx, H a = none → H dx = none → dx ≠ a → spTagI c [.ref a, .str tg, .str lb, .str msg] (upd (upd H dx (.own a)) a (.ins c.G dx [])) (fun v H2 => v = .non ∧ Q (.ref a) H2) C8.E0 := fun a dx ha hd nd =>
  ⟨a, dx, tg, lb, msg, rfl, upd_same, ok, fun H' f e => ⟨rfl, q a H' ha (made_same ha hd f) ⟨dx, e⟩⟩⟩
theorem do_tree {e : Addr} {t : Tab} {es : List Ent} {H : Hp} {Q : VK} (he : H e = some (.dK (kT t))) (hE : EntsAt K H t es) (hl : es.length ≤ 30) (nd : (es.map (·.1)).Nodup) (ok : ∀ x ∈ es, EntOk x)
    (q : ∀ a d es' H', H a = none → H d = none → Same H H' → es'.Perm es → Ob.ok (.tree es') → ObAt K c H' a d (.tree es') → Q (.ref a) H') :
    ∀ a dx, H a = none → H dx = none → dx ≠ a → spTreeI K c (.ref a :: ([.ref e] ++ [])) (upd (upd H dx (.own a)) a (.ins c.T dx [])) (fun v H2 => v = .non ∧ Q (.ref a) H2) C8.E0 := fun a dx ha hd nda => by
  have s1 : Same H (upd (upd H dx (.own a)) a (.ins c.T dx [])) := made_same ha hd (Fr.refl _ _)
  refine ⟨a, e, dx, t, es, rfl, upd_same, s1 _ _ he, hE.keep (TupKeep.of s1), hl, nd, ok, fun d t' es' H' hd' f h1 h2 h3 hp hok => ⟨rfl, q a d es' H' ha (s1.free hd') (made_same ha hd f) hp hok ⟨dx, t', h1, h2, h3⟩⟩⟩
/-! ### equal -/
def spEq (K : PySem.W.Frag) (c : C4) (j : Nat) : Sp := fun vs H Q _ => ∃ (a b d d' : Addr) (o o' : Ob), vs = [.ref a, .ref b] ∧ ObAt K c H a d o ∧ ObAt K c H b d' o' ∧ o.ok ∧ o'.ok ∧ o.kd = j ∧ ∀ H', Same H H' → Q (.bl (decide (o = o'))) H'
theorem spEq_len {j : Nat} (vs : List V) (H : Hp) (Q : VK) (E : XK) (h : spEq K c j vs H Q E) : vs.length = 2 := by
  obtain ⟨a, b, d, d', o, o', rfl, _⟩ := h
  rfl
theorem m_Blob_eq (T : TopO K mg c CS cX iX ek pd) : C8.Met P w K mg base 1 c.B "__eq__" (spEq K c 0) [] := by
  refine met_of T.cB T.eqB sc_Blob_eq (fun _ _ _ _ _ _ us hl => match us, hl with | [_, _], _ => rfl) spEq_len (fun f cdv A outer s H vs Q E hr h => ?_)
  obtain ⟨a, b, d, d', o, o', rfl, ha, hb, ok, ok', hk, q⟩ := h
  cases o with
  | blob x =>
    refine ⟨_, (pss_one (ps_ret (pe_and (pe_callB call_isi (by rfl) T.z_isinstance (by decide +kernel) (pa_cons (pv 1) (pa_cons (C8.pe_gc (by rfl) T.g_Blob) pa_nil))) (pe_one (pe_cmpR op_eq (pe_fld (pv 0) rfl) (pe_fld (pv 1) rfl) (nomark _)))))), ?_⟩
    refine ⟨.ref b, rfl, ?_⟩
    dsimp only [tCons, tC, tNil]
    refine T.isi (j := 0) hb (by decide) ⟨_, rfl, ?_⟩
    obtain ⟨dx, ha⟩ := ha
    cases o' with
    | blob y =>
      obtain ⟨dy, hb⟩ := hb
      refine iteT ⟨.ref a, rfl, a, c.B, dx, _, _, rfl, ha, T.cB, T.nB_text, rfl, .ref b, rfl, b, c.B, dy, _, _, rfl, hb, T.cB, T.nB_text, rfl, rfl, ?_⟩
      have e : decide (Ob.blob x = Ob.blob y) = decide (V.str x = V.str y) := by
        rw [Bool.eq_iff_iff]
        simp
      rw [e] at q
      exact q H (Same.refl H)
    | _ => exact iteF (q H (Same.refl H))
  | _ => cases hk
end

end Fk

set_option maxHeartbeats 4000000
namespace Fk
open PySem PySem.Spec PyProof.Rows L2
theorem shaped_tup (ys : List Str) (h : ∀ y ∈ ys, OkS y) : SeqAt.shaped (.tuple (ys.map PyData.str)) = true := by
  simp [SeqAt.shaped, PyData.canLay0, lay_strs ys h, PyData.depth, depth_strs]
theorem eqv_tups : ∀ ys zs : List Str, PyData.eqvAll (ys.map PyData.str) (zs.map PyData.str) = decide (ys = zs)
  | [], [] => rfl
  | [], _ :: _ => rfl
  | _ :: _, [] => rfl
  | y :: ys, z :: zs => by
    show (y == z && PyData.eqvAll _ _) = _
    rw [eqv_tups ys zs, Bool.eq_iff_iff]
    simp
section
variable {P : Program} {w : World} {K : PySem.W.Frag} {mg : Str → Option Value} {base : Heap} {c : C4} {CS cX iX ek pd : Addr}
theorem m_Tree_eq (T : TopO K mg c CS cX iX ek pd) : C8.Met P w K mg base 1 c.T "__eq__" (spEq K c 1) [] := by
  refine met_of T.cT T.eqT sc_Tree_eq (fun _ _ _ _ _ _ us hl => match us, hl with | [_, _], _ => rfl) spEq_len (fun f cdv A outer s H vs Q E hr h => ?_)
  obtain ⟨a, b, d, d', o, o', rfl, ha, hb, ok, ok', hk, q⟩ := h
  cases o with
  | tree es =>
    refine ⟨_, (pss_one (ps_ret (pe_and (pe_callB call_isi (by rfl) T.z_isinstance (by decide +kernel) (pa_cons (pv 1) (pa_cons (C8.pe_gc (by rfl) T.g_Tree) pa_nil))) (pe_one (pe_cmpR (op_eqDD (room66 hr)) (pe_fld (pv 0) rfl) (pe_fld (pv 1) rfl) (nomark _)))))), ?_⟩
    refine ⟨.ref b, rfl, ?_⟩
    dsimp only [tCons, tC, tNil]
    refine T.isi (j := 1) hb (by decide) ⟨_, rfl, ?_⟩
    obtain ⟨dx, t, ha, h2, h3⟩ := ha
    cases o' with
    | tree fs =>
      obtain ⟨dy, u, hb, k2, k3⟩ := hb
      refine iteT ⟨.ref a, rfl, a, c.T, dx, _, _, rfl, ha, T.cT, T.nT_entries, rfl, .ref b, rfl, b, c.T, dy, _, _, rfl, hb, T.cT, T.nT_entries, rfl, d, d', datE es, datE fs, rfl, rfl, ⟨_, h2, dat_at h3⟩, ⟨_, k2, dat_at k3⟩, shaped_ents ok.2.2.2, shaped_ents ok'.2.2.2, ?_⟩
      rw [eqv_ents2 ok ok']
      have e : decide (Ob.tree es = Ob.tree fs) = decide (es = fs) := by
        rw [Bool.eq_iff_iff]
        simp
      rw [e] at q
      exact q H (Same.refl H)
    | _ => exact iteF (q H (Same.refl H))
  | _ => cases hk
theorem m_Tag_eq (T : TopO K mg c CS cX iX ek pd) : C8.Met P w K mg base 1 c.G "__eq__" (spEq K c 3) [] := by
  refine met_of T.cG T.eqG sc_Tag_eq (fun _ _ _ _ _ _ us hl => match us, hl with | [_, _], _ => rfl) spEq_len (fun f cdv A outer s H vs Q E hr h => ?_)
  obtain ⟨a, b, d, d', o, o', rfl, ha, hb, ok, ok', hk, q⟩ := h
  cases o with
  | tag tg lb msg =>
    refine ⟨_, (pss_one (ps_ret (pe_and (pe_callB call_isi (by rfl) T.z_isinstance (by decide +kernel) (pa_cons (pv 1) (pa_cons (C8.pe_gc (by rfl) T.g_Tag) pa_nil))) (pe_and (pe_cmpR op_eq (pe_fld (pv 0) rfl) (pe_fld (pv 1) rfl) (nomark _)) (pe_and (pe_cmpR op_eq (pe_fld (pv 0) rfl) (pe_fld (pv 1) rfl) (nomark _)) (pe_one (pe_cmpR op_eq (pe_fld (pv 0) rfl) (pe_fld (pv 1) rfl) (nomark _)))))))), ?_⟩
    refine ⟨.ref b, rfl, ?_⟩
    dsimp only [tCons, tC, tNil]
    refine T.isi (j := 3) hb (by decide) ⟨_, rfl, ?_⟩
    obtain ⟨dx, ha⟩ := ha
    cases o' with
    | tag tg' lb' msg' =>
      obtain ⟨dy, hb⟩ := hb
      have fin : ∀ b : Bool, decide (Ob.tag tg lb msg = Ob.tag tg' lb' msg') = b → Q (.bl b) H := fun b e => by
        rw [e] at q
        exact q H (Same.refl H)
      have no : ¬ (tg = tg' ∧ lb = lb' ∧ msg = msg') → Q (.bl false) H := fun n => fin false (decide_eq_false fun z => n (by injection z with z1 z2 z3; exact ⟨z1, z2, z3⟩))
      refine iteT ⟨.ref a, rfl, a, c.G, dx, _, _, rfl, ha, T.cG, T.nG_target, rfl, .ref b, rfl, b, c.G, dy, _, _, rfl, hb, T.cG, T.nG_target, rfl, rfl, _, rfl, ite2 (fun z1 => ?_) (fun z1 => ?_)⟩
      · have z1 := V.str.inj (of_decide_eq_true z1)
        refine ⟨.ref a, rfl, a, c.G, dx, _, _, rfl, ha, T.cG, T.nG_label, rfl, .ref b, rfl, b, c.G, dy, _, _, rfl, hb, T.cG, T.nG_label, rfl, rfl, _, rfl, ite2 (fun z2 => ?_) (fun z2 => ?_)⟩
        · have z2 := V.str.inj (of_decide_eq_true z2)
          refine ⟨.ref a, rfl, a, c.G, dx, _, _, rfl, ha, T.cG, T.nG_message, rfl, .ref b, rfl, b, c.G, dy, _, _, rfl, hb, T.cG, T.nG_message, rfl, rfl, ?_⟩
          refine fin _ ?_
          rw [z1, z2, Bool.eq_iff_iff]
          simp
        · exact no fun z => z2 (decide_eq_true (by rw [z.2.1]))
      · exact no fun z => z1 (decide_eq_true (by rw [z.1]))
    | _ => exact iteF (q H (Same.refl H))
  | _ => cases hk
theorem m_Commit_eq (T : TopO K mg c CS cX iX ek pd) : C8.Met P w K mg base 1 c.C "__eq__" (spEq K c 2) [] := by
  refine met_of T.cC T.eqC sc_Commit_eq (fun _ _ _ _ _ _ us hl => match us, hl with | [_, _], _ => rfl) spEq_len (fun f cdv A outer s H vs Q E hr h => ?_)
  obtain ⟨a, b, d, d', o, o', rfl, ha, hb, ok, ok', hk, q⟩ := h
  cases o with
  | commit t ps au tm msg =>
    refine ⟨_, (pss_one (ps_ret (pe_and (pe_callB call_isi (by rfl) T.z_isinstance (by decide +kernel) (pa_cons (pv 1) (pa_cons (C8.pe_gc (by rfl) T.g_Commit) pa_nil))) (pe_and (pe_cmpR op_eq (pe_fld (pv 0) rfl) (pe_fld (pv 1) rfl) (nomark _)) (pe_and (pe_cmpR (op_eqD hr.units) (pe_fld (pv 0) rfl) (pe_fld (pv 1) rfl) (nomark _)) (pe_and (pe_cmpR op_eq (pe_fld (pv 0) rfl) (pe_fld (pv 1) rfl) (nomark _)) (pe_and (pe_cmpR op_eq (pe_fld (pv 0) rfl) (pe_fld (pv 1) rfl) (nomark _)) (pe_one (pe_cmpR op_eq (pe_fld (pv 0) rfl) (pe_fld (pv 1) rfl) (nomark _)))))))))), ?_⟩
    refine ⟨.ref b, rfl, ?_⟩
    dsimp only [tCons, tC, tNil]
    refine T.isi (j := 2) hb (by decide) ⟨_, rfl, ?_⟩
    obtain ⟨dx, p, ha, hp⟩ := ha
    cases o' with
    | commit t' ps' au' tm' msg' =>
      obtain ⟨dy, p', hb, hp'⟩ := hb
      have fin : ∀ b : Bool, decide (Ob.commit t ps au tm msg = Ob.commit t' ps' au' tm' msg') = b → Q (.bl b) H := fun b e => by
        rw [e] at q
        exact q H (Same.refl H)
      have no : ¬ (t = t' ∧ ps = ps' ∧ au = au' ∧ tm = tm' ∧ msg = msg') → Q (.bl false) H := fun n => fin false (decide_eq_false fun z => n (by injection z with z1 z2 z3 z4 z5; exact ⟨z1, z2, z3, z4, z5⟩))
      refine iteT ⟨.ref a, rfl, a, c.C, dx, _, _, rfl, ha, T.cC, T.nC_tree, rfl, .ref b, rfl, b, c.C, dy, _, _, rfl, hb, T.cC, T.nC_tree, rfl, rfl, _, rfl, ite2 (fun z1 => ?_) (fun z1 => ?_)⟩
      · have z1 := V.str.inj (of_decide_eq_true z1)
        refine ⟨.ref a, rfl, a, c.C, dx, _, _, rfl, ha, T.cC, T.nC_parents, rfl, .ref b, rfl, b, c.C, dy, _, _, rfl, hb, T.cC, T.nC_parents, rfl, _, _, .tup hp.sq (dp_strs ps), .tup hp'.sq (dp_strs ps'), shaped_tup _ fun y hy => id_ok (ok.2.2.2.1 y hy), shaped_tup _ fun y hy => id_ok (ok'.2.2.2.1 y hy), _, rfl, ?_⟩
        rw [show PyData.eqv (.tuple (ps.map PyData.str)) (.tuple (ps'.map PyData.str)) = decide (ps = ps') from eqv_tups ps ps']
        refine ite2 (fun z2 => ?_) (fun z2 => ?_)
        · have z2 := of_decide_eq_true z2
          refine ⟨.ref a, rfl, a, c.C, dx, _, _, rfl, ha, T.cC, T.nC_author, rfl, .ref b, rfl, b, c.C, dy, _, _, rfl, hb, T.cC, T.nC_author, rfl, rfl, _, rfl, ite2 (fun z3 => ?_) (fun z3 => ?_)⟩
          · have z3 := V.str.inj (of_decide_eq_true z3)
            refine ⟨.ref a, rfl, a, c.C, dx, _, _, rfl, ha, T.cC, T.nC_time, rfl, .ref b, rfl, b, c.C, dy, _, _, rfl, hb, T.cC, T.nC_time, rfl, rfl, _, rfl, ite2 (fun z4 => ?_) (fun z4 => ?_)⟩
            · have z4 := V.int.inj (of_decide_eq_true z4)
              refine ⟨.ref a, rfl, a, c.C, dx, _, _, rfl, ha, T.cC, T.nC_message, rfl, .ref b, rfl, b, c.C, dy, _, _, rfl, hb, T.cC, T.nC_message, rfl, rfl, ?_⟩
              refine fin _ ?_
              rw [z1, z2, z3, z4, Bool.eq_iff_iff]
              simp
            · exact no fun z => z4 (decide_eq_true (by rw [z.2.2.2.1]))
          · exact no fun z => z3 (decide_eq_true (by rw [z.2.2.1]))
        · exact no fun z => z2 (decide_eq_true z.2.1)
      · exact no fun z => z1 (decide_eq_true (by rw [z.1]))
    | _ => exact iteF (q H (Same.refl H))
  | _ => cases hk
/-! ### == and != of any two objects -/
def rObEq (K : PySem.W.Frag) (c : C4) (n : Bool) : R2 := fun x y H Q => ∃ (a b d d' : Addr) (o o' : Ob), x = .ref a ∧ y = .ref b ∧ ObAt K c H a d o ∧ ObAt K c H b d' o' ∧ o.ok ∧ o'.ok ∧ ∀ H', Same H H' → Q (.bl (if n then !decide (o = o') else decide (o = o'))) H'
theorem TopO.tyx (T : TopO K mg c CS cX iX ek pd) {H : Hp} {a d : Addr} {o : Ob} (h : ObAt K c H a d o) : TyX K H (.ref a) (.ref (c.at o.kd)) := by
  obtain ⟨dx, fs, e⟩ := h.ins
  have I := T.ins _ o.kd_lt
  exact .base (.ins e I.cl I.ha I.hn I.htk I.hm)
theorem op_obEq {X : Cx} (T : TopO X.K X.mg c CS cX iX ek pd) (hr : Room 1 X.A) : OpR X (compareOp .Eq) (rObEq X.K c false) := by
  refine op_mono (op_or (op_ownEq (ownM_of (m_Blob_eq T)) hr noEx0) (op_or (op_ownEq (ownM_of (m_Tree_eq T)) hr noEx0) (op_or (op_ownEq (ownM_of (m_Commit_eq T)) hr noEx0) (op_ownEq (ownM_of (m_Tag_eq T)) hr noEx0)))) fun x y H Q h => ?_
  obtain ⟨a, b, d, d', o, o', rfl, rfl, ha, hb, ok, ok', q⟩ := h
  obtain ⟨dx, fs, e⟩ := ha.ins
  have ty := T.tyx hb
  cases o with
  | blob x => exact .inl ⟨a, dx, fs, _, rfl, e, ty, T.first (j := 0) o'.kd_lt (by decide), a, b, d, d', _, o', rfl, ha, hb, ok, ok', rfl, fun H' s => ⟨_, rfl, q H' s⟩⟩
  | tree es => exact .inr (.inl ⟨a, dx, fs, _, rfl, e, ty, T.first (j := 1) o'.kd_lt (by decide), a, b, d, d', _, o', rfl, ha, hb, ok, ok', rfl, fun H' s => ⟨_, rfl, q H' s⟩⟩)
  | commit t ps au tm msg => exact .inr (.inr (.inl ⟨a, dx, fs, _, rfl, e, ty, T.first (j := 2) o'.kd_lt (by decide), a, b, d, d', _, o', rfl, ha, hb, ok, ok', rfl, fun H' s => ⟨_, rfl, q H' s⟩⟩))
  | tag tg lb msg => exact .inr (.inr (.inr ⟨a, dx, fs, _, rfl, e, ty, T.first (j := 3) o'.kd_lt (by decide), a, b, d, d', _, o', rfl, ha, hb, ok, ok', rfl, fun H' s => ⟨_, rfl, q H' s⟩⟩))
theorem op_obNe {X : Cx} (T : TopO X.K X.mg c CS cX iX ek pd) (hr : Room 2 X.A) : OpR X (compareOp .NotEq) (rObEq X.K c true) := by
  refine op_mono (op_or (op_ownNe (ownM_of (m_Blob_eq T)) hr noEx0 (T.ne 0 (by decide)) (T.ins 0 (by decide)).hm) (op_or (op_ownNe (ownM_of (m_Tree_eq T)) hr noEx0 (T.ne 1 (by decide)) (T.ins 1 (by decide)).hm) (op_or (op_ownNe (ownM_of (m_Commit_eq T)) hr noEx0 (T.ne 2 (by decide)) (T.ins 2 (by decide)).hm) (op_ownNe (ownM_of (m_Tag_eq T)) hr noEx0 (T.ne 3 (by decide)) (T.ins 3 (by decide)).hm)))) fun x y H Q h => ?_
  obtain ⟨a, b, d, d', o, o', rfl, rfl, ha, hb, ok, ok', q⟩ := h
  obtain ⟨dx, fs, e⟩ := ha.ins
  have ty := T.tyx hb
  cases o with
  | blob x => exact .inl ⟨a, dx, fs, _, rfl, e, ty, T.first (j := 0) o'.kd_lt (by decide), a, b, d, d', _, o', rfl, ha, hb, ok, ok', rfl, fun H' s => ⟨_, rfl, q H' s⟩⟩
  | tree es => exact .inr (.inl ⟨a, dx, fs, _, rfl, e, ty, T.first (j := 1) o'.kd_lt (by decide), a, b, d, d', _, o', rfl, ha, hb, ok, ok', rfl, fun H' s => ⟨_, rfl, q H' s⟩⟩)
  | commit t ps au tm msg => exact .inr (.inr (.inl ⟨a, dx, fs, _, rfl, e, ty, T.first (j := 2) o'.kd_lt (by decide), a, b, d, d', _, o', rfl, ha, hb, ok, ok', rfl, fun H' s => ⟨_, rfl, q H' s⟩⟩))
  | tag tg lb msg => exact .inr (.inr (.inr ⟨a, dx, fs, _, rfl, e, ty, T.first (j := 3) o'.kd_lt (by decide), a, b, d, d', _, o', rfl, ha, hb, ok, ok', rfl, fun H' s => ⟨_, rfl, q H' s⟩⟩))
end

end Fk

set_option maxHeartbeats 4000000
/-! The texts of objects. -/
namespace Fk
open PySem PySem.Spec PyProof.Rows L2
theorem ax_app {x y : Str} (hx : AsX x) (hy : AsX y) : AsX (x ++ y) := fun u hu => by
  have hu : u ∈ TL.tl (x ++ y) := hu
  rw [TL.tl_append] at hu
  rcases List.mem_append.mp hu with hu | hu
  · exact hx u hu
  · exact hy u hu
theorem ax_by {x : Str} (h : (TL.tl x).all (fun u => decide (u < 128)) = true) : AsX x := fun u hu => of_decide_eq_true (List.all_eq_true.mp h u hu)
theorem ax_sub {x y : Str} (h : ∀ u ∈ TL.tl x, u ∈ TL.tl y) (hy : AsX y) : AsX x := fun u hu => hy u (h u hu)
theorem ax_hex : AsX HEX := ax_by (by decide +kernel)
theorem ax_ssg : AsX SSG := ax_by (by decide +kernel)
theorem ax_let : AsX LET := ax_by (by decide +kernel)
theorem ax_id {x : Str} (h : isIdF x = true) : AsX x := by
  unfold isIdF at h
  exact ax_sub (only_sub (Bool.and_eq_true_iff.mp h).2) ax_hex
theorem ax_word {x y : Str} (h : isWordF y x = true) (hy : AsX y) : AsX x := by
  unfold isWordF at h
  simp only [Bool.and_eq_true] at h
  exact ax_sub (only_sub h.2.2) hy
theorem ax_seg {x : Str} (h : isSegF x = true) : AsX x := by
  unfold isSegF at h
  exact ax_word (Bool.and_eq_true_iff.mp h).1 ax_ssg
theorem ax_text {x : Str} (h : isTextF x = true) : AsX x := fun u hu => by
  have h := List.all_eq_true.mp (Bool.and_eq_true_iff.mp h).2 u hu
  rcases Bool.or_eq_true_iff.mp h with h | h
  · have := of_decide_eq_true h
    omega
  · unfold plainC at h
    have h2 := (Bool.and_eq_true_iff.mp h).2
    have h3 : ¬ ([126] < [u]) := fun z => by
      rw [decide_eq_true z] at h2
      exact absurd h2 (by decide)
    have h4 : ¬ 126 < u := fun z => h3 (List.Lex.rel z)
    omega
theorem ax_kinds : ∀ k ∈ KINDS, AsX k := fun k hk => ax_by ((by decide +kernel : ∀ k ∈ KINDS, (TL.tl k).all (fun u => decide (u < 128)) = true) k hk)
theorem kinds_len : ∀ k ∈ KINDS, k.length ≤ 4 := by decide +kernel
/-! ### join by nothing -/
theorem nil_tl : TL.tl ("" : Str) = [] := by decide +kernel
theorem tl_join0 (ps : List Str) : TL.tl (Txt.join ("" : Str) ps) = (ps.map TL.tl).flatten := by
  rw [TL.join_eq, TL.tl_join, nil_tl]
  have e : ∀ ls : List (List Nat), TL.joinL [] ls = ls.flatten := by
    intro ls
    induction ls with
    | nil => rfl
    | cons l r ih =>
      cases r with
      | nil => show l = _; simp
      | cons m r =>
        show l ++ ([] ++ TL.joinL [] (m :: r)) = _
        rw [ih]
        simp
  exact e _
theorem ax_join0 {ps : List Str} (h : ∀ p ∈ ps, AsX p) : AsX (Txt.join ("" : Str) ps) := fun u hu => by
  have hu : u ∈ TL.tl (Txt.join ("" : Str) ps) := hu
  rw [tl_join0] at hu
  obtain ⟨l, hl, hu⟩ := List.mem_flatten.mp hu
  obtain ⟨p, hp, rfl⟩ := List.mem_map.mp hl
  exact h p hp u hu
theorem len_join0 (n : Nat) : ∀ ps : List Str, (∀ p ∈ ps, p.length ≤ n) → (Txt.join ("" : Str) ps).length ≤ ps.length * n := fun ps h => by
  rw [TL.len_tl, tl_join0, List.length_flatten]
  have e : ∀ ps : List Str, (∀ p ∈ ps, p.length ≤ n) → ((ps.map TL.tl).map List.length).sum ≤ ps.length * n := by
    intro ps
    induction ps with
    | nil => intro _; exact Nat.zero_le _
    | cons p r ih =>
      intro h
      rw [List.map_cons, List.map_cons, List.sum_cons, List.length_cons, Nat.succ_mul]
      have h1 := h p List.mem_cons_self
      rw [TL.len_tl] at h1
      have := ih fun q hq => h q (List.mem_cons_of_mem _ hq)
      omega
  exact e ps h
theorem len_app (x y : Str) : (x ++ y).length = x.length + y.length := by
  rw [TL.len_tl, TL.tl_append, List.length_append, ← TL.len_tl, ← TL.len_tl]
theorem empty_len : (Str.empty).length = 0 := by decide +kernel
theorem ax_empty : AsX Str.empty := ax_by (by decide +kernel)
/-! ### numbers -/
theorem ax_num {i : Int} (h : 0 ≤ i) : AsX (Str.ofString (toString i)) := fun u hu => by
  obtain ⟨n, rfl⟩ := Int.eq_ofNat_of_zero_le h
  have hu : u ∈ TL.tl (Str.ofString (toString ((n : Nat) : Int))) := hu
  rw [TL.tl_num] at hu
  have := TL.numL_digits n u hu
  omega
theorem num_len {i : Int} (h : 0 ≤ i) (h2 : i ≤ 1000000000000) : (Str.ofString (toString i)).length ≤ 13 := by
  obtain ⟨n, rfl⟩ := Int.eq_ofNat_of_zero_le h
  rw [TL.len_tl, TL.tl_num]
  exact TL.numL_len (by decide) (by omega)
/-! ### the texts -/
def rowF (e : Ent) : Str := Str.empty ++ e.2.1 ++ (" " : Str) ++ e.1 ++ (" " : Str) ++ e.2.2 ++ ("\n" : Str)
def parF (p : Str) : Str := Str.empty ++ ("parent " : Str) ++ p ++ ("\n" : Str)
def headF (t : Str) (ps : List Str) (au : Str) (tm : Int) : Str := Str.empty ++ ("commit\ntree " : Str) ++ t ++ ("\n" : Str) ++ Txt.join ("" : Str) (ps.map parF) ++ ("author " : Str) ++ au ++ ("\ntime " : Str) ++ Str.ofString (toString tm) ++ ("\n\n" : Str)
def tagF (tg lb msg : Str) : Str := Str.empty ++ ("tag\ntarget " : Str) ++ tg ++ ("\nlabel " : Str) ++ lb ++ ("\n\n" : Str) ++ msg
def encF : Ob → Str
  | .blob x => ("blob\n" : Str) ++ x
  | .tree es => ("tree\n" : Str) ++ Txt.join ("" : Str) (es.map rowF)
  | .commit t ps au tm msg => headF t ps au tm ++ msg
  | .tag tg lb msg => tagF tg lb msg
theorem row_ax {e : Ent} (h : EntOk e) : AsX (rowF e) := ax_app (ax_app (ax_app (ax_app (ax_app (ax_app ax_empty (ax_kinds _ h.2.1)) (ax_by (by decide +kernel))) (ax_seg h.1)) (ax_by (by decide +kernel))) (ax_id h.2.2)) (ax_by (by decide +kernel))
theorem par_ax {p : Str} (h : isIdF p = true) : AsX (parF p) := ax_app (ax_app (ax_app ax_empty (ax_by (by decide +kernel))) (ax_id h)) (ax_by (by decide +kernel))
theorem head_ax {t : Str} {ps : List Str} {au : Str} {tm : Int} (h1 : isIdF t = true) (h2 : ∀ p ∈ ps, isIdF p = true) (h3 : isWordF LET au = true) (h4 : 0 ≤ tm) : AsX (headF t ps au tm) := by
  refine ax_app (ax_app (ax_app (ax_app (ax_app (ax_app (ax_app (ax_app (ax_app ax_empty (ax_by (by decide +kernel))) (ax_id h1)) (ax_by (by decide +kernel))) (ax_join0 fun p hp => ?_)) (ax_by (by decide +kernel))) (ax_word h3 ax_let)) (ax_by (by decide +kernel))) (ax_num h4)) (ax_by (by decide +kernel))
  obtain ⟨q, hq, rfl⟩ := List.mem_map.mp hp
  exact par_ax (h2 q hq)
theorem enc_ax {o : Ob} (h : o.ok) : AsX (encF o) := by
  cases o with
  | blob x => exact ax_app (ax_by (by decide +kernel)) (ax_text h)
  | tree es =>
    refine ax_app (ax_by (by decide +kernel)) (ax_join0 fun p hp => ?_)
    obtain ⟨e, he, rfl⟩ := List.mem_map.mp hp
    exact row_ax (h.2.2.2 e he)
  | commit t ps au tm msg =>
    obtain ⟨o1, o2, o3, o4, o5, o6, o7, o8, o9⟩ := h
    exact ax_app (head_ax o1 o4 o5 o6) (ax_text o8)
  | tag tg lb msg =>
    obtain ⟨o1, o2, o8, o9⟩ := h
    exact ax_app (ax_app (ax_app (ax_app (ax_app (ax_app ax_empty (ax_by (by decide +kernel))) (ax_id o1)) (ax_by (by decide +kernel))) (ax_seg o2)) (ax_by (by decide +kernel))) (ax_text o8)
theorem lit1 : (" " : Str).length = 1 ∧ ("\n" : Str).length = 1 ∧ ("parent " : Str).length = 7 ∧ ("commit\ntree " : Str).length = 12 ∧ ("author " : Str).length = 7 ∧ ("\ntime " : Str).length = 6 ∧ ("\n\n" : Str).length = 2 ∧ ("tag\ntarget " : Str).length = 11 ∧ ("\nlabel " : Str).length = 7 ∧ ("blob\n" : Str).length = 5 ∧ ("tree\n" : Str).length = 5 := by decide +kernel
theorem row_len {e : Ent} (h : EntOk e) : (rowF e).length ≤ 35 := by
  obtain ⟨l1, l2, _⟩ := lit1
  unfold rowF
  simp only [len_app, empty_len, l1, l2]
  have h1 := seg_len h.1
  have h2 := kinds_len _ h.2.1
  have h3 : e.2.2.length = 16 := of_decide_eq_true (Bool.and_eq_true_iff.mp (show (decide _ && _) = true from h.2.2)).1
  omega
theorem id_len {x : Str} (h : isIdF x = true) : x.length = 16 := of_decide_eq_true (Bool.and_eq_true_iff.mp (show (decide _ && _) = true from h)).1
theorem par_len {p : Str} (h : isIdF p = true) : (parF p).length = 24 := by
  obtain ⟨l1, l2, l3, _⟩ := lit1
  unfold parF
  simp only [len_app, empty_len, l3, l2, id_len h]
theorem rows_len {es : List Ent} (h : EntsOk es) : (Txt.join ("" : Str) (es.map rowF)).length ≤ 1050 := by
  have := len_join0 35 (es.map rowF) fun p hp => by
    obtain ⟨e, he, rfl⟩ := List.mem_map.mp hp
    exact row_len (h.2.2.2 e he)
  rw [List.length_map] at this
  have := h.1
  omega
theorem pars_len {ps : List Str} (h : ∀ p ∈ ps, isIdF p = true) (hl : ps.length ≤ 6) : (Txt.join ("" : Str) (ps.map parF)).length ≤ 144 := by
  have := len_join0 24 (ps.map parF) fun p hp => by
    obtain ⟨e, he, rfl⟩ := List.mem_map.mp hp
    rw [par_len (h e he)]
    exact Nat.le_refl _
  rw [List.length_map] at this
  omega
theorem word_len {x y : Str} (h : isWordF y x = true) : x.length ≤ 12 := by
  unfold isWordF at h
  simp only [Bool.and_eq_true] at h
  exact of_decide_eq_true h.2.1
theorem head_len {t : Str} {ps : List Str} {au : Str} {tm : Int} (h1 : isIdF t = true) (h2 : ∀ p ∈ ps, isIdF p = true) (hl : ps.length ≤ 6) (h3 : isWordF LET au = true) (h4 : 0 ≤ tm) (h5 : tm ≤ 1000000000000) : (headF t ps au tm).length ≤ 300 := by
  obtain ⟨l1, l2, l3, l4, l5, l6, l7, _⟩ := lit1
  unfold headF
  simp only [len_app, empty_len, l2, l4, l5, l6, l7, id_len h1]
  have := pars_len h2 hl
  have := word_len h3
  have := num_len h4 h5
  omega
theorem enc_len {o : Ob} (h : o.ok) : (encF o).length ≤ 3000 := by
  obtain ⟨l1, l2, l3, l4, l5, l6, l7, l8, l9, l10, l11⟩ := lit1
  cases o with
  | blob x =>
    show (_ ++ _ : Str).length ≤ _
    have : x.length ≤ 2000 := of_decide_eq_true (Bool.and_eq_true_iff.mp (show (decide _ && _) = true from h)).1
    simp only [len_app, l10]
    omega
  | tree es =>
    show (_ ++ _ : Str).length ≤ _
    simp only [len_app, l11]
    have := rows_len h
    omega
  | commit t ps au tm msg =>
    obtain ⟨o1, o2, o3, o4, o5, o6, o7, o8, o9⟩ := h
    show (_ ++ _ : Str).length ≤ _
    simp only [len_app]
    have := head_len o1 o4 o2 o5 o6 o7
    omega
  | tag tg lb msg =>
    obtain ⟨o1, o2, o8, o9⟩ := h
    show (tagF tg lb msg).length ≤ _
    unfold tagF
    simp only [len_app, empty_len, l8, l9, l7, id_len o1]
    have := seg_len o2
    omega
end Fk

set_option maxHeartbeats 4000000
/-! A comprehension over the items of a locked dict. -/
namespace Fk
open PySem PySem.Spec PyProof.Rows L2
theorem lc_items {d D : Addr} {od : Obj} {kvs : List (Key × V)} {σ : L2.St} {vs : List Nat} {g : TG} {tt : TT} {te : TE} {Q : Hp → Prop} {H1 : Hp} (f : Nat → V) (hD1 : H1 D = none) (hd : H1 d = some (.frz od (.dK kvs))) (hl : kvs.length ≤ 1000000)
    (hs : ∀ i k v T H, kvs[i]? = some (k, v) → Same H1 H → H T = some (.tup [kV k, v]) → ∀ (N : VK) (M : Hp → Prop), (∀ H3, Same H H3 → N (f i) H3) →
      g (.ref T) (wipe σ vs) H fun σ2 H2 => wipe σ2 vs = wipe σ vs ∧ tt σ2 H2 fun bb H3 => if bb = true then te σ2 H3 N else M H3)
    (hdn : ∀ H, Same H1 H → H D = some (.lst ((List.range kvs.length).map f)) → Q H) :
    ∃ W : Nat → Nat → Hp → Prop, (∃ m, W 0 m (upd H1 D (.lst []))) ∧ ∀ k m H, W k m H →
      ((Iti d od kvs).stop k H ∧ Q H) ∨ ((Iti d od kvs).go k H ∧ ∃ Nx : Hp → Prop, (∀ H', Nx H' → ∃ m', m' < m ∧ W (k + 1) m' H') ∧ ∀ x H', (Iti d od kvs).yld k H x H' → g x (wipe σ vs) H' fun σ2 H2 => wipe σ2 vs = wipe σ vs ∧ tt σ2 H2 fun bb H3 =>
        if bb = true then te σ2 H3 fun y H4 => ∃ acc, H4 D = some (.lst acc) ∧ acc.length < sizeLine ∧ Nx (upd H4 D (.lst (acc ++ [y]))) else Nx H3) := by
  refine ⟨fun k m H => m = kvs.length - k ∧ k ≤ kvs.length ∧ Same H1 H ∧ H D = some (.lst ((List.range k).map f)), ⟨kvs.length, by omega, Nat.zero_le _, same_new hD1, upd_same⟩, ?_⟩
  rintro k m H ⟨rfl, hk, s1, hD⟩
  by_cases hlt : k < kvs.length
  · refine .inr ⟨⟨s1 _ _ hd, hlt⟩, fun H' => Same H1 H' ∧ H' D = some (.lst ((List.range (k + 1)).map f)), fun H' q => ⟨kvs.length - (k + 1), by omega, rfl, hlt, q⟩, fun x H' y => ?_⟩
    obtain ⟨T, u, v, gx, rfl, hT, rfl⟩ := y
    have s2 := same_new (o := .tup [kV u, v]) hT
    refine hs k u v T _ gx (s1.trans s2) upd_same _ _ fun H3 s3 => ⟨_, s3 _ _ (s2 _ _ hD), small_lt (by rw [List.length_map, List.length_range]; omega), fun c o e => ?_, ?_⟩
    · rw [upd_ne (ne_of_none e hD1)]
      exact s3 _ _ (s2 _ _ (s1 _ _ e))
    · rw [upd_same, List.range_succ, List.map_append]
      rfl
  · have e : k = kvs.length := by omega
    subst e
    exact .inl ⟨⟨s1 _ _ hd, Nat.le_refl _⟩, hdn H s1 hD⟩
/-- an f-string's reading, by a name -/
def tJoin (ts : List TE) : TE := fun σ H Q => tJs ts Str.empty σ H fun out H1 => Q (.str out) H1
theorem pe_joinedT {X : Cx} {v1 v2 : Expr} {rest : List Expr} {ts : List TE} {pos : Pos} (h : PJ X (v1 :: v2 :: rest) ts) : PE X (.JoinedStr (v1 :: v2 :: rest) pos) (tJoin ts) := pe_joined h
end Fk

set_option maxHeartbeats 4000000
namespace Fk
open PySem PySem.Spec PyProof.Rows L2
section
variable {P : Program} {w : World} {K : PySem.W.Frag} {mg : Str → Option Value} {base : Heap} {c : C4} {CS cX iX ek pd : Addr}
/-! ### properties -/
theorem getSp_len {C : Addr} {f : Str} (vs : List V) (H : Hp) (Q : VK) (E : XK) (h : getSp C f vs H Q E) : vs.length = 1 := by
  obtain ⟨a, dx, fs, v, rfl, _⟩ := h
  rfl
theorem p_Blob_text (T : TopO K mg c CS cX iX ek pd) : Prp P w K mg base 1 c.B "text" (getSp c.B "_text") := by
  refine prp_of T.cB T.pBtext sc_Blob_text (fun _ _ _ _ _ _ us hl => match us, hl with | [_], _ => rfl) getSp_len (fun f cdv A outer s H vs Q E hr h => ?_)
  obtain ⟨a, dx, fs, v, rfl, ha, hl, q⟩ := h
  refine ⟨_, (pss_one (ps_ret (pe_fld (pv 0) rfl))), ?_⟩
  exact ⟨.ref a, rfl, a, c.B, dx, fs, v, rfl, ha, T.cB, T.nB_text, hl, q⟩
theorem p_Commit_tree (T : TopO K mg c CS cX iX ek pd) : Prp P w K mg base 1 c.C "tree" (getSp c.C "_tree") := by
  refine prp_of T.cC T.pCtree sc_Commit_tree (fun _ _ _ _ _ _ us hl => match us, hl with | [_], _ => rfl) getSp_len (fun f cdv A outer s H vs Q E hr h => ?_)
  obtain ⟨a, dx, fs, v, rfl, ha, hl, q⟩ := h
  refine ⟨_, (pss_one (ps_ret (pe_fld (pv 0) rfl))), ?_⟩
  exact ⟨.ref a, rfl, a, c.C, dx, fs, v, rfl, ha, T.cC, T.nC_tree, hl, q⟩
theorem p_Commit_parents (T : TopO K mg c CS cX iX ek pd) : Prp P w K mg base 1 c.C "parents" (getSp c.C "_parents") := by
  refine prp_of T.cC T.pCparents sc_Commit_parents (fun _ _ _ _ _ _ us hl => match us, hl with | [_], _ => rfl) getSp_len (fun f cdv A outer s H vs Q E hr h => ?_)
  obtain ⟨a, dx, fs, v, rfl, ha, hl, q⟩ := h
  refine ⟨_, (pss_one (ps_ret (pe_fld (pv 0) rfl))), ?_⟩
  exact ⟨.ref a, rfl, a, c.C, dx, fs, v, rfl, ha, T.cC, T.nC_parents, hl, q⟩
theorem p_Commit_author (T : TopO K mg c CS cX iX ek pd) : Prp P w K mg base 1 c.C "author" (getSp c.C "_author") := by
  refine prp_of T.cC T.pCauthor sc_Commit_author (fun _ _ _ _ _ _ us hl => match us, hl with | [_], _ => rfl) getSp_len (fun f cdv A outer s H vs Q E hr h => ?_)
  obtain ⟨a, dx, fs, v, rfl, ha, hl, q⟩ := h
  refine ⟨_, (pss_one (ps_ret (pe_fld (pv 0) rfl))), ?_⟩
  exact ⟨.ref a, rfl, a, c.C, dx, fs, v, rfl, ha, T.cC, T.nC_author, hl, q⟩
theorem p_Commit_time (T : TopO K mg c CS cX iX ek pd) : Prp P w K mg base 1 c.C "time" (getSp c.C "_time") := by
  refine prp_of T.cC T.pCtime sc_Commit_time (fun _ _ _ _ _ _ us hl => match us, hl with | [_], _ => rfl) getSp_len (fun f cdv A outer s H vs Q E hr h => ?_)
  obtain ⟨a, dx, fs, v, rfl, ha, hl, q⟩ := h
  refine ⟨_, (pss_one (ps_ret (pe_fld (pv 0) rfl))), ?_⟩
  exact ⟨.ref a, rfl, a, c.C, dx, fs, v, rfl, ha, T.cC, T.nC_time, hl, q⟩
theorem p_Commit_message (T : TopO K mg c CS cX iX ek pd) : Prp P w K mg base 1 c.C "message" (getSp c.C "_message") := by
  refine prp_of T.cC T.pCmessage sc_Commit_message (fun _ _ _ _ _ _ us hl => match us, hl with | [_], _ => rfl) getSp_len (fun f cdv A outer s H vs Q E hr h => ?_)
  obtain ⟨a, dx, fs, v, rfl, ha, hl, q⟩ := h
  refine ⟨_, (pss_one (ps_ret (pe_fld (pv 0) rfl))), ?_⟩
  exact ⟨.ref a, rfl, a, c.C, dx, fs, v, rfl, ha, T.cC, T.nC_message, hl, q⟩
theorem p_Tag_target (T : TopO K mg c CS cX iX ek pd) : Prp P w K mg base 1 c.G "target" (getSp c.G "_target") := by
  refine prp_of T.cG T.pGtarget sc_Tag_target (fun _ _ _ _ _ _ us hl => match us, hl with | [_], _ => rfl) getSp_len (fun f cdv A outer s H vs Q E hr h => ?_)
  obtain ⟨a, dx, fs, v, rfl, ha, hl, q⟩ := h
  refine ⟨_, (pss_one (ps_ret (pe_fld (pv 0) rfl))), ?_⟩
  exact ⟨.ref a, rfl, a, c.G, dx, fs, v, rfl, ha, T.cG, T.nG_target, hl, q⟩
theorem p_Tag_label (T : TopO K mg c CS cX iX ek pd) : Prp P w K mg base 1 c.G "label" (getSp c.G "_label") := by
  refine prp_of T.cG T.pGlabel sc_Tag_label (fun _ _ _ _ _ _ us hl => match us, hl with | [_], _ => rfl) getSp_len (fun f cdv A outer s H vs Q E hr h => ?_)
  obtain ⟨a, dx, fs, v, rfl, ha, hl, q⟩ := h
  refine ⟨_, (pss_one (ps_ret (pe_fld (pv 0) rfl))), ?_⟩
  exact ⟨.ref a, rfl, a, c.G, dx, fs, v, rfl, ha, T.cG, T.nG_label, hl, q⟩
theorem p_Tag_message (T : TopO K mg c CS cX iX ek pd) : Prp P w K mg base 1 c.G "message" (getSp c.G "_message") := by
  refine prp_of T.cG T.pGmessage sc_Tag_message (fun _ _ _ _ _ _ us hl => match us, hl with | [_], _ => rfl) getSp_len (fun f cdv A outer s H vs Q E hr h => ?_)
  obtain ⟨a, dx, fs, v, rfl, ha, hl, q⟩ := h
  refine ⟨_, (pss_one (ps_ret (pe_fld (pv 0) rfl))), ?_⟩
  exact ⟨.ref a, rfl, a, c.G, dx, fs, v, rfl, ha, T.cG, T.nG_message, hl, q⟩
def spEntries (c : C4) : Sp := fun vs H Q _ => ∃ (a dx d : Addr) (kvs : List (Key × V)), vs = [.ref a] ∧ H a = some (.ins c.T dx [("_entries", .ref d)]) ∧ H d = some (.dK kvs) ∧ ∀ p, H p = none → Q (.ref p) (upd H p (.dK kvs))
theorem p_Tree_entries (T : TopO K mg c CS cX iX ek pd) : Prp P w K mg base 1 c.T "entries" (spEntries c) := by
  refine prp_of T.cT T.pTentries sc_Tree_entries (fun _ _ _ _ _ _ us hl => match us, hl with | [_], _ => rfl) (fun vs H Q E h => ?_) (fun f cdv A outer s H vs Q E hr h => ?_)
  · obtain ⟨a, dx, d, kvs, rfl, _⟩ := h
    rfl
  · obtain ⟨a, dx, d, kvs, rfl, ha, hd, q⟩ := h
    refine ⟨_, (pss_one (ps_ret (pe_callTy call_dictD (by rfl) T.z_dict (by decide +kernel) (pa_cons (pe_fld (pv 0) rfl) pa_nil)))), ?_⟩
    exact ⟨.ref a, rfl, a, c.T, dx, _, _, rfl, ha, T.cT, T.nT_entries, rfl, d, kvs, rfl, .inl hd, q⟩
/-! ### bytes -/
theorem EntsAt.at {H : Hp} : ∀ {t : Tab} {es : List Ent}, EntsAt K H t es → ∀ {i : Nat} {k : Key} {v : V}, (kT t)[i]? = some (k, v) → ∃ e, es[i]? = some e ∧ k = .inr e.1 ∧ ∃ q, v = .ref q ∧ TupK K H q (entL e)
  | _, _, .nil, i, k, v, h => by cases i <;> cases h
  | _, _, .cons (a := p) (b := e) ⟨e1, q, e2, e3⟩ r, 0, k, v, h => by
    cases h
    exact ⟨e, rfl, by show Sum.inr p.1 = _; rw [e1], q, e2, e3⟩
  | _, _, .cons (a := p) (b := e) _ r, i + 1, k, v, h => EntsAt.at r (i := i) h
def spEnc (K : PySem.W.Frag) (c : C4) : Sp := fun vs H Q _ => ∃ (a d : Addr) (o : Ob), vs = [.ref a] ∧ ObAt K c H a d o ∧ o.ok ∧ ∀ H', Same H H' → Q (.byt (byts (encF o))) H'
theorem c_encode (T : TopO K mg c CS cX iX ek pd) : C8.Cal P w K mg base 3 "encode" (spEnc K c) [] := by
  refine cal_of T.d_encode sc_encode (fun _ _ _ _ _ _ us hl => match us, hl with | [_], _ => rfl) (fun vs H Q E h => ?_) (fun f cdv A outer s H vs Q E hr h => ?_)
  · obtain ⟨a, d, o, rfl, _⟩ := h
    rfl
  · obtain ⟨a, d, o, rfl, ha, ok, q⟩ := h
    have ax := enc_ax ok
    have ln := enc_len ok
    refine ⟨_, (pss_cons (ps_if (pt_val (pe_callB call_isi (by rfl) T.z_isinstance (by decide +kernel) (pa_cons (pv 0) (pa_cons (C8.pe_gc (by rfl) T.g_Blob) pa_nil))))
      (pss_one (ps_ret (pe_bm PySem.F.plainAttrs_str PySem.F.slot_str_encode PySem.F.type_str_encode mt_ascii (pe_op op_add_str pe_str (pe_pr (p_Blob_text T) hr (by decide) (pv 0))) (pa_cons pe_str pa_nil))))
      pss_nil)
      (pss_cons (ps_if (pt_val (pe_callB call_isi (by rfl) T.z_isinstance (by decide +kernel) (pa_cons (pv 0) (pa_cons (C8.pe_gc (by rfl) T.g_Tree) pa_nil))))
      (pss_cons (ps_setLc (i := 1) (own := [("segment", 2), ("kind", 3), ("name", 4)]) (g := _) (by rfl) sc_encode.nd rfl rfl (sw_true rfl rfl rfl (by decide +kernel)) (pi_items (pe_locked (pe_pr (p_Tree_entries T) hr (by decide) (pv 0)))) (blkOk_by (own := [("segment", 2), ("kind", 3), ("name", 4)]) (N := ["thing", "lines", "segment", "kind", "name", "parents", "head"]) (sc := C8.fnScope s_encode) (by decide +kernel)) (fun _ _ _ _ _ => (pg_tupK (K := K) (n := 2) rfl rfl (pgs_cons (pg_name (i := 2) sc_encode.nd rfl (Or.inl rfl)) (pgs_cons (pg_tupK (K := K) (n := 2) rfl rfl (pgs_cons (pg_name (i := 3) sc_encode.nd rfl (Or.inl rfl)) (pgs_cons (pg_name (i := 4) sc_encode.nd rfl (Or.inl rfl)) pgs_nil))) pgs_nil)))) (fun _ _ _ _ _ => pts_nil) (fun _ _ _ _ _ => (pe_joinedT (.cons (pe_fmt (pv 3)) (.cons pe_str (.cons (pe_fmt (pv 2)) (.cons pe_str (.cons (pe_fmt (pv 4)) (.cons pe_str .nil)))))))))
      (pss_one (ps_ret (pe_bm PySem.F.plainAttrs_str PySem.F.slot_str_encode PySem.F.type_str_encode mt_ascii (pe_op op_add_str pe_str (pe_join pe_str (pv 1))) (pa_cons pe_str pa_nil)))))
      pss_nil)
      (pss_cons (ps_if (pt_val (pe_callB call_isi (by rfl) T.z_isinstance (by decide +kernel) (pa_cons (pv 0) (pa_cons (C8.pe_gc (by rfl) T.g_Commit) pa_nil))))
      (pss_cons (ps_set (i := 5) sc_encode.nd rfl (Or.inl rfl) (pe_join pe_str (pe_lc (own := [("name", 4)]) (g := gName 4) (by rfl) sc_encode.nd (pi_tup (pe_pr (p_Commit_parents T) hr (by decide) (pv 0))) (blkOk_by (own := [("name", 4)]) (N := ["thing", "lines", "segment", "kind", "name", "parents", "head"]) (sc := C8.fnScope s_encode) (by decide +kernel)) (fun _ _ _ _ _ => (pg_name (i := 4) sc_encode.nd rfl (Or.inl rfl))) (fun _ _ _ _ _ => pts_nil) (fun _ _ _ _ _ => (pe_joinedT (.cons pe_str (.cons (pe_fmt (pv 4)) (.cons pe_str .nil))))))))
      (pss_cons (ps_set (i := 6) sc_encode.nd rfl (Or.inl rfl) (pe_joinedT (.cons pe_str (.cons (pe_fmt (pe_pr (p_Commit_tree T) hr (by decide) (pv 0))) (.cons pe_str (.cons (pe_fmt (pv 5)) (.cons pe_str (.cons (pe_fmt (pe_pr (p_Commit_author T) hr (by decide) (pv 0))) (.cons pe_str (.cons (pe_fmt (pe_pr (p_Commit_time T) hr (by decide) (pv 0))) (.cons pe_str .nil)))))))))))
      (pss_one (ps_ret (pe_bm PySem.F.plainAttrs_str PySem.F.slot_str_encode PySem.F.type_str_encode mt_ascii (pe_op op_add_str (pv 6) (pe_pr (p_Commit_message T) hr (by decide) (pv 0))) (pa_cons pe_str pa_nil))))))
      pss_nil)
      (pss_cons (ps_if (pt_val (pe_callB call_isi (by rfl) T.z_isinstance (by decide +kernel) (pa_cons (pv 0) (pa_cons (C8.pe_gc (by rfl) T.g_Tag) pa_nil))))
      (pss_one (ps_ret (pe_bm PySem.F.plainAttrs_str PySem.F.slot_str_encode PySem.F.type_str_encode mt_ascii (pe_joinedT (.cons pe_str (.cons (pe_fmt (pe_pr (p_Tag_target T) hr (by decide) (pv 0))) (.cons pe_str (.cons (pe_fmt (pe_pr (p_Tag_label T) hr (by decide) (pv 0))) (.cons pe_str (.cons (pe_fmt (pe_pr (p_Tag_message T) hr (by decide) (pv 0))) .nil))))))) (pa_cons pe_str pa_nil))))
      pss_nil)
      (pss_one ps_never))))), ?_⟩
    refine ⟨.ref a, rfl, ?_⟩
    dsimp only [tCons, tC, tNil]
    refine T.isi (j := 0) ha (by decide) ⟨_, rfl, ?_⟩
    cases o with
    | blob x =>
      obtain ⟨dx, ha⟩ := ha
      have ln : (("blob\n" : Str) ++ x).length ≤ 3000 := ln
      rw [len_app] at ln
      exact iteT ⟨.ref a, rfl, a, dx, _, rfl, ha, a, dx, _, .str x, rfl, ha, rfl, _, _, rfl, rfl, small_line (by omega), rfl, _, rfl, rfl, ax, by rw [len_app]; omega, q H (Same.refl H)⟩
    | tree es =>
      refine iteF ⟨.ref a, rfl, ?_⟩
      dsimp only [tCons, tC, tNil]
      refine T.isi (j := 1) ha (by decide) ⟨_, rfl, iteT ?_⟩
      obtain ⟨dx, t, ha, hd, hE⟩ := ha
      refine ⟨.ref a, rfl, a, dx, _, rfl, ha, a, dx, d, kT t, rfl, ha, hd, fun p hp => ⟨p, _, rfl, upd_same, trivial, fun od => ⟨p, od, kT t, rfl, upd_same, fun D hD => ?_⟩⟩⟩
      have sL : Same H (upd (upd H p (.dK (kT t))) p (.frz od (.dK (kT t)))) := fun b o z => by
        have n := ne_of_none z hp
        rw [upd_ne n, upd_ne n]
        exact z
      have hL : (upd (upd H p (.dK (kT t))) p (.frz od (.dK (kT t)))) p = some (.frz od (.dK (kT t))) := upd_same
      generalize upd (upd H p (.dK (kT t))) p (.frz od (.dK (kT t))) = HL at sL hL hD
      have lt : (kT t).length = es.length := by
        rw [len_kT]
        have := congrArg List.length hE.keys
        rwa [List.length_map, List.length_map] at this
      refine lc_items (fun i => .str ((es.map rowF).getD i ("" : Str))) hD hL (by have := ok.1; omega) (fun i k v T1 H2 hi s2 hT N M hN => ?_) (fun H2 s2 h2 => ?_)
      · obtain ⟨e, he, ek', q0, ev, et⟩ := hE.at hi
        have et2 := et.keep (TupKeep.of (sL.trans s2))
        rw [ek', ev] at hT
        have hm : e ∈ es := List.mem_of_getElem? he
        have ro := row_len (ok.2.2.2 e hm)
        have e1 : (es.map rowF).getD i ("" : Str) = rowF e := by
          rw [List.getD_eq_getElem?_getD, List.getElem?_map, he]
          rfl
        rw [e1] at hN
        unfold rowF at ro hN
        simp only [len_app, empty_len] at ro
        exact ⟨T1, _, rfl, SqT.of hT, rfl, _, _, rfl, _, _, rfl, q0, _, rfl, et2.sq, rfl, _, _, rfl, _, _, rfl, rfl, rfl, rfl, yes_ ⟨_, rfl, .inl ⟨_, rfl, small_line (by first | omega | (simp only [len_app, empty_len]; omega)), _, rfl, small_line (by first | omega | (simp only [len_app, empty_len]; omega)), _, rfl, small_line (by first | omega | (simp only [len_app, empty_len]; omega)), _, rfl, .inl ⟨_, rfl, small_line (by first | omega | (simp only [len_app, empty_len]; omega)), _, rfl, small_line (by first | omega | (simp only [len_app, empty_len]; omega)), _, rfl, small_line (by first | omega | (simp only [len_app, empty_len]; omega)), _, rfl, .inl ⟨_, rfl, small_line (by first | omega | (simp only [len_app, empty_len]; omega)), _, rfl, small_line (by first | omega | (simp only [len_app, empty_len]; omega)), _, rfl, small_line (by first | omega | (simp only [len_app, empty_len]; omega)), hN H2 (Same.refl H2)⟩⟩⟩⟩⟩
      · have e2 : (List.range (kT t).length).map (fun i => V.str ((es.map rowF).getD i ("" : Str))) = (es.map rowF).map V.str := by
          rw [lt]
          refine List.ext_getElem (by simp) fun i h1 h2 => ?_
          simp only [List.length_map, List.length_range] at h1 h2
          simp [List.getD_eq_getElem?_getD, h1]
        rw [e2] at h2
        have ln : (("tree\n" : Str) ++ Txt.join ("" : Str) (es.map rowF)).length ≤ 3000 := ln
        rw [len_app] at ln
        have s0 : ("" : Str).length = 0 := by decide +kernel
        have rl := sum_most 35 (es.map rowF) fun p hp => by
          obtain ⟨e, he, rfl⟩ := List.mem_map.mp hp
          exact row_len (ok.2.2.2 e he)
        rw [List.length_map] at rl
        have := ok.1
        exact ⟨⟨_, rfl⟩, .ref D, rfl, ("" : Str), D, es.map rowF, rfl, rfl, .inl (SqL.of h2), small_line (by rw [s0]; omega), _, _, rfl, rfl, small_line (by omega), rfl, _, rfl, rfl, ax, by rw [len_app]; omega, q H2 (sL.trans s2)⟩
    | commit t ps au tm msg =>
      obtain ⟨o1, o2, o3, o4, o5, o6, o7, o8, o9⟩ := ok
      refine iteF ⟨.ref a, rfl, ?_⟩
      dsimp only [tCons, tC, tNil]
      refine T.isi (j := 1) ha (by decide) ⟨_, rfl, iteF ⟨.ref a, rfl, ?_⟩⟩
      dsimp only [tCons, tC, tNil]
      refine T.isi (j := 2) ha (by decide) ⟨_, rfl, iteT ?_⟩
      obtain ⟨dx, p, ha, hp⟩ := ha
      refine ⟨⟨_, rfl⟩, .ref a, rfl, a, dx, _, rfl, ha, a, dx, _, .ref p, rfl, ha, rfl, p, rfl, ⟨_, hp.sq⟩, fun D hD => ?_⟩
      refine lc_pure (i := 4) (us := ps) (g := V.str) yields_tup (fun u => .str (parF u)) (fun _ => true) hD (fun H s => (hp.keep (TupKeep.of s)).sq) (fun H u _ hu R r => r H (Same.refl H))
        (fun H u _ hu _ R r => ?_) (by omega) (fun H2 s2 h2 => ?_)
      · have pl := par_len (o4 u hu)
        have r := r H (Same.refl H)
        unfold parF at pl r
        simp only [len_app, empty_len] at pl
        exact ⟨_, rfl, small_line (by first | omega | (simp only [len_app, empty_len]; omega)), _, rfl, .inl ⟨_, rfl, small_line (by first | omega | (simp only [len_app, empty_len]; omega)), _, rfl, small_line (by first | omega | (simp only [len_app, empty_len]; omega)), _, rfl, small_line (by first | omega | (simp only [len_app, empty_len]; omega)), r⟩⟩
      · rw [filt_all] at h2
        have e2 : (ps.map fun u => V.str (parF u)) = (ps.map parF).map V.str := by rw [List.map_map]; rfl
        rw [e2] at h2
        have s0 : ("" : Str).length = 0 := by decide +kernel
        have pl := pars_len o4 o2
        have ha2 := s2 _ _ ha
        have hl := head_len o1 o4 o2 o5 o6 o7
        have ax : AsX (headF t ps au tm ++ msg) := ax
        have q := q H2 s2
        have q : Q (.byt (byts (headF t ps au tm ++ msg))) H2 := q
        have tl : tm.natAbs.log2 < 1920 := PySem.Flt.log2_lt_of (k := 1920) (by decide) (by omega)
        have sl := sum_most 24 (ps.map parF) fun p hp => by
          obtain ⟨e, he, rfl⟩ := List.mem_map.mp hp
          rw [par_len (o4 e he)]
          exact Nat.le_refl _
        rw [List.length_map] at sl
        refine ⟨("" : Str), D, ps.map parF, rfl, rfl, .inl (SqL.of h2), small_line (by rw [s0]; omega), ?_⟩
        have fin : ∀ H3 : Hp, H3 = H2 → True := fun _ _ => trivial
        unfold headF at hl q ax
        generalize Txt.join ("" : Str) (ps.map parF) = J at hl q ax
        simp only [len_app, empty_len] at hl
        refine ⟨_, rfl, small_line (by first | omega | (simp only [len_app, empty_len]; omega)), .ref a, rfl, a, dx, _, rfl, ha2, a, dx, _, .str t, rfl, ha2, rfl, .inl ⟨_, rfl, small_line (by first | omega | (simp only [len_app, empty_len]; omega)), _, rfl, small_line (by first | omega | (simp only [len_app, empty_len]; omega)), _, rfl, small_line (by first | omega | (simp only [len_app, empty_len]; omega)), _, rfl, .inl ⟨_, rfl, small_line (by first | omega | (simp only [len_app, empty_len]; omega)), _, rfl, small_line (by first | omega | (simp only [len_app, empty_len]; omega)), _, rfl, small_line (by first | omega | (simp only [len_app, empty_len]; omega)), .ref a, rfl, a, dx, _, rfl, ha2, a, dx, _, .str au, rfl, ha2, rfl, .inl ⟨_, rfl, small_line (by first | omega | (simp only [len_app, empty_len]; omega)), _, rfl, small_line (by first | omega | (simp only [len_app, empty_len]; omega)), _, rfl, small_line (by first | omega | (simp only [len_app, empty_len]; omega)), .ref a, rfl, a, dx, _, rfl, ha2, a, dx, _, .int tm, rfl, ha2, rfl, .inr ⟨tm, rfl, tl, _, rfl, small_line (by first | omega | (simp only [len_app, empty_len]; omega)), _, rfl, small_line (by first | omega | (simp only [len_app, empty_len]; omega)), ?_⟩⟩⟩⟩⟩
        exact ⟨_, rfl, .ref a, rfl, a, dx, _, rfl, ha2, a, dx, _, .str msg, rfl, ha2, rfl, _, _, rfl, rfl, small_line (by first | omega | (simp only [len_app, empty_len]; omega)), rfl, _, rfl, rfl, ax, by simp only [len_app, empty_len]; omega, q⟩
    | tag tg lb msg =>
      obtain ⟨o1, o2, o8, o9⟩ := ok
      refine iteF ⟨.ref a, rfl, ?_⟩
      dsimp only [tCons, tC, tNil]
      refine T.isi (j := 1) ha (by decide) ⟨_, rfl, iteF ⟨.ref a, rfl, ?_⟩⟩
      dsimp only [tCons, tC, tNil]
      refine T.isi (j := 2) ha (by decide) ⟨_, rfl, iteF ⟨.ref a, rfl, ?_⟩⟩
      dsimp only [tCons, tC, tNil]
      refine T.isi (j := 3) ha (by decide) ⟨_, rfl, iteT ?_⟩
      obtain ⟨dx, ha⟩ := ha
      have ln : (tagF tg lb msg).length ≤ 3000 := ln
      have ax : AsX (tagF tg lb msg) := ax
      have q : Q (.byt (byts (tagF tg lb msg))) H := q H (Same.refl H)
      unfold tagF at ln ax q
      simp only [len_app, empty_len] at ln
      exact ⟨_, rfl, small_line (by first | omega | (simp only [len_app, empty_len]; omega)), .ref a, rfl, a, dx, _, rfl, ha, a, dx, _, .str tg, rfl, ha, rfl, .inl ⟨_, rfl, small_line (by first | omega | (simp only [len_app, empty_len]; omega)), _, rfl, small_line (by first | omega | (simp only [len_app, empty_len]; omega)), _, rfl, small_line (by first | omega | (simp only [len_app, empty_len]; omega)), .ref a, rfl, a, dx, _, rfl, ha, a, dx, _, .str lb, rfl, ha, rfl, .inl ⟨_, rfl, small_line (by first | omega | (simp only [len_app, empty_len]; omega)), _, rfl, small_line (by first | omega | (simp only [len_app, empty_len]; omega)), _, rfl, small_line (by first | omega | (simp only [len_app, empty_len]; omega)), .ref a, rfl, a, dx, _, rfl, ha, a, dx, _, .str msg, rfl, ha, rfl, .inl ⟨_, rfl, small_line (by first | omega | (simp only [len_app, empty_len]; omega)), _, rfl, small_line (by first | omega | (simp only [len_app, empty_len]; omega)), rfl, _, rfl, rfl, ax, by simp only [len_app, empty_len]; omega, q⟩⟩⟩⟩
end

end Fk

set_option maxHeartbeats 4000000
/-! Sums of bytes, as functions. -/
namespace Fk
open PySem PySem.Spec PyProof.Rows L2
def stepB (n : Int) (c : UInt8) : Int := n * 1000003 + ((c.toNat : Nat) : Int) + 1
/-- what eight bytes make of a number -/
def step8 (f : Int) (b : Array UInt8) (n : Int) (i : Nat) : Int :=
  n * f + ((bI b (8 * i) * 1000003 + bI b (8 * i + 1)) * 1000006000009 + (bI b (8 * i + 2) * 1000003 + bI b (8 * i + 3))) * 1000012000054000108000081 +
    ((bI b (8 * i + 4) * 1000003 + bI b (8 * i + 5)) * 1000006000009 + (bI b (8 * i + 6) * 1000003 + bI b (8 * i + 7) + 1000022000208001096003478006652007108003280))
theorem bI_lt (b : Array UInt8) (k : Nat) : 0 ≤ bI b k ∧ bI b k < 256 := by
  have := (b.getD k 0).toNat_lt
  unfold bI
  omega
def behindF (n : Int) (l : List UInt8) (f : Int) : Int := (List.range (l.length / 8)).foldl (step8 f (l.drop (l.length % 8)).toArray) ((l.take (l.length % 8)).foldl stepB n)
def modF (short : Bool) : Int := if short then 251 else 2305843009213693951
def fac8 : Int := 1000024000252001512005670013608020412017496006561
def blkF (l : List UInt8) (short : Bool) (n : Int) (i : Nat) : Int := behindF n ((l.drop (256 * i)).take 256) (fac8 % modF short) % modF short
def sumI (l : List UInt8) (short : Bool) : Int := (List.range ((l.length + 255) / 256)).foldl (blkF l short) 7
theorem mod_pos (short : Bool) : 0 < modF short ∧ modF short < 16 ^ 16 := by cases short <;> decide
theorem blk_lt (l : List UInt8) (short : Bool) (n : Int) (i : Nat) : 0 ≤ blkF l short n i ∧ blkF l short n i < 16 ^ 16 := by
  obtain ⟨h1, h2⟩ := mod_pos short
  have a := Int.emod_nonneg (behindF n ((l.drop (256 * i)).take 256) (fac8 % modF short)) (by omega : modF short ≠ 0)
  have b := Int.emod_lt_of_pos (behindF n ((l.drop (256 * i)).take 256) (fac8 % modF short)) h1
  unfold blkF
  omega
theorem foldl_range {α : Type} (g : α → Nat → α) (a : α) (n : Nat) : (List.range (n + 1)).foldl g a = g ((List.range n).foldl g a) n := by
  rw [List.range_succ, List.foldl_append]
  rfl
theorem sum_lt (l : List UInt8) (short : Bool) : 0 ≤ sumI l short ∧ sumI l short < 16 ^ 16 := by
  unfold sumI
  cases (l.length + 255) / 256 with
  | zero => exact (show (0 : Int) ≤ 7 ∧ (7 : Int) < 16 ^ 16 from ⟨by decide, by decide⟩)
  | succ n =>
    rw [foldl_range]
    exact blk_lt _ _ _ _
def sumF (l : List UInt8) (short : Bool) : Str := hex16 (sumI l short).toNat
theorem sum_nat (l : List UInt8) (short : Bool) : sumI l short = (((sumI l short).toNat : Nat) : Int) ∧ (sumI l short).toNat < 16 ^ 16 := by
  obtain ⟨h1, h2⟩ := sum_lt l short
  refine ⟨(Int.toNat_of_nonneg h1).symm, ?_⟩
  have : (((sumI l short).toNat : Nat) : Int) < ((16 ^ 16 : Nat) : Int) := by
    rw [Int.toNat_of_nonneg h1]
    exact h2
  exact Int.ofNat_lt.mp this
theorem sum_id (l : List UInt8) (short : Bool) : isIdF (sumF l short) = true := by
  have h := (sum_nat l short).2
  refine id_of (fun u hu => ?_) (hex_len h)
  have q := hex_in (show u ∈ (hex16 (sumI l short).toNat).cps.toList from hu)
  have e : TL.tl HEX = HX := by decide +kernel
  rw [e]
  exact q
/-- the id of an object -/
def idF (o : Ob) (short : Bool) : Str := sumF (byts (encF o)).toList short
theorem and7 (n : Nat) : Builtin.bitAnd (n : Int) 7 = ((n % 8 : Nat) : Int) := by
  have := Bits.bitAnd_mask (x := (n : Int)) 3 (Int.natCast_nonneg n)
  rw [show (2 : Int) ^ 3 - 1 = 7 by decide] at this
  rw [this]
  omega
theorem fits_long {i : Int} (h : -1000000000000 ≤ i) (k : i ≤ 1000000000000) : Builtin.Range.rangeFitsLong i = true := by
  unfold Builtin.Range.rangeFitsLong
  rw [Bool.and_eq_true, decide_eq_true_eq, decide_eq_true_eq]
  omega
theorem range_blk (n : Nat) (h : n ≤ 16777216) : RgC 0 (n : Int) 256 ((n + 255) / 256) := by
  have e : Builtin.Range.rangeSize 0 (n : Int) 256 = (((n + 255) / 256 : Nat) : Int) := by
    unfold Builtin.Range.rangeSize
    rw [if_pos (by decide)]
    split <;> omega
  have k : (n + 255) / 256 ≤ 70000 := by omega
  refine ⟨by decide, by decide, ?_, e⟩
  unfold Builtin.Range.small
  rw [e]
  generalize (n + 255) / 256 = m at k
  rw [if_pos (show (256 : Int) > 0 by decide), fits_long (i := 0) (by decide) (by decide), fits_long (i := (n : Int)) (by omega) (by omega), fits_long (i := 256) (by decide) (by decide), fits_long (i := ((m : Nat) : Int)) (by omega) (by omega), fits_long (i := (n : Int) + (256 - 1)) (by omega) (by omega)]
  simp
end Fk

set_option maxHeartbeats 4000000
namespace Fk
open PySem PySem.Spec PyProof.Rows L2
section
variable {P : Program} {w : World} {K : PySem.W.Frag} {mg : Str → Option Value} {base : Heap} {c : C4} {CS cX iX ek pd : Addr}
def spNb : Sp := fun vs H Q _ => ∃ (n : Int) (l : List UInt8) (f : Int), vs = [.int n, .byt l.toArray, .int f] ∧ 0 ≤ f ∧ f < 2 ^ 62 ∧ l.length ≤ 1000000 ∧ ∀ H', Same H H' → Q (.int (behindF n l f)) H'
theorem small_fac {i : Int} (h : 0 ≤ i) (k : i < 2 ^ 62) : -(2 ^ 64) < i ∧ i < 2 ^ 64 := by omega
theorem c__number_behind (T : Top K mg) : C8.Cal P w K mg base 1 "_number_behind" spNb [] := by
  refine cal_of T.d__number_behind sc__number_behind (fun _ _ _ _ _ _ us hl => match us, hl with | [_, _, _], _ => rfl) (fun vs H Q E h => ?_) (fun f cdv A outer s H vs Q E hr h => ?_)
  · obtain ⟨n, l, f, rfl, _⟩ := h
    rfl
  · obtain ⟨n, l, fa, rfl, f0, f1, hl, q⟩ := h
    refine ⟨_, (pss_cons (ps_set (i := 3) sc__number_behind.nd rfl (Or.inl rfl) (pe_op op_and (pe_callB call_len (by rfl) T.z_len (by decide +kernel) (pa_cons (pv 1) pa_nil)) pe_int))
      (pss_cons (ps_for PassesOwn.never rfl (pi_byt (pe_slice sl_byt (pv 1) po_none (po_some (pv 3)))) (pg_name (i := 4) sc__number_behind.nd rfl (Or.inl rfl))
      (pss_one (ps_set (i := 0) sc__number_behind.nd rfl (Or.inl rfl) (pe_op op_add (pe_op op_add (pe_op op_mul (pv 0) (C8.pe_gc (by rfl) T.g_FACTOR)) (pv 4)) pe_int))))
      (pss_cons (ps_set (i := 5) sc__number_behind.nd rfl (Or.inl rfl) (pe_slice sl_byt (pv 1) (po_some (pv 3)) po_none))
      (pss_cons (ps_set (i := 6) sc__number_behind.nd rfl (Or.inl rfl) (pe_callB call_iterB (by rfl) T.z_iter (by decide +kernel) (pa_cons (pv 5) pa_nil)))
      (pss_cons (ps_for PassesOwn.never rfl (pi_zip8 (by rfl) T.z_zip (pa_cons (pv 6) (pa_cons (pv 6) (pa_cons (pv 6) (pa_cons (pv 6) (pa_cons (pv 6) (pa_cons (pv 6) (pa_cons (pv 6) (pa_cons (pv 6) pa_nil))))))))) (pg_tup rfl (pgs_cons (pg_name (i := 7) sc__number_behind.nd rfl (Or.inl rfl)) (pgs_cons (pg_name (i := 8) sc__number_behind.nd rfl (Or.inl rfl)) (pgs_cons (pg_name (i := 9) sc__number_behind.nd rfl (Or.inl rfl)) (pgs_cons (pg_name (i := 10) sc__number_behind.nd rfl (Or.inl rfl)) (pgs_cons (pg_name (i := 11) sc__number_behind.nd rfl (Or.inl rfl)) (pgs_cons (pg_name (i := 12) sc__number_behind.nd rfl (Or.inl rfl)) (pgs_cons (pg_name (i := 13) sc__number_behind.nd rfl (Or.inl rfl)) (pgs_cons (pg_name (i := 14) sc__number_behind.nd rfl (Or.inl rfl)) pgs_nil)))))))))
      (pss_one (ps_set (i := 0) sc__number_behind.nd rfl (Or.inl rfl) (pe_op op_add (pe_op op_add (pe_op op_mul (pv 0) (pv 2)) (pe_op op_mulW (pe_op op_add (pe_op op_mul (pe_op op_add (pe_op op_mul (pv 7) (C8.pe_gc (by rfl) T.g_FACTOR)) (pv 8)) (C8.pe_gc (by rfl) T.g_FACTOR_2)) (pe_op op_add (pe_op op_mul (pv 9) (C8.pe_gc (by rfl) T.g_FACTOR)) (pv 10))) (C8.pe_gc (by rfl) T.g_FACTOR_4))) (pe_op op_add (pe_op op_mul (pe_op op_add (pe_op op_mul (pv 11) (C8.pe_gc (by rfl) T.g_FACTOR)) (pv 12)) (C8.pe_gc (by rfl) T.g_FACTOR_2)) (pe_op op_add (pe_op op_add (pe_op op_mul (pv 13) (C8.pe_gc (by rfl) T.g_FACTOR)) (pv 14)) (C8.pe_gc (by rfl) T.g_ONES_8)))))))
      (pss_one (ps_ret (pv 0)))))))), ?_⟩
    have es : l.toArray.size = l.length := List.size_toArray
    refine ⟨.byt l.toArray, rfl, _, l.toArray.size, rfl, ⟨by rw [es]; exact small_line hl, rfl⟩, _, _, rfl, rfl, ?_⟩
    rw [es]
    show gName 3 (.int (Builtin.bitAnd ((l.length : Nat) : Int) 7)) _ _ _
    rw [and7]
    have h8 : l.length % 8 ≤ l.length := Nat.mod_le _ _
    refine ⟨.byt l.toArray, rfl, .int ((l.length % 8 : Nat) : Int), rfl, _, rfl, _, rfl, by rw [es]; omega, _, rfl, ?_⟩
    rw [pk_to h8]
    refine for_bytL (fun p σ H' => Same H H' ∧ ∃ z, σ = [some (.int (p.foldl stepB n)), some (.byt l.toArray), some (.int fa), some (.int ((l.length % 8 : Nat) : Int)), z, none, none, none, none, none, none, none, none, none, none]) ⟨Same.refl H, none, rfl⟩ (fun p k r σ H' e I => ?_) (fun σ H' I => ?_)
    · obtain ⟨s1, z, rfl⟩ := I
      refine ⟨.int _, rfl, _, _, rfl, rfl, .inr (by decide), .int _, rfl, _, _, rfl, rfl, _, _, rfl, rfl, s1, some (.int ((k.toNat : Nat) : Int)), ?_⟩
      rw [List.foldl_append]
      rfl
    · obtain ⟨s1, z, rfl⟩ := I
      refine ⟨.byt l.toArray, rfl, .int ((l.length % 8 : Nat) : Int), rfl, _, rfl, _, rfl, by rw [es]; omega, ?_⟩
      rw [pk_from h8]
      refine ⟨.byt _, rfl, _, rfl, fun it hit nle => ?_⟩
      have eH : ItX.dropH (upd H' it (BiO (l.drop (l.length % 8)).toArray it)) it = H' := ItX.dropH_upd hit
      refine ⟨.ref it, rfl, .ref it, rfl, .ref it, rfl, .ref it, rfl, .ref it, rfl, .ref it, rfl, .ref it, rfl, .ref it, rfl, it, (l.drop (l.length % 8)).toArray, rfl, upd_same, nle, ?_⟩
      rw [eH]
      refine for_zip8 (n := l.length / 8) (by rw [List.size_toArray, List.length_drop]; omega) (fun i σ H2 => Same H H2 ∧ ∃ z7 z8 z9 z10 z11 z12 z13 z14, σ = [some (.int ((List.range i).foldl (step8 fa (l.drop (l.length % 8)).toArray) ((l.take (l.length % 8)).foldl stepB n))), some (.byt l.toArray), some (.int fa), some (.int ((l.length % 8 : Nat) : Int)), z, some (.byt (l.drop (l.length % 8)).toArray), some (.ref it), z7, z8, z9, z10, z11, z12, z13, z14])
        ⟨s1, none, none, none, none, none, none, none, none, rfl⟩ (fun i T1 σ H2 hi I hT => ?_) (fun σ H2 I => ?_)
      · obtain ⟨s2, z7, z8, z9, z10, z11, z12, z13, z14, rfl⟩ := I
        rw [foldl_range]
        generalize (List.range i).foldl (step8 fa (l.drop (l.length % 8)).toArray) ((l.take (l.length % 8)).foldl stepB n) = m
        unfold step8
        have e8 : row8 (l.drop (l.length % 8)).toArray i = [.int (bI (l.drop (l.length % 8)).toArray (8 * i + 0)), .int (bI (l.drop (l.length % 8)).toArray (8 * i + 1)), .int (bI (l.drop (l.length % 8)).toArray (8 * i + 2)), .int (bI (l.drop (l.length % 8)).toArray (8 * i + 3)), .int (bI (l.drop (l.length % 8)).toArray (8 * i + 4)), .int (bI (l.drop (l.length % 8)).toArray (8 * i + 5)), .int (bI (l.drop (l.length % 8)).toArray (8 * i + 6)), .int (bI (l.drop (l.length % 8)).toArray (8 * i + 7))] := rfl
        have s3 := s2.trans (same_new (o := .tup (row8 (l.drop (l.length % 8)).toArray i)) hT)
        have hT3 : (upd H2 T1 (.tup (row8 (l.drop (l.length % 8)).toArray i))) T1 = some (.tup (row8 (l.drop (l.length % 8)).toArray i)) := upd_same
        generalize upd H2 T1 (.tup (row8 (l.drop (l.length % 8)).toArray i)) = H3 at s3 hT3
        rw [e8] at hT3
        have b0 := bI_lt (l.drop (l.length % 8)).toArray (8 * i + 0)
        have b1 := bI_lt (l.drop (l.length % 8)).toArray (8 * i + 1)
        have b2 := bI_lt (l.drop (l.length % 8)).toArray (8 * i + 2)
        have b3 := bI_lt (l.drop (l.length % 8)).toArray (8 * i + 3)
        rw [show 8 * i + 0 = 8 * i from rfl] at b0 hT3
        generalize bI (l.drop (l.length % 8)).toArray (8 * i) = k0 at b0 hT3 ⊢
        generalize bI (l.drop (l.length % 8)).toArray (8 * i + 1) = k1 at b1 hT3 ⊢
        generalize bI (l.drop (l.length % 8)).toArray (8 * i + 2) = k2 at b2 hT3 ⊢
        generalize bI (l.drop (l.length % 8)).toArray (8 * i + 3) = k3 at b3 hT3 ⊢
        generalize bI (l.drop (l.length % 8)).toArray (8 * i + 4) = k4 at hT3 ⊢
        generalize bI (l.drop (l.length % 8)).toArray (8 * i + 5) = k5 at hT3 ⊢
        generalize bI (l.drop (l.length % 8)).toArray (8 * i + 6) = k6 at hT3 ⊢
        generalize bI (l.drop (l.length % 8)).toArray (8 * i + 7) = k7 at hT3 ⊢
        refine ⟨T1, _, rfl, SqT.of hT3, rfl, _, _, rfl, _, _, rfl, _, _, rfl, _, _, rfl, _, _, rfl, _, _, rfl, _, _, rfl, _, _, rfl, rfl, ?_⟩
        refine ⟨.int m, rfl, .int fa, rfl, _, _, rfl, rfl, .inr (small_fac f0 f1), ?_⟩
        refine ⟨.int k0, rfl, _, _, rfl, rfl, .inr (by decide), .int k1, rfl, _, _, rfl, rfl, _, _, rfl, rfl, .inr (by decide), ?_⟩
        refine ⟨.int k2, rfl, _, _, rfl, rfl, .inr (by decide), .int k3, rfl, _, _, rfl, rfl, _, _, rfl, rfl, _, _, rfl, rfl, wide_mul (a := 70) (b := 80) (by omega) (by decide) (by decide) (by decide) (by decide), _, _, rfl, rfl, ?_⟩
        refine ⟨.int k4, rfl, _, _, rfl, rfl, .inr (by decide), .int k5, rfl, _, _, rfl, rfl, _, _, rfl, rfl, .inr (by decide), ?_⟩
        refine ⟨.int k6, rfl, _, _, rfl, rfl, .inr (by decide), .int k7, rfl, _, _, rfl, rfl, _, _, rfl, rfl, _, _, rfl, rfl, _, _, rfl, rfl, ?_⟩
        exact ⟨s3, _, _, _, _, _, _, _, _, rfl⟩
      · obtain ⟨s2, z7, z8, z9, z10, z11, z12, z13, z14, rfl⟩ := I
        exact ⟨_, rfl, q H2 s2⟩
end

end Fk

set_option maxHeartbeats 4000000
namespace Fk
open PySem PySem.Spec PyProof.Rows L2
section
variable {P : Program} {w : World} {K : PySem.W.Frag} {mg : Str → Option Value} {base : Heap} {c : C4} {CS cX iX ek pd : Addr}
theorem pk_blk {l : List UInt8} {i : Nat} (h : i < (l.length + 255) / 256) : PySem.W.KBy.picked l.toArray (some (0 + (i : Int) * 256)) (some (0 + (i : Int) * 256 + 256)) = ((l.drop (256 * i)).take 256).toArray := by
  have e1 : (0 : Int) + (i : Int) * 256 = ((256 * i : Nat) : Int) := by omega
  have e2 : (0 : Int) + (i : Int) * 256 + 256 = ((256 * i + 256 : Nat) : Int) := by omega
  rw [e2, e1]
  have h1 : 256 * i ≤ l.length := by omega
  by_cases h2 : 256 * i + 256 ≤ l.length
  · rw [pk_mid h1 h2, show 256 * i + 256 - 256 * i = 256 by omega]
  · rw [pk_over h1 (by omega), List.take_of_length_le (by rw [List.length_drop]; omega)]
def spSum : Sp := fun vs H Q _ => ∃ (l : List UInt8) (short : Bool), vs = [.byt l.toArray, .bl short] ∧ l.length ≤ 1000000 ∧ ∀ H', Same H H' → Q (.str (sumF l short)) H'
theorem fac_lt (short : Bool) : 0 ≤ fac8 % modF short ∧ fac8 % modF short < 2 ^ 62 := by cases short <;> decide
theorem mod_at (short : Bool) : (if decide (short = true) = true then (251 : Int) else 2305843009213693951) = modF short := by cases short <;> rfl
theorem sumF_Of (T : TopO K mg c CS cX iX ek pd) : ∀ f fd, C8.Fun K "sum_of" "sum_of" s_sum_of f fd → FnOk P w K mg base C8.CX0 2 f fd ["data", "short"] spSum := fun f fd F => by
  refine C8.fn0 F sc_sum_of (fun vs H Q E h => ?_) (fun cdv A outer s H vs Q E hr h => ?_)
  · obtain ⟨l, short, rfl, _⟩ := h
    rfl
  · obtain ⟨l, short, rfl, hl, q⟩ := h
    have es : l.toArray.size = l.length := List.size_toArray
    refine ⟨_, (pss_cons (ps_if (pt_not (pt_val (pe_callB call_isi (by rfl) T.z_isinstance (by decide +kernel) (pa_cons (pv 0) (pa_cons (pe_bltn (v := .ty "bytes") (by rfl) T.z_bytes (by decide +kernel) rfl) pa_nil)))))
      (pss_one ps_never)
      pss_nil)
      (C8.pss_cut (ps_set (i := 2) sc_sum_of.nd rfl (Or.inl rfl) (pe_ifExp (pt_cmpR op_isBl (pv 1) pe_bl (nomark _)) (C8.pe_gc (by rfl) T.g_SHORT_MODULUS) (C8.pe_gc (by rfl) T.g_LONG_MODULUS)))
      (pss_cons (ps_set (i := 3) sc_sum_of.nd rfl (Or.inl rfl) (pe_op op_mod (pe_callTy call_int1 (by rfl) T.z_int (by decide +kernel) (pa_cons (C8.pe_gc (by rfl) T.g_FACTOR_8) pa_nil)) (pv 2)))
      (pss_cons (ps_set (i := 4) sc_sum_of.nd rfl (Or.inl rfl) pe_int)
      (pss_cons (ps_for PassesOwn.never rfl (pi_range3 (by rfl) T.z_range (pa_cons pe_int (pa_cons (pe_callB call_len (by rfl) T.z_len (by decide +kernel) (pa_cons (pv 0) pa_nil)) (pa_cons (C8.pe_gc (by rfl) T.g_BLOCK) pa_nil)))) (pg_name (i := 5) sc_sum_of.nd rfl (Or.inl rfl))
      (pss_one (ps_set (i := 4) sc_sum_of.nd rfl (Or.inl rfl) (pe_op op_mod (pe_callTy call_int1 (by rfl) T.z_int (by decide +kernel) (pa_cons (C8.pe_c (c__number_behind T.toTop) hr (by decide) (by rfl) (pa_cons (pv 4) (pa_cons (pe_slice sl_byt (pv 0) (po_some (pv 5)) (po_some (pe_op op_add (pv 5) (C8.pe_gc (by rfl) T.g_BLOCK)))) (pa_cons (pv 3) pa_nil)))) pa_nil)) (pv 2)))))
      (pss_one (ps_ret (pe_joined1 (pe_hex (pv 4) (pe_joined1 pe_str)))))))))), ?_⟩
    refine ⟨.byt l.toArray, rfl, ?_⟩
    dsimp only [tCons, tC, tNil]
    refine ⟨_, _, .type "bytes", .type "bytes", true, rfl, .ty "bytes", .byt _, kit_ty (by decide +kernel), _, rfl, iteF ?_⟩
    refine ⟨fun σ H' => H' = H ∧ σ = [some (.byt l.toArray), some (.bl short), some (.int (modF short)), none, none, none], ?_, fun σ H1 I => ?_⟩
    · refine ⟨.bl short, rfl, short, true, rfl, rfl, _, rfl, ?_⟩
      cases short
      · exact iteF ⟨rfl, rfl⟩
      · exact iteT ⟨rfl, rfl⟩
    · obtain ⟨rfl, rfl⟩ := I
      obtain ⟨m0, m1⟩ := mod_pos short
      refine .inl ⟨_, rfl, .int (modF short), rfl, _, _, rfl, rfl, m0, ?_⟩
      refine ⟨.byt l.toArray, rfl, _, l.toArray.size, rfl, ⟨by rw [es]; exact small_line hl, rfl⟩, 0, ((l.toArray.size : Nat) : Int), 256, (l.length + 255) / 256, rfl, by rw [es]; exact range_blk _ (by omega), ?_⟩
      refine for_rangeC (fun i σ H' => Same H1 H' ∧ ∃ z, σ = [some (.byt l.toArray), some (.bl short), some (.int (modF short)), some (.int (fac8 % modF short)), some (.int ((List.range i).foldl (blkF l short) 7)), z]) ⟨Same.refl _, none, rfl⟩ (fun i σ H' hi I => ?_) (fun σ H' I => ?_)
      · obtain ⟨s1, z, rfl⟩ := I
        rw [foldl_range]
        generalize (List.range i).foldl (blkF l short) 7 = m
        have fl := fac_lt short
        refine ⟨.int m, rfl, .byt l.toArray, rfl, .int (0 + (i : Int) * 256), rfl, _, rfl, .int (0 + (i : Int) * 256), rfl, _, _, rfl, rfl, _, rfl, _, rfl, by rw [es]; omega, ?_⟩
        rw [pk_blk hi]
        exact ⟨.int (fac8 % modF short), rfl, m, (l.drop (256 * i)).take 256, fac8 % modF short, rfl, fl.1, fl.2, by rw [List.length_take]; omega, fun H2 s2 => .inl ⟨_, rfl, .int (modF short), rfl, _, _, rfl, rfl, m0, s1.trans s2, some (.int (0 + (i : Int) * 256)), rfl⟩⟩
      · obtain ⟨s1, z, rfl⟩ := I
        obtain ⟨e1, e2⟩ := sum_nat l short
        exact ⟨.int (sumI l short), rfl, (sumI l short).toNat, by rw [← e1], e2, q H' s1⟩
theorem c_sum_of_1_short (T : TopO K mg c CS cX iX ek pd) : CalK P w K mg base 2 "sum_of" spSum 1 ["short"] (fun vs zs => vs ++ zs) := calK T.dSum (sumF_Of T)
def spIdOf (K : PySem.W.Frag) (c : C4) : Sp := fun vs H Q _ => ∃ (a d : Addr) (o : Ob) (short : Bool), vs = [.ref a, .bl short] ∧ ObAt K c H a d o ∧ o.ok ∧ ∀ H', Same H H' → Q (.str (idF o short)) H'
theorem idF_Of (T : TopO K mg c CS cX iX ek pd) : ∀ f fd, C8.Fun K "id_of" "id_of" s_id_of f fd → FnOk P w K mg base C8.CX0 4 f fd ["thing", "short"] (spIdOf K c) := fun f fd F => by
  refine C8.fn0 F sc_id_of (fun vs H Q E h => ?_) (fun cdv A outer s H vs Q E hr h => ?_)
  · obtain ⟨a, d, o, short, rfl, _⟩ := h
    rfl
  · obtain ⟨a, d, o, short, rfl, ha, ok, q⟩ := h
    refine ⟨_, (pss_one (ps_ret (pe_cK (c_sum_of_1_short T) hr (by decide) (by rfl) (pa_cons (C8.pe_c (c_encode T) hr (by decide) (by rfl) (pa_cons (pv 0) pa_nil)) pa_nil) (pk_cons (pv 1) pk_nil)))), ?_⟩
    have ln := enc_len ok
    exact ⟨.ref a, rfl, a, d, o, rfl, ha, ok, fun H1 s1 => ⟨.bl short, rfl, rfl, rfl, (byts (encF o)).toList, short, rfl, by rw [Array.length_toList, byts_size]; omega, fun H2 s2 => q H2 (s1.trans s2)⟩⟩
theorem c_id_of_1_short (T : TopO K mg c CS cX iX ek pd) : CalK P w K mg base 4 "id_of" (spIdOf K c) 1 ["short"] (fun vs zs => vs ++ zs) := calK T.dId (idF_Of T)
end

end Fk

set_option maxHeartbeats 4000000
namespace Fk
open PySem PySem.Spec PyProof.Rows L2
section
variable {P : Program} {w : World} {K : PySem.W.Frag} {mg : Str → Option Value} {base : Heap} {c : C4} {CS cX iX ek pd : Addr}
/-! ### stores -/
def sf (b : Bool) (d : Addr) : List (Str × V) := [("_short", .bl b), ("_things", .ref d)]
def spStoreI (CS : Addr) : Sp := fun vs H Q _ => ∃ (a dx : Addr) (b : Bool), vs = [.ref a, .bl b] ∧ H a = some (.ins CS dx []) ∧ ∀ d H', H d = none → Fr a H H' → H' a = some (.ins CS dx (sf b d)) → H' d = some (.dK []) → Q .non H'
theorem iniF_Store (T : TopO K mg c CS cX iX ek pd) : ∀ f fd, C8.Fun K "__init__" "Store.__init__" s_Store_init f fd → FnOk P w K mg base C8.CX0 1 f fd ["self", "short"] (spStoreI CS) := fun f fd F => by
  refine C8.fn0 F sc_Store_init (fun vs H Q E h => ?_) (fun cdv A outer s H vs Q E hr h => ?_)
  · obtain ⟨a, dx, b, rfl, _⟩ := h
    rfl
  · obtain ⟨a, dx, b, rfl, ha, q⟩ := h
    refine ⟨_, (pss_cons (ps_fld (pv 0) (pv 1) rfl)
      (pss_one (ps_fld (pv 0) pe_dnewK rfl))), ?_⟩
    refine ⟨.bl b, rfl, .ref a, rfl, a, CS, dx, _, rfl, ha, T.cS, T.nS_short, (by decide), ?_⟩
    intro d hd
    have na : a ≠ d := fun z => by rw [z, upd_same] at hd; cases hd
    have fd : H d = none := by rw [upd_ne na.symm] at hd; exact hd
    refine ⟨.ref a, rfl, a, CS, dx, _, rfl, (by rw [upd_ne na]; exact upd_same), T.cS, T.nS_things, (by show 1 < 1000; decide), q d _ fd ((Fr.at.trans (Fr.new hd)).trans Fr.at) upd_same (by rw [upd_ne na.symm]; exact upd_same)⟩
theorem k_Store_0_short (T : TopO K mg c CS cX iX ek pd) : MakK P w K mg base 1 "Store" CS (spStoreI CS) 1 ["short"] (fun vs zs => vs ++ zs) := makK T.kS1 T.mgS (iniF_Store T)
theorem do_store {b : Bool} {H : Hp} {Q : VK} (q : ∀ a dx d H', H a = none → H d = none → Same H H' → H' a = some (.ins CS dx (sf b d)) → H' d = some (.dK []) → Q (.ref a) H') :
    ∀ a dx, H a = none → H dx = none → dx ≠ a → spStoreI CS [.ref a, .bl b] (upd (upd H dx (.own a)) a (.ins CS dx [])) (fun v H2 => v = .non ∧ Q (.ref a) H2) C8.E0 := fun a dx ha hd nd => by
  have s1 : Same H (upd (upd H dx (.own a)) a (.ins CS dx [])) := made_same ha hd (Fr.refl _ _)
  exact ⟨a, dx, b, rfl, upd_same, fun d H' hd' f h1 h2 => ⟨rfl, q a dx d H' ha (s1.free hd') (made_same ha hd f) h1 h2⟩⟩
def spCont (CS : Addr) : Sp := fun vs H Q _ => ∃ (S dx d : Addr) (b : Bool) (t : Tab) (x : Str), vs = [.ref S, .str x] ∧ H S = some (.ins CS dx (sf b d)) ∧ H d = some (.dK (kT t)) ∧ x.length ≤ 1000 ∧ OkS x ∧ Q (.bl (valV t x).isSome) H
theorem m_Store_contains (T : TopO K mg c CS cX iX ek pd) : C8.Met P w K mg base 1 CS "__contains__" (spCont CS) [] := by
  refine met_of T.cS T.mScontains sc_Store_contains (fun _ _ _ _ _ _ us hl => match us, hl with | [_, _], _ => rfl) (fun vs H Q E h => ?_) (fun f cdv A outer s H vs Q E hr h => ?_)
  · obtain ⟨S, dx, d, b, t, x, rfl, _⟩ := h
    rfl
  · obtain ⟨S, dx, d, b, t, x, rfl, hS, hd, hx, ho, q⟩ := h
    refine ⟨_, (pss_one (ps_ret (pe_and (pe_callB call_isi (by rfl) T.z_isinstance (by decide +kernel) (pa_cons (pv 1) (pa_cons (pe_bltn (v := .ty "str") (by rfl) T.z_str (by decide +kernel) rfl) pa_nil))) (pe_one (pe_cmp (pc_din (hu_of hr) (pv 1) (pe_fld (pv 0) rfl))))))), ?_⟩
    refine ⟨.str x, rfl, ?_⟩
    dsimp only [tCons, tC, tNil]
    refine (Thing.str x (by omega) ho).isi ⟨_, rfl, iteT ?_⟩
    exact ⟨.str x, rfl, .ref S, rfl, S, CS, dx, _, _, rfl, hS, T.cS, T.nS_things, rfl, d, _, rfl, dget_kT (.inl hd) x, q⟩
def spSGet (CS : Addr) : Sp := fun vs H Q _ => ∃ (S dx d : Addr) (b : Bool) (t : Tab) (x : Str) (v : V), vs = [.ref S, .str x] ∧ H S = some (.ins CS dx (sf b d)) ∧ H d = some (.dK (kT t)) ∧ x.length ≤ 1000 ∧ OkS x ∧ valV t x = some v ∧ Q v H
theorem m_Store_getitem (T : TopO K mg c CS cX iX ek pd) : GetM P w K mg base 2 CS (spSGet CS) := by
  refine getM_of T.mSgetitem sc_Store_getitem (fun _ _ _ _ _ _ us hl => match us, hl with | [_, _], _ => rfl) (fun vs H Q E h => ?_) (fun f cdv A outer s H vs Q E hr h => ?_)
  · obtain ⟨S, dx, d, b, t, x, v, rfl, _⟩ := h
    rfl
  · obtain ⟨S, dx, d, b, t, x, v, rfl, hS, hd, hx, ho, hv, q⟩ := h
    refine ⟨_, (pss_cons (ps_if (pt_cmpR (op_ownNotIn (ownM_of (m_Store_contains T)) (hr.mono (by decide)) noEx0) (pv 1) (pv 0) rfl)
      (pss_one ps_never)
      pss_nil)
      (pss_one (ps_ret (pe_dget (hu_of hr) (pe_fld (pv 0) rfl) (pv 1) (fun _ _ => rfl))))), ?_⟩
    refine ⟨.str x, rfl, .ref S, rfl, S, dx, _, rfl, hS, S, dx, d, b, t, x, rfl, hS, hd, hx, ho, _, rfl, _, rfl, ?_⟩
    rw [hv]
    refine iteF ⟨.ref S, rfl, S, CS, dx, _, _, rfl, hS, T.cS, T.nS_things, rfl, .str x, rfl, d, v, rfl, ?_, q⟩
    have g := dget_kT (.inl hd) x
    rw [hv] at g
    exact g
def spSLen (CS : Addr) : Sp := fun vs H Q _ => ∃ (S dx d : Addr) (b : Bool) (t : Tab), vs = [.ref S] ∧ H S = some (.ins CS dx (sf b d)) ∧ H d = some (.dK (kT t)) ∧ Q (.int t.length) H
theorem m_Store_len (T : TopO K mg c CS cX iX ek pd) : C8.Met P w K mg base 1 CS "__len__" (spSLen CS) [] := by
  refine met_of T.cS T.mSlen sc_Store_len (fun _ _ _ _ _ _ us hl => match us, hl with | [_], _ => rfl) (fun vs H Q E h => ?_) (fun f cdv A outer s H vs Q E hr h => ?_)
  · obtain ⟨S, dx, d, b, t, rfl, _⟩ := h
    rfl
  · obtain ⟨S, dx, d, b, t, rfl, hS, hd, q⟩ := h
    refine ⟨_, (pss_one (ps_ret (pe_callB call_lenD (by rfl) T.z_len (by decide +kernel) (pa_cons (pe_fld (pv 0) rfl) pa_nil)))), ?_⟩
    refine ⟨.ref S, rfl, S, CS, dx, _, _, rfl, hS, T.cS, T.nS_things, rfl, d, _, rfl, hd, ?_⟩
    rw [len_kT]
    exact q
def spPut (K : PySem.W.Frag) (c : C4) (CS cX : Addr) : Sp := fun vs H Q E => ∃ (S dx d a da : Addr) (b : Bool) (t : Tab) (o : Ob), vs = [.ref S, .ref a] ∧ H S = some (.ins CS dx (sf b d)) ∧ H d = some (.dK (kT t)) ∧ t.length < 100000 ∧ ObAt K c H a da o ∧ o.ok ∧
  (∀ v, valV t (idF o b) = some v → ∃ (a' da' : Addr) (o' : Ob), v = .ref a' ∧ ObAt K c H a' da' o' ∧ o'.ok ∧ (o' = o → ∀ H', Same H H' → Q (.str (idF o b)) H') ∧ (o' ≠ o → ∀ dd H', Same H H' → H' dd = some (.xd [("name", .str (idF o b))]) → E (.ref cX) (some dd) H')) ∧
  (valV t (idF o b) = none → ∀ H', FrL [d] H H' → H' d = some (.dK (kT (putK t (idF o b) (.ref a)))) → Q (.str (idF o b)) H')
theorem m_Store_put (T : TopO K mg c CS cX iX ek pd) : MetX P w K mg base (L2.CX P w) 5 CS "put" (spPut K c CS cX) [] := by
  refine metX_of T.cS T.mSput sc_Store_put (fun _ _ _ _ _ _ us hl => match us, hl with | [_, _], _ => rfl) (fun vs H Q E h => ?_) (fun f cdv A outer s H vs Q E hr h => ?_)
  · obtain ⟨S, dx, d, a, da, b, t, o, rfl, _⟩ := h
    rfl
  · obtain ⟨S, dx, d, a, da, b, t, o, rfl, hS, hd, hl, ha, ok, q1, q2⟩ := h
    refine ⟨_, (pss_cons (ps_set (i := 2) sc_Store_put.nd rfl (Or.inl rfl) (pe_cK (c_id_of_1_short T) hr (by decide) (by rfl) (pa_cons (pv 1) pa_nil) (pk_cons (pe_fld (pv 0) rfl) pk_nil)))
      (pss_cons (ps_if (pt_cmp (pc_dnotin (hu_of hr) (pv 2) (pe_fld (pv 0) rfl)))
      (pss_one (ps_dput (hu_of hr) (pe_fld (pv 0) rfl) (pv 2) (pv 1) rfl))
      (pss_one (ps_if (pt_cmpR (op_obNe T (hr.mono (by decide))) (pe_dget (hu_of hr) (pe_fld (pv 0) rfl) (pv 2) (fun _ _ => rfl)) (pv 1) (nomark _))
      (pss_one (ps_raise rfl (takes_of rfl rfl rfl rfl) (rs_of T.eX (hr.mono (by decide)) (by rfl) (pa_cons (pv 2) pa_nil))))
      pss_nil)))
      (pss_one (ps_ret (pv 2))))), ?_⟩
    refine ⟨.ref a, rfl, .ref S, rfl, S, CS, dx, _, _, rfl, hS, T.cS, T.nS_short, rfl, rfl, rfl, a, da, o, b, rfl, ha, ok, fun H1 s1 => ?_⟩
    have g := dget_kT (.inl (s1 _ _ hd)) (idF o b)
    refine ⟨.str (idF o b), rfl, .ref S, rfl, S, CS, dx, _, _, rfl, s1 _ _ hS, T.cS, T.nS_things, rfl, d, _, rfl, g, _, rfl, ?_⟩
    cases hv : valV t (idF o b) with
    | none =>
      refine iteT ?_
      refine ⟨.ref a, rfl, .ref S, rfl, S, CS, dx, _, _, rfl, s1 _ _ hS, T.cS, T.nS_things, rfl, .str (idF o b), rfl, d, _, rfl, .inl ⟨kT t, .inr (idF o b), s1 _ _ hd, rfl, small_lt (by rw [len_kT]; omega), rfl⟩, ?_⟩
      rw [putK_kT]
      exact ⟨_, rfl, q2 hv _ ((FrL.same s1).trans (FrL.at (List.mem_singleton_self d))) upd_same⟩
    | some v =>
      obtain ⟨a', da', o', rfl, ha', ok', k1, k2⟩ := q1 v hv
      rw [hv] at g
      refine iteF ⟨.ref S, rfl, S, CS, dx, _, _, rfl, s1 _ _ hS, T.cS, T.nS_things, rfl, .str (idF o b), rfl, d, .ref a', rfl, g, .ref a, rfl, a', a, da', da, o', o, rfl, rfl, ha'.same s1, ha.same s1, ok', ok, fun H2 s2 => ?_⟩
      by_cases e : o' = o
      · rw [decide_eq_true e]
        exact ⟨_, rfl, iteF ⟨_, rfl, k1 e H2 (s1.trans s2)⟩⟩
      · rw [decide_eq_false e]
        exact ⟨_, rfl, iteT ⟨_, rfl, (by show 1 ≤ 1000; decide), do_raise T.eX fun dd H3 s3 _ h3 => k2 e dd H3 ((s1.trans s2).trans s3) h3⟩⟩
end

end Fk

set_option maxHeartbeats 4000000
namespace Fk
open PySem PySem.Spec PyProof.Rows L2
section
variable {P : Program} {w : World} {K : PySem.W.Frag} {mg : Str → Option Value} {base : Heap}
def spCellAt (K : PySem.W.Frag) : Sp := fun vs H Q _ => ∃ (a : Addr) (ns : List Int) (k : Nat), vs = [.ref a, .int k] ∧ SqL K H a (ns.map V.int) ∧ ∀ v : Int, Q (.int v) H
theorem c_l_cell_at (T : Top K mg) : C8.Cal P w K mg base 1 "_law_cell_at" (spCellAt K) [] := by
  refine cal_of T.d_l_cell_at sc_l_cell_at (fun _ _ _ _ _ _ us hl => match us, hl with | [_, _], _ => rfl) (fun vs H Q E h => ?_) (fun f cdv A outer s H vs Q E hr h => ?_)
  · obtain ⟨a, ns, k, rfl, _⟩ := h
    rfl
  · obtain ⟨a, ns, k, rfl, hS, q⟩ := h
    refine ⟨_, (pss_cons (ps_if (pt_cmpR op_lt (pv 1) (pe_callB call_len_seq (by rfl) T.z_len (by decide +kernel) (pa_cons (pv 0) pa_nil)) (nomark _))
      (pss_one (ps_ret (pe_ix ix_list (pv 0) (pv 1) (fun _ _ => rfl))))
      pss_nil)
      (pss_one (ps_ret pe_int))), ?_⟩
    refine ⟨.int k, rfl, .ref a, rfl, a, _, rfl, .inl hS, _, _, rfl, rfl, _, rfl, ite2 (fun h1 => ?_) (fun h1 => ?_)⟩
    · have h1 := of_decide_eq_true h1
      rw [List.length_map] at h1
      have h2 : k < ns.length := by omega
      exact ⟨.ref a, rfl, .int k, rfl, a, _, k, .int ns[k], rfl, rfl, hS, atI_nat (by rw [List.getElem?_map, List.getElem?_eq_getElem h2]; rfl), q _⟩
    · exact q _
def spWell : Sp := fun vs H Q _ => ∃ (x : Int), vs = [.int x] ∧ ∀ H' a, H a = none → Same H H' → Wl H' a 0 → Q (.ref a) H'
theorem c_l_well (T : Top K mg) : C8.Cal P w K mg base 1 "_law_well" spWell [] := by
  refine cal_of T.d_l_well sc_l_well (fun _ _ _ _ _ _ us hl => match us, hl with | [_], _ => rfl) (fun vs H Q E h => ?_) (fun f cdv A outer s H vs Q E hr h => ?_)
  · obtain ⟨x, rfl, _⟩ := h
    rfl
  · obtain ⟨x, rfl, q⟩ := h
    refine ⟨_, (pss_one (ps_ret (pe_lst (pa_cons (pe_op op_mul (pv 0) (pe_callTy call_int1 (by rfl) T.z_int (by decide +kernel) (pa_cons (pe_cmpR op_ge (pv 0) (pe_op op_pow pe_int pe_int) (nomark _)) pa_nil))) (pa_cons (pv 0) (pa_cons pe_int pa_nil)))))), ?_⟩
    refine ⟨.int x, rfl, .int x, rfl, 10, 18, rfl, rfl, ⟨by decide, by decide, by decide⟩, _, _, rfl, rfl, .inr ⟨_, rfl, _, _, rfl, rfl, .inr ?_, .int x, rfl, (by show 3 ≤ sizeLine; decide), fun p hp => ?_⟩⟩
    · split <;> exact ⟨by decide, by decide⟩
    · exact q _ p hp (same_new hp) ⟨Int.le_refl _, _, _, upd_same⟩
/-- the number that is drawn; the well behind it -/
def Drawn (H : Hp) (a : Addr) (n c : Int) (Q : VK) : Prop := ∀ r x y c', 0 ≤ r → r < n → c ≤ c' → c' ≤ c + 1 → Q (.int r) (upd H a (.lst [.int x, .int y, .int c']))
def spDraw : Sp := fun vs H Q _ => ∃ (a : Addr) (n c : Int), vs = [.ref a, .int n] ∧ Wl H a c ∧ 0 < n ∧ n < 1000000 ∧ c < 2 ^ 40 ∧ Drawn H a n c Q
theorem at3 (x y c : Int) : atI [V.int x, .int y, .int c] 0 = some (.int x) ∧ atI [V.int x, .int y, .int c] 1 = some (.int y) ∧ atI [V.int x, .int y, .int c] 2 = some (.int c) := ⟨rfl, rfl, rfl⟩
theorem pow_small {i : Int} (h0 : 0 ≤ i) (h : i < 2 ^ 62) : i.natAbs < 2 ^ 64 := by omega
theorem c_l_draw (T : Top K mg) : C8.Cal P w K mg base 1 "_law_draw" spDraw [] := by
  refine cal_of T.d_l_draw sc_l_draw (fun _ _ _ _ _ _ us hl => match us, hl with | [_, _], _ => rfl) (fun vs H Q E h => ?_) (fun f cdv A outer s H vs Q E hr h => ?_)
  · obtain ⟨a, n, c, rfl, _⟩ := h
    rfl
  · obtain ⟨a, n, c, rfl, ⟨hc0, x, y, hw⟩, hn0, hn1, hc, q⟩ := h
    refine ⟨_, (pss_cons (ps_if (pt_cmpR op_gt (pe_ix ix_list (pv 0) pe_int (fun _ _ => rfl)) pe_int (nomark _))
      (pss_cons (ps_set (i := 2) sc_l_draw.nd rfl (Or.inl rfl) (pe_op op_mod (pe_callTy call_int1 (by rfl) T.z_int (by decide +kernel) (pa_cons (pe_ix ix_list (pv 0) pe_int (fun _ _ => rfl)) pa_nil)) (pv 1)))
      (pss_cons (ps_asg (pe_op op_fdivW (pe_ix ix_list (pv 0) pe_int (fun _ _ => rfl)) (pv 1)) (pg_sub (pv 0) pe_int set_list))
      (pss_one (ps_ret (pv 2)))))
      pss_nil)
      (pss_cons (ps_asg (pe_op op_add (pe_ix ix_list (pv 0) pe_int (fun _ _ => rfl)) pe_int) (pg_sub (pv 0) pe_int set_list))
      (pss_cons (ps_set (i := 3) sc_l_draw.nd rfl (Or.inl rfl) (pe_op op_add (pe_op op_mod (pe_callTy call_int1 (by rfl) T.z_int (by decide +kernel) (pa_cons (pe_ix ix_list (pv 0) pe_int (fun _ _ => rfl)) pa_nil)) pe_int) (pe_op op_mul (pe_op op_mod (pe_callTy call_int1 (by rfl) T.z_int (by decide +kernel) (pa_cons (pe_op op_fdivW (pe_ix ix_list (pv 0) pe_int (fun _ _ => rfl)) pe_int) pa_nil)) pe_int) pe_int)))
      (pss_cons (ps_set (i := 4) sc_l_draw.nd rfl (Or.inl rfl) (pe_op op_mod (pe_callTy call_int1 (by rfl) T.z_int (by decide +kernel) (pa_cons (pe_op op_pow (pe_op op_add (pe_op op_add (pv 3) (pe_op op_mul pe_int (pe_ix ix_list (pv 0) pe_int (fun _ _ => rfl)))) pe_int) pe_int) pa_nil)) pe_int))
      (pss_cons (ps_set (i := 4) sc_l_draw.nd rfl (Or.inl rfl) (pe_op op_mod (pe_callTy call_int1 (by rfl) T.z_int (by decide +kernel) (pa_cons (pe_op op_mul (pv 4) (pe_op op_add (pe_op op_add (pe_op op_fdivW (pv 4) pe_int) pe_int) (pe_ix ix_list (pv 0) pe_int (fun _ _ => rfl)))) pa_nil)) pe_int))
      (pss_one (ps_ret (pe_op op_mod (pe_callTy call_int1 (by rfl) T.z_int (by decide +kernel) (pa_cons (pe_op op_mod (pe_callTy call_int1 (by rfl) T.z_int (by decide +kernel) (pa_cons (pe_op op_mul (pv 4) (pe_op op_add (pe_op op_fdivW (pv 4) pe_int) pe_int)) pa_nil)) pe_int) pa_nil)) (pv 1))))))))), ?_⟩
    refine ⟨.ref a, rfl, a, _, 0, _, rfl, rfl, SqL.of hw, rfl, _, _, rfl, rfl, _, rfl, ite2 (fun h1 => ?_) (fun h1 => ?_)⟩
    · refine ⟨.ref a, rfl, a, _, 0, _, rfl, rfl, SqL.of hw, rfl, .inl ⟨_, rfl, .int n, rfl, _, _, rfl, rfl, hn0, ?_⟩⟩
      refine ⟨.ref a, rfl, a, _, 0, _, rfl, rfl, SqL.of hw, rfl, .int n, rfl, _, _, rfl, rfl, wide_div (b := 20) hn0 (by omega) (by decide) (by decide), .ref a, rfl, a, _, 0, 0, rfl, rfl, hw, rfl, .int (x % n), rfl, ?_⟩
      exact q _ _ _ _ (Int.emod_nonneg _ (by omega)) (Int.emod_lt_of_pos _ hn0) (Int.le_refl _) (by omega)
    · refine ⟨.ref a, rfl, a, _, 2, _, rfl, rfl, SqL.of hw, rfl, _, _, rfl, rfl, .ref a, rfl, a, _, 2, 2, rfl, rfl, hw, rfl, ?_⟩
      have hw2 : (upd H a (.lst [V.int x, .int y, .int (c + 1)])) a = some (.lst [V.int x, .int y, .int (c + 1)]) := upd_same
      have b1 : ∀ z m : Int, 0 < m → 0 ≤ z % m ∧ z % m < m := fun z m h => ⟨Int.emod_nonneg _ (by omega), Int.emod_lt_of_pos _ h⟩
      have y1 := b1 y 2147483549 (by decide)
      have y2 := b1 (y / 2147483549) 80021 (by decide)
      refine ⟨.ref a, rfl, a, _, 1, _, rfl, rfl, SqL.of hw2, rfl, .inl ⟨_, rfl, _, _, rfl, rfl, (by show (0 : Int) < _; decide), .ref a, rfl, a, _, 1, _, rfl, rfl, SqL.of hw2, rfl, _, _, rfl, rfl, wide_div (b := 40) (by decide) (by decide) (by decide) (by decide), .inl ⟨_, rfl, _, _, rfl, rfl, (by show (0 : Int) < _; decide), _, _, rfl, rfl, .inr (by decide), _, _, rfl, rfl, ?_⟩⟩⟩
      refine ⟨_, rfl, .ref a, rfl, a, _, 2, _, rfl, rfl, SqL.of hw2, rfl, _, _, rfl, rfl, .inl (by decide), _, _, rfl, rfl, _, _, rfl, rfl, _, _, rfl, rfl, ⟨by decide, by decide, pow_small (by omega) (by omega)⟩, .inl ⟨_, rfl, _, _, rfl, rfl, (by show (0 : Int) < _; decide), ?_⟩⟩
      generalize ((y % 2147483549 + y / 2147483549 % 80021 * 37 + 5843 * (c + 1) + 17) ^ Int.toNat 5) = big
      have m1 := b1 big 2147483647 (by decide)
      refine ⟨_, rfl, _, rfl, _, _, rfl, rfl, wide_div (b := 40) (by decide) (by decide) (by decide) (by decide), _, _, rfl, rfl, .ref a, rfl, a, _, 2, _, rfl, rfl, SqL.of hw2, rfl, _, _, rfl, rfl, _, _, rfl, rfl, .inl (by omega), .inl ⟨_, rfl, _, _, rfl, rfl, (by show (0 : Int) < _; decide), ?_⟩⟩
      generalize (big % 2147483647 * (big % 2147483647 / 953 + 40993 + (c + 1))) = big2
      have m2 := b1 big2 2147483629 (by decide)
      refine ⟨_, rfl, _, rfl, _, _, rfl, rfl, wide_div (b := 40) (by decide) (by decide) (by decide) (by decide), _, _, rfl, rfl, _, _, rfl, rfl, .inl (by omega), .inl ⟨_, rfl, _, _, rfl, rfl, (by show (0 : Int) < _; decide), .inl ⟨_, rfl, .int n, rfl, _, _, rfl, rfl, hn0, ?_⟩⟩⟩
      exact q _ _ _ _ (Int.emod_nonneg _ (by omega)) (Int.emod_lt_of_pos _ hn0) (by omega) (Int.le_refl _)
def spPick (K : PySem.W.Frag) : Sp := fun vs H Q _ => ∃ (a b : Addr) (xs : List V) (c : Int), vs = [.ref a, .ref b] ∧ Wl H a c ∧ SqL K H b xs ∧ b ≠ a ∧ 0 < xs.length ∧ xs.length < 1000000 ∧ c < 2 ^ 40 ∧ ∀ v ∈ xs, Aft a c 1 H (Q v)
theorem c_l_pick (T : Top K mg) : C8.Cal P w K mg base 2 "_law_pick" (spPick K) [] := by
  refine cal_of T.d_l_pick sc_l_pick (fun _ _ _ _ _ _ us hl => match us, hl with | [_, _], _ => rfl) (fun vs H Q E h => ?_) (fun f cdv A outer s H vs Q E hr h => ?_)
  · obtain ⟨a, b, xs, c, rfl, _⟩ := h
    rfl
  · obtain ⟨a, b, xs, c, rfl, hw, hS, nb, h0, h1, hc, q⟩ := h
    refine ⟨_, (pss_one (ps_ret (pe_ix ix_list (pv 1) (C8.pe_c (c_l_draw T) hr (by decide) (by rfl) (pa_cons (pv 0) (pa_cons (pe_callB call_len_seq (by rfl) T.z_len (by decide +kernel) (pa_cons (pv 1) pa_nil)) pa_nil))) (fun _ _ => rfl)))), ?_⟩
    refine ⟨.ref b, rfl, .ref a, rfl, .ref b, rfl, b, xs, rfl, .inl hS, a, xs.length, c, rfl, hw, by omega, by omega, hc, fun r x y c' hr0 hr1 hc1 hc2 => ?_⟩
    obtain ⟨v, hv, _, e⟩ := atI_int hr0 hr1
    exact ⟨b, xs, r, v, rfl, rfl, sql_fr hS nb Fr.at, e, q v hv _ c' Fr.at (Wl.upd (by have := hw.1; omega)) hc1 hc2⟩
theorem menu {xs : List Int} {v : V} (h : v ∈ xs.map V.int) : ∃ m ∈ xs, v = .int m := by
  obtain ⟨m, hm, rfl⟩ := List.mem_map.mp h
  exact ⟨m, hm, rfl⟩
/-- another sign at one place -/
def Bent (s x y : Str) : Prop := ∃ (i u : Nat), i < x.length ∧ u ∈ TL.tl s ∧ (TL.tl x)[i]? ≠ some u ∧ TL.tl y = (TL.tl x).take i ++ u :: (TL.tl x).drop (i + 1)
def Worded (z : Str) (a : Addr) (n : Nat) (c : Int) (H : Hp) (Q : VK) : Prop := ∀ x : Str, (∀ u ∈ TL.tl x, u ∈ TL.tl z) → x.length = n → Aft a c n H (Q (.str x))
def Bented (x z : Str) (a : Addr) (c : Int) (H : Hp) (Q : VK) : Prop := ∀ y : Str, Bent z x y → Aft a c 2 H (Q (.str y))
def spWordD : Sp := fun vs H Q _ => ∃ (a : Addr) (z : Str) (n : Nat) (c : Int), vs = [.ref a, .str z, .int n] ∧ Wl H a c ∧ 0 < z.length ∧ z.length < 100000 ∧ n ≤ 1000 ∧ c < 2 ^ 39 ∧ Worded z a n c H Q
theorem c_l_word (T : Top K mg) : C8.Cal P w K mg base 3 "_law_word" spWordD [] := by
  refine cal_of T.d_l_word sc_l_word (fun _ _ _ _ _ _ us hl => match us, hl with | [_, _, _], _ => rfl) (fun vs H Q E h => ?_) (fun f cdv A outer s H vs Q E hr h => ?_)
  · obtain ⟨a, z, n, c, rfl, _⟩ := h
    rfl
  · obtain ⟨a, z, n, c, rfl, hw, hz0, hz1, hn, hc, q⟩ := h
    have hc0 := hw.1
    refine ⟨_, (pss_one (ps_ret (pe_join pe_str (pe_lc (own := [("_law_k", 3)]) (g := gName 3) (by rfl) sc_l_word.nd (pi_range1 (by rfl) T.z_range (pa_cons (pv 2) pa_nil)) (blkOk_by (own := [("_law_k", 3)]) (N := ["_law_well_here", "_law_signs", "_law_many", "_law_k"]) (sc := C8.fnScope s_l_word) (by decide +kernel)) (fun _ _ _ _ _ => (pg_name (i := 3) sc_l_word.nd rfl (Or.inl rfl))) (fun _ _ _ _ _ => pts_nil) (fun _ _ _ _ _ => (C8.pe_c (c_l_pick T) hr (by decide) (by rfl) (pa_cons (pv 0) (pa_cons (pe_callTy (call_listS rfl) (by rfl) T.z_list (by decide +kernel) (pa_cons (pv 1) pa_nil)) pa_nil)))))))), ?_⟩
    refine ⟨⟨_, rfl⟩, .int n, rfl, _, rfl, by omega, by omega, fun D hD => ?_⟩
    have nD := hw.ne hD
    refine lc_inv (i := 3) yields_range (fun k acc H' => Fr a H H' ∧ ∃ c', Wl H' a c' ∧ c ≤ c' ∧ c' ≤ c + k ∧ ∃ cs : List Nat, acc = cs.map sgn ∧ (∀ u ∈ cs, u ∈ TL.tl z) ∧ cs.length = k) (fun _ _ _ _ _ => trivial) ?_ (fun k acc H' x I hA hx ha hk => ?_) ?_ (fun acc H' I hA _ => ?_)
    · exact ⟨Fr.new hD, c, hw.new hD, Int.le_refl _, by omega, [], rfl, (fun u hu => nomatch hu), rfl⟩
    · obtain ⟨fr, c', hw', hc3, hc4, cs, rfl, hcs, hl⟩ := I
      have hkm : k < n := by
        have := (List.getElem?_eq_some_iff.mp hx).1
        rw [List.length_map, List.length_range] at this
        omega
      refine yes_ ?_
      refine ⟨.ref a, rfl, .str z, rfl, z, rfl, small_line (by omega), fun p hp => ?_⟩
      have nDp : D ≠ p := ne_of_none' hp hA |>.symm
      refine ⟨a, p, (TL.tl z).map sgn, c', rfl, hw'.new hp, SqL.of upd_same, hw'.ne hp, by rw [List.length_map, ← TL.len_tl]; omega, by rw [List.length_map, ← TL.len_tl]; omega, by omega, fun v hv H2 c2 f2 w2 h1 h2 => ?_⟩
      obtain ⟨u, hu, rfl⟩ := List.mem_map.mp hv
      refine lc_take (f2 _ _ nD (by rw [upd_ne nDp]; exact hA)) ha hk ⟨((fr.trans (Fr.new hp)).trans f2).mut hD, c2, w2.mut nD, by omega, by omega, cs ++ [u], by rw [List.map_append]; rfl, fun w hw => ?_, by rw [List.length_append, hl]; rfl⟩
      rcases List.mem_append.mp hw with hw | hw
      · exact hcs w hw
      · rw [List.mem_singleton.mp hw]
        exact hu
    · rw [List.length_map, List.length_range]
      omega
    · obtain ⟨fr, c', hw', hc3, hc4, cs, rfl, hcs, hl⟩ := I
      rw [List.length_map, List.length_range] at hl hc4
      refine ⟨_, D, cs.map fun c => (⟨#[c]⟩ : Str), rfl, rfl, .inl (SqL.of (by rw [List.map_map]; exact hA)), ?_, ?_⟩
      · rw [signs_sum, List.length_map]
        show cs.length + cs.length * 0 ≤ _
        omega
      · have e := join_signs cs
        refine q _ (by rw [e]; exact hcs) (by rw [TL.len_tl, e]; omega) H' c' fr hw' (by omega) (by omega)
def spBentD : Sp := fun vs H Q _ => ∃ (a : Addr) (x z : Str) (c : Int), vs = [.ref a, .str x, .str z] ∧ Wl H a c ∧ 0 < x.length ∧ x.length ≤ 1000 ∧ z.length ≤ 1000 ∧ (∃ u v, u ∈ TL.tl z ∧ v ∈ TL.tl z ∧ u ≠ v) ∧ c < 2 ^ 39 ∧ Bented x z a c H Q
theorem c_l_bent (T : Top K mg) : C8.Cal P w K mg base 3 "_law_bent" spBentD [] := by
  refine cal_of T.d_l_bent sc_l_bent (fun _ _ _ _ _ _ us hl => match us, hl with | [_, _, _], _ => rfl) (fun vs H Q E h => ?_) (fun f cdv A outer s H vs Q E hr h => ?_)
  · obtain ⟨a, x, z, c, rfl, _⟩ := h
    rfl
  · obtain ⟨a, x, z, c, rfl, hw, hx0, hx1, hz1, ⟨u1, u2, hu1, hu2, hu3⟩, hc, q⟩ := h
    have hc0 := hw.1
    refine ⟨_, (pss_cons (ps_set (i := 3) sc_l_bent.nd rfl (Or.inr rfl) (C8.pe_c (c_l_draw T) hr (by decide) (by rfl) (pa_cons (pv 0) (pa_cons (pe_callB call_len_str (by rfl) T.z_len (by decide +kernel) (pa_cons (pv 1) pa_nil)) pa_nil))))
      (pss_one (ps_ret (pe_op op_add_str (pe_op op_add_str (pe_slice sl_str (pv 1) po_none (po_some (pv 3))) (C8.pe_c (c_l_pick T) hr (by decide) (by rfl) (pa_cons (pv 0) (pa_cons (pe_lc (own := [("_law_sign", 4)]) (g := gName 4) (by rfl) sc_l_bent.nd (pi_str (pv 2)) (blkOk_by (own := [("_law_sign", 4)]) (N := ["_law_well_here", "_law_text", "_law_signs", "_law_at", "_law_sign"]) (sc := C8.fnScope s_l_bent) (by decide +kernel)) (fun _ _ _ _ _ => (pg_name (i := 4) sc_l_bent.nd rfl (Or.inl rfl))) (fun _ _ _ _ _ => pts_one (pt_cmpR op_ne (pv 4) (pe_ix ix_str (pv 1) (pv 3) (fun _ _ => rfl)) (nomark _))) (fun _ _ _ _ _ => (pv 4))) pa_nil)))) (pe_slice sl_str (pv 1) (po_some (pe_op op_add (pv 3) pe_int)) po_none))))), ?_⟩
    refine ⟨.ref a, rfl, .str x, rfl, x, rfl, small_line (by omega), a, x.length, c, rfl, hw, by omega, by omega, by omega, fun r y1 y2 c1 hr0 hr1 hc1 hc2 => ?_⟩
    have hw1 := Wl.upd (H := H) (a := a) (x := y1) (y := y2) (c := c1) (by omega)
    have f1 : Fr a H (upd H a (.lst [.int y1, .int y2, .int c1])) := Fr.at
    generalize upd H a (.lst [.int y1, .int y2, .int c1]) = H1 at hw1 f1 ⊢
    obtain ⟨ch, hch, hg, e⟩ := atI_int (xs := TL.tl x) hr0 (by rw [← TL.len_tl]; exact hr1)
    refine ⟨.str x, rfl, .int r, rfl, _, rfl, x, rfl, small_line (by omega), .ref a, rfl, .str z, rfl, z, rfl, fun D hD => ?_⟩
    have nD := hw1.ne hD
    refine lc_pure (i := 4) (us := TL.tl z) (g := sgn) (yields_str z) sgn (fun u => !decide (V.str ⟨#[u]⟩ = V.str ⟨#[ch]⟩)) hD (fun _ _ => trivial) (fun H2 u _ hu R k => ⟨sgn u, rfl, .str x, rfl, .int r, rfl, x, r, ch, rfl, rfl, small_line (by omega), e, rfl, _, rfl, k H2 (Same.refl H2)⟩)
      (fun H2 u _ _ _ R k => ⟨sgn u, rfl, k H2 (Same.refl H2)⟩) (by rw [← TL.len_tl]; omega) (fun H2 s2 h2 => ?_)
    have hn : ∃ u ∈ TL.tl z, u ≠ ch := by
      by_cases c1 : u1 = ch
      · exact ⟨u2, hu2, fun z => hu3 (by rw [c1, z])⟩
      · exact ⟨u1, hu1, c1⟩
    obtain ⟨u0, hu0, hn0⟩ := hn
    have sgn_inj : ∀ u v : Nat, V.str ⟨#[u]⟩ = V.str ⟨#[v]⟩ → u = v := fun u v h => by
      injection h with h
      injection h with h
      injection h with h
      injection h
    have mem0 : u0 ∈ (TL.tl z).filter fun u => !decide (V.str ⟨#[u]⟩ = V.str ⟨#[ch]⟩) := List.mem_filter.mpr ⟨hu0, by rw [decide_eq_false fun q => hn0 (sgn_inj _ _ q)]; rfl⟩
    have lf : ((TL.tl z).filter fun u => !decide (V.str ⟨#[u]⟩ = V.str ⟨#[ch]⟩)).length ≤ 1000 := Nat.le_trans (List.length_filter_le _ _) (by rw [← TL.len_tl]; exact hz1)
    refine ⟨a, D, _, c1, rfl, hw1.same s2, SqL.of h2, nD, by rw [List.length_map]; exact List.length_pos_of_mem mem0, by rw [List.length_map]; omega, by omega, fun v hv H3 c3 f3 w3 h3 h4 => ?_⟩
    obtain ⟨u, hu, rfl⟩ := List.mem_map.mp hv
    obtain ⟨hu4, hu5⟩ := List.mem_filter.mp hu
    have hne : u ≠ ch := fun z => by
      rw [z, decide_eq_true rfl] at hu5
      cases hu5
    have l1 : (⟨#[u]⟩ : Str).length = 1 := rfl
    have c1' := cutS_le x none (some r)
    have c2' := cutS_le x (some (r + 1)) none
    refine ⟨_, _, rfl, rfl, small_line (by rw [l1]; omega), .str x, rfl, .int r, rfl, _, _, rfl, rfl, _, rfl, x, rfl, small_line (by omega), _, _, rfl, rfl, small_line (by rw [len_app, l1]; omega), ?_⟩
    have er : r = ((r.toNat : Nat) : Int) := by omega
    refine q _ ⟨r.toNat, u, by omega, hu4, by rw [hg]; exact fun z => hne (Option.some.inj z).symm, ?_⟩ H3 c3 (f1.trans ((Fr.same s2).trans f3)) w3 (by omega) (by omega)
    rw [TL.tl_append, TL.tl_append]
    have e1 := cut_to x r.toNat
    have e2 := cut_from x (r.toNat + 1)
    rw [← er] at e1
    rw [show (((r.toNat + 1 : Nat) : Nat) : Int) = r + 1 by omega] at e2
    rw [e1, e2, List.append_assoc]
    rfl
def SMALL : Str := "abcdefghijklmnopqrstuvwxyz"
theorem c_l_hex (T : Top K mg) : C8.Cal P w K mg base 1 "_law_hex" (fun vs H Q _ => vs = [] ∧ Q (.str HEX) H) [] := by
  refine cal_of T.d_l_hex sc_l_hex (fun _ _ _ _ _ _ us hl => match us, hl with | [], _ => rfl) (fun vs H Q E h => ?_) (fun f cdv A outer s H vs Q E hr h => ?_)
  · obtain ⟨rfl, _⟩ := h
    rfl
  · obtain ⟨rfl, q⟩ := h
    refine ⟨_, (pss_one (ps_ret pe_str)), ?_⟩
    exact q
theorem c_l_small (T : Top K mg) : C8.Cal P w K mg base 1 "_law_small" (fun vs H Q _ => vs = [] ∧ Q (.str LET) H) [] := by
  refine cal_of T.d_l_small sc_l_small (fun _ _ _ _ _ _ us hl => match us, hl with | [], _ => rfl) (fun vs H Q E h => ?_) (fun f cdv A outer s H vs Q E hr h => ?_)
  · obtain ⟨rfl, _⟩ := h
    rfl
  · obtain ⟨rfl, q⟩ := h
    refine ⟨_, (pss_one (ps_ret pe_str)), ?_⟩
    exact q
end

end Fk

set_option maxHeartbeats 4000000
namespace Fk
open PySem PySem.Spec PyProof.Rows L2
/-! ### what stays -/
/-- tuples, instances, dicts stay -/
structure Kp (H H' : Hp) : Prop where
  t : TupKeep H H'
  i : InsKeep H H'
  d : ∀ b u, H b = some (.dK u) → H' b = some (.dK u)
theorem Kp.same {H H' : Hp} (s : Same H H') : Kp H H' := ⟨TupKeep.of s, InsKeep.of s, fun _ _ e => s _ _ e⟩
theorem Kp.trans {H H1 H2 : Hp} (x : Kp H H1) (y : Kp H1 H2) : Kp H H2 := ⟨x.t.trans y.t, x.i.trans y.i, fun _ _ e => y.d _ _ (x.d _ _ e)⟩
theorem Kp.wl {H H' : Hp} {w : Addr} {c : Int} (hw : Wl H w c) (f : Fr w H H') : Kp H H' := by
  obtain ⟨_, x, y, e⟩ := hw
  exact ⟨f.tups e, f.inss e, fun _ _ z => f.dict e z⟩
theorem Kp.lst {H : Hp} {a : Addr} {l : List V} {o : HO} (h : H a = some (.lst l)) : Kp H (upd H a o) := by
  have f : Fr a H (upd H a o) := Fr.at
  exact ⟨f.tups h, f.inss h, fun _ _ z => f.dict h z⟩
theorem ObAt.kp {K : PySem.W.Frag} {c : C4} {H H' : Hp} {a d : Addr} {o : Ob} (h : ObAt K c H a d o) (k : Kp H H') : ObAt K c H' a d o := h.keep k.t k.i fun _ e => k.d _ _ e
def PairAt (K : PySem.W.Frag) (c : C4) (H : Hp) (v : V) : Prop := ∃ (p a d a' d' : Addr) (o o' : Ob), v = .ref p ∧ H p = some (.tup [.ref a, .ref a']) ∧ ObAt K c H a d o ∧ ObAt K c H a' d' o' ∧ o.ok ∧ o'.ok ∧ o ≠ o'
theorem PairAt.kp {K : PySem.W.Frag} {c : C4} {H H' : Hp} {v : V} (h : PairAt K c H v) (k : Kp H H') : PairAt K c H' v := by
  obtain ⟨p, a, d, a', d', o, o', e, h1, h2, h3, r⟩ := h
  exact ⟨p, a, d, a', d', o, o', e, k.t _ _ h1, h2.kp k, h3.kp k, r⟩
/-- a list r of pairs grows: the start H0, now H, the well a at k -/
structure Acc (K : PySem.W.Frag) (c : C4) (H0 H : Hp) (a r : Addr) (k : Int) (xs : List V) : Prop where
  f : Fr a H0 H
  w : Wl H a k
  ne : r ≠ a
  n0 : H0 r = none
  l : H r = some (.lst xs)
  ps : ∀ v ∈ xs, PairAt K c H v
theorem Acc.same {K : PySem.W.Frag} {c : C4} {H0 H H' : Hp} {a r : Addr} {k : Int} {xs : List V} (A : Acc K c H0 H a r k xs) (s : Same H H') : Acc K c H0 H' a r k xs := ⟨A.f.trans (Fr.same s), A.w.same s, A.ne, A.n0, s _ _ A.l, fun v hv => (A.ps v hv).kp (Kp.same s)⟩
theorem Acc.wl {K : PySem.W.Frag} {c : C4} {H0 H H' : Hp} {a r : Addr} {k k' : Int} {xs : List V} (A : Acc K c H0 H a r k xs) (f : Fr a H H') (w : Wl H' a k') : Acc K c H0 H' a r k' xs := ⟨A.f.trans f, w, A.ne, A.n0, f _ _ A.ne A.l, fun v hv => (A.ps v hv).kp (Kp.wl A.w f)⟩
theorem Acc.start {K : PySem.W.Frag} {c : C4} {H0 H : Hp} {a r : Addr} {k : Int} (f : Fr a H0 H) (w : Wl H a k) (hr : H r = none) : Acc K c H0 (upd H r (.lst [])) a r k [] := ⟨f.trans (Fr.new hr), w.new hr, w.ne hr, f.free (w.ne hr) hr, upd_same, fun v hv => nomatch hv⟩
theorem Acc.snoc {K : PySem.W.Frag} {c : C4} {H0 H : Hp} {a r p : Addr} {k : Int} {xs : List V} {l : List V} (A : Acc K c H0 H a r k xs) (hp : H p = none) (h : PairAt K c (upd H p (.tup l)) (.ref p)) : Acc K c H0 (upd (upd H p (.tup l)) r (.lst (xs ++ [.ref p]))) a r k (xs ++ [.ref p]) := by
  have A := A.same (same_new (o := .tup l) hp)
  exact ⟨A.f.mut A.n0, A.w.mut A.ne, A.ne, A.n0, upd_same, fun v hv => by
    rcases List.mem_append.mp hv with z | z
    · exact (A.ps v z).kp (Kp.lst A.l)
    · rw [List.mem_singleton.mp z]
      exact h.kp (Kp.lst A.l)⟩
theorem Acc.obs {K : PySem.W.Frag} {c : C4} {H0 H : Hp} {a r g d p : Addr} {k : Int} {xs l ys : List V} {o : Ob} (A : Acc K c H0 H a r k xs) (h : ObAt K c H g d o) (hp : H p = none) : ObAt K c (upd (upd H p (.tup l)) r (.lst ys)) g d o := (h.same (same_new (o := .tup l) hp)).kp (Kp.lst (A.same (same_new (o := .tup l) hp)).l)
theorem pair_new {K : PySem.W.Frag} {c : C4} {H : Hp} {p a d a' d' : Addr} {o o' : Ob} (hp : H p = none) (h : ObAt K c H a d o) (h' : ObAt K c H a' d' o') (ok : o.ok) (ok' : o'.ok) (ne : o ≠ o') : PairAt K c (upd H p (.tup [.ref a, .ref a'])) (.ref p) := ⟨p, a, d, a', d', o, o', rfl, upd_same, h.same (same_new hp), h'.same (same_new hp), ok, ok', ne⟩
/-! ### bent texts -/
theorem Bent.len {s x y : Str} (h : Bent s x y) : y.length = x.length := by
  obtain ⟨i, u, h1, h2, h3, h4⟩ := h
  rw [TL.len_tl, TL.len_tl, h4, List.length_append, List.length_cons, List.length_take, List.length_drop]
  rw [TL.len_tl] at h1
  omega
theorem Bent.ne {s x y : Str} (h : Bent s x y) : x ≠ y := fun z => by
  obtain ⟨i, u, h1, h2, h3, h4⟩ := h
  rw [TL.len_tl] at h1
  apply h3
  have e : (TL.tl x)[i]? = ((TL.tl x).take i ++ u :: (TL.tl x).drop (i + 1))[i]? := by
    rw [← h4, z]
  rw [e, List.getElem?_append_right (by rw [List.length_take]; omega), List.length_take, Nat.min_eq_left (by omega), Nat.sub_self]
  rfl
theorem Bent.all {s x y : Str} (h : Bent s x y) {p : Nat → Prop} (hx : ∀ u ∈ TL.tl x, p u) (hs : ∀ u ∈ TL.tl s, p u) : ∀ u ∈ TL.tl y, p u := fun v hv => by
  obtain ⟨i, u, h1, h2, h3, h4⟩ := h
  rw [h4] at hv
  rcases List.mem_append.mp hv with z | z
  · exact hx v (List.mem_of_mem_take z)
  · rcases List.mem_cons.mp z with z | z
    · rw [z]
      exact hs u h2
    · exact hx v (List.mem_of_mem_drop z)
theorem two_in {s : Str} (u v : Nat) (h : u ∈ TL.tl s ∧ v ∈ TL.tl s ∧ u ≠ v) : ∃ u v, u ∈ TL.tl s ∧ v ∈ TL.tl s ∧ u ≠ v := ⟨u, v, h⟩
theorem id_hex {x : Str} (h : isIdF x = true) : (∀ u ∈ TL.tl x, u ∈ TL.tl HEX) ∧ x.length = 16 := ⟨only_sub (Bool.and_eq_true_iff.mp (show (decide _ && _) = true from h)).2, id_len h⟩
theorem Bent.id {x y : Str} (h : Bent HEX x y) (hx : isIdF x = true) : isIdF y = true := id_of (h.all (id_hex hx).1 fun u hu => hu) (by rw [h.len]; exact id_len hx)
theorem let_lts : ∀ u ∈ TL.tl LET, u ∈ TL.tl LTS := by decide +kernel
def ABN : Str := "ab \n"
def ABC : Str := "ab c"
def XY : Str := "xy"
theorem abn_all : ∀ u ∈ TL.tl ABN, u ∈ TL.tl ALL := by decide +kernel
theorem abc_all : ∀ u ∈ TL.tl ABC, u ∈ TL.tl ALL := by decide +kernel
theorem xy_all : ∀ u ∈ TL.tl XY, u ∈ TL.tl ALL := by decide +kernel
theorem two_abn : ∃ u v, u ∈ TL.tl ABN ∧ v ∈ TL.tl ABN ∧ u ≠ v := two_in 97 98 (by decide +kernel)
theorem two_abc : ∃ u v, u ∈ TL.tl ABC ∧ v ∈ TL.tl ABC ∧ u ≠ v := two_in 97 98 (by decide +kernel)
theorem two_xy : ∃ u v, u ∈ TL.tl XY ∧ v ∈ TL.tl XY ∧ u ≠ v := two_in 120 121 (by decide +kernel)
theorem two_hex : ∃ u v, u ∈ TL.tl HEX ∧ v ∈ TL.tl HEX ∧ u ≠ v := two_in 48 49 (by decide +kernel)
theorem two_let : ∃ u v, u ∈ TL.tl LET ∧ v ∈ TL.tl LET ∧ u ≠ v := two_in 97 98 (by decide +kernel)
section
variable {P : Program} {w : World} {K : PySem.W.Frag} {mg : Str → Option Value} {base : Heap} {c : C4} {CS cX iX ek pd : Addr}
theorem do_draw {H : Hp} {a : Addr} {n k : Int} {Q : VK} (hw : Wl H a k) (h0 : 0 < n) (h1 : n < 1000000) (hk : k < 2 ^ 39) (q : ∀ r : Nat, (r : Int) < n → ∀ H' k', Fr a H H' → Wl H' a k' → k ≤ k' → k' ≤ k + 1 → Q (.int r) H') : spDraw [.ref a, .int n] H Q C8.E0 := by
  refine ⟨a, n, k, rfl, hw, h0, h1, by omega, fun r x y k' r0 r1 k1 k2 => ?_⟩
  obtain ⟨m, rfl⟩ := Int.eq_ofNat_of_zero_le r0
  exact q m r1 _ k' Fr.at (Wl.upd (by have := hw.1; omega)) k1 k2
theorem do_word {H : Hp} {a : Addr} {z : Str} {n k : Int} {m : Nat} {Q : VK} (e : n = (m : Int)) (hw : Wl H a k) (h0 : 0 < z.length) (h1 : z.length < 100000) (hm : m ≤ 1000) (hk : k < 2 ^ 38) (q : ∀ x : Str, (∀ u ∈ TL.tl x, u ∈ TL.tl z) → x.length = m → ∀ H' k', Fr a H H' → Wl H' a k' → k ≤ k' → k' ≤ k + m → Q (.str x) H') : spWordD [.ref a, .str z, .int n] H Q C8.E0 := by
  subst e
  exact ⟨a, z, m, k, rfl, hw, h0, h1, hm, by omega, q⟩
theorem do_bent {H : Hp} {a : Addr} {x z : Str} {k : Int} {Q : VK} (hw : Wl H a k) (h0 : 0 < x.length) (h1 : x.length ≤ 1000) (hz : z.length ≤ 1000) (h2 : ∃ u v, u ∈ TL.tl z ∧ v ∈ TL.tl z ∧ u ≠ v) (hk : k < 2 ^ 38) (q : ∀ y : Str, Bent z x y → ∀ H' k', Fr a H H' → Wl H' a k' → k ≤ k' → k' ≤ k + 2 → Q (.str y) H') : spBentD [.ref a, .str x, .str z] H Q C8.E0 :=
  ⟨a, x, z, k, rfl, hw, h0, h1, hz, h2, by omega, q⟩
def spComm (K : PySem.W.Frag) (c : C4) : Sp := fun vs H Q _ => ∃ (f p : Addr) (t : Str) (ps : List Str) (au : Str) (tm : Int) (msg : Str), vs = [.ref f] ∧ TupK K H f [.str t, .ref p, .str au, .int tm, .str msg] ∧ TupK K H p (ps.map V.str) ∧ Ob.ok (.commit t ps au tm msg) ∧
  ∀ a H', H a = none → Same H H' → ObAt K c H' a a (.commit t ps au tm msg) → Q (.ref a) H'
theorem c_l_commit (T : TopO K mg c CS cX iX ek pd) : C8.Cal P w K mg base 7 "_law_commit" (spComm K c) [] := by
  refine cal_of T.d_l_commit sc_l_commit (fun _ _ _ _ _ _ us hl => match us, hl with | [_], _ => rfl) (fun vs H Q E h => ?_) (fun f cdv A outer s H vs Q E hr h => ?_)
  · obtain ⟨f, p, t, ps, au, tm, msg, rfl, _⟩ := h
    rfl
  · obtain ⟨f, p, t, ps, au, tm, msg, rfl, hf, hp, ok, q⟩ := h
    refine ⟨_, (pss_cons (ps_asg (pv 0) (pg_tup rfl (pgs_cons (pg_name (i := 1) sc_l_commit.nd rfl (Or.inl rfl)) (pgs_cons (pg_name (i := 2) sc_l_commit.nd rfl (Or.inl rfl)) (pgs_cons (pg_name (i := 3) sc_l_commit.nd rfl (Or.inl rfl)) (pgs_cons (pg_name (i := 4) sc_l_commit.nd rfl (Or.inl rfl)) (pgs_cons (pg_name (i := 5) sc_l_commit.nd rfl (Or.inl rfl)) pgs_nil)))))))
      (pss_one (ps_ret (pe_mkK (k_Commit_2_author_time_message T) hr (by decide) (by rfl) (pa_cons (pv 1) (pa_cons (pv 2) pa_nil)) (pk_cons (pv 3) (pk_cons (pv 4) (pk_cons (pv 5) pk_nil))))))), ?_⟩
    refine ⟨.ref f, rfl, f, _, rfl, hf.sq, rfl, ?_⟩
    refine ⟨.str t, _, rfl, .ref p, _, rfl, .str au, _, rfl, .int tm, _, rfl, .str msg, _, rfl, rfl, ?_⟩
    exact ⟨.str t, rfl, .ref p, rfl, .str au, rfl, .int tm, rfl, .str msg, rfl, rfl, rfl, do_commit hp ok q⟩
theorem mk_blob {x : Str} {H : Hp} {R : Hp → Prop} {a dx : Addr} (hx : isTextF x = true) (ha : H a = none) (hd : H dx = none) (q : ∀ H', Same H H' → ObAt K c H' a a (.blob x) → R H') :
    spBlobI c [.ref a, .str x] (upd (upd H dx (.own a)) a (.ins c.B dx [])) (fun v H2 => v = .non ∧ R H2) C8.E0 :=
  ⟨a, dx, x, rfl, upd_same, hx, fun H' f e => ⟨rfl, q H' (made_same ha hd f) ⟨dx, e⟩⟩⟩
theorem mk_tag {tg lb msg : Str} {H : Hp} {R : Hp → Prop} {a dx : Addr} (ok : Ob.ok (.tag tg lb msg)) (ha : H a = none) (hd : H dx = none) (q : ∀ H', Same H H' → ObAt K c H' a a (.tag tg lb msg) → R H') :
    spTagI c [.ref a, .str tg, .str lb, .str msg] (upd (upd H dx (.own a)) a (.ins c.G dx [])) (fun v H2 => v = .non ∧ R H2) C8.E0 :=
  ⟨a, dx, tg, lb, msg, rfl, upd_same, ok, fun H' f e => ⟨rfl, q H' (made_same ha hd f) ⟨dx, e⟩⟩⟩
theorem mk_commit {p : Addr} {t : Str} {ps : List Str} {au : Str} {tm : Int} {msg : Str} {H : Hp} {R : Hp → Prop} {a dx : Addr} (hp : TupK K H p (ps.map V.str)) (ok : Ob.ok (.commit t ps au tm msg)) (ha : H a = none) (hd : H dx = none) (q : ∀ H', Same H H' → ObAt K c H' a a (.commit t ps au tm msg) → R H') :
    spCommitI K c [.ref a, .str t, .ref p, .str au, .int tm, .str msg] (upd (upd H dx (.own a)) a (.ins c.C dx [])) (fun v H2 => v = .non ∧ R H2) C8.E0 :=
  ⟨a, dx, p, t, ps, au, tm, msg, rfl, upd_same, hp.keep (TupKeep.of (made_same ha hd (Fr.refl _ _))), ok, fun H' f e => ⟨rfl, q H' (made_same ha hd f) ⟨dx, p, e, hp.keep (TupKeep.of (made_same ha hd f))⟩⟩⟩
theorem mk_tree {e : Addr} {t : Tab} {es : List Ent} {H : Hp} {R : Hp → Prop} {a dx : Addr} (he : H e = some (.dK (kT t))) (hE : EntsAt K H t es) (hl : es.length ≤ 30) (nd : (es.map (·.1)).Nodup) (ok : ∀ x ∈ es, EntOk x) (ha : H a = none) (hd : H dx = none)
    (q : ∀ d es' H', H d = none → Same H H' → es'.Perm es → Ob.ok (.tree es') → ObAt K c H' a d (.tree es') → R H') :
    spTreeI K c [.ref a, .ref e] (upd (upd H dx (.own a)) a (.ins c.T dx [])) (fun v H2 => v = .non ∧ R H2) C8.E0 := by
  have s1 : Same H (upd (upd H dx (.own a)) a (.ins c.T dx [])) := made_same ha hd (Fr.refl _ _)
  exact ⟨a, e, dx, t, es, rfl, upd_same, s1 _ _ he, hE.keep (TupKeep.of s1), hl, nd, ok, fun d t' es' H' hd' f h1 h2 h3 hp hok => ⟨rfl, q d es' H' (s1.free hd') (made_same ha hd f) hp hok ⟨dx, t', h1, h2, h3⟩⟩⟩
theorem mk_store {b : Bool} {H : Hp} {R : Hp → Prop} {a dx : Addr} (ha : H a = none) (hd : H dx = none) (q : ∀ d H', H d = none → Same H H' → H' a = some (.ins CS dx (sf b d)) → H' d = some (.dK []) → R H') :
    spStoreI CS [.ref a, .bl b] (upd (upd H dx (.own a)) a (.ins CS dx [])) (fun v H2 => v = .non ∧ R H2) C8.E0 := by
  have s1 : Same H (upd (upd H dx (.own a)) a (.ins CS dx [])) := made_same ha hd (Fr.refl _ _)
  exact ⟨a, dx, b, rfl, upd_same, fun d H' hd' f h1 h2 => ⟨rfl, q d H' (s1.free hd') (made_same ha hd f) h1 h2⟩⟩
def spPairs (K : PySem.W.Frag) (c : C4) : Sp := fun vs H Q _ => ∃ (a : Addr) (k : Int), vs = [.ref a] ∧ Wl H a k ∧ k < 2 ^ 36 ∧ ∀ r xs, xs.length ≤ 20 → ∀ H' k', Fr a H H' → Wl H' a k' → k ≤ k' → k' ≤ k + 2000 → r ≠ a → H' r = some (.lst xs) → (∀ v ∈ xs, PairAt K c H' v) → Q (.ref r) H'
theorem c_l_rest (T : TopO K mg c CS cX iX ek pd) : C8.Cal P w K mg base 7 "_law_rest" (spPairs K c) [] := by
  refine cal_of T.d_l_rest sc_l_rest (fun _ _ _ _ _ _ us hl => match us, hl with | [_], _ => rfl) (fun vs H Q E h => ?_) (fun f cdv A outer s H vs Q E hr h => ?_)
  · obtain ⟨a, k, rfl, _⟩ := h
    rfl
  · obtain ⟨a, k, rfl, hw, hk, q⟩ := h
    refine ⟨_, (pss_cons (ps_par (i := 1) (j := 2) rfl sc_l_rest.nd rfl rfl (by decide) rfl rfl (pa_cons (C8.pe_c (c_l_word T.toTop) hr (by decide) (by rfl) (pa_cons (pv 0) (pa_cons pe_str (pa_cons (pe_op op_add pe_int (C8.pe_c (c_l_draw T.toTop) hr (by decide) (by rfl) (pa_cons (pv 0) (pa_cons pe_int pa_nil)))) pa_nil)))) (pa_cons (C8.pe_c (c_l_word T.toTop) hr (by decide) (by rfl) (pa_cons (pv 0) (pa_cons (pe_c0 (c_l_hex T.toTop) hr (by decide) (by rfl)) (pa_cons pe_int pa_nil)))) pa_nil)) rfl)
      (pss_cons (ps_par (i := 3) (j := 4) rfl sc_l_rest.nd rfl rfl (by decide) rfl rfl (pa_cons (C8.pe_c (c_l_word T.toTop) hr (by decide) (by rfl) (pa_cons (pv 0) (pa_cons (pe_c0 (c_l_small T.toTop) hr (by decide) (by rfl)) (pa_cons (pe_op op_add pe_int (C8.pe_c (c_l_draw T.toTop) hr (by decide) (by rfl) (pa_cons (pv 0) (pa_cons pe_int pa_nil)))) pa_nil)))) (pa_cons (C8.pe_c (c_l_word T.toTop) hr (by decide) (by rfl) (pa_cons (pv 0) (pa_cons pe_str (pa_cons (pe_op op_add pe_int (C8.pe_c (c_l_draw T.toTop) hr (by decide) (by rfl) (pa_cons (pv 0) (pa_cons pe_int pa_nil)))) pa_nil)))) pa_nil)) rfl)
      (pss_cons (ps_set (i := 5) sc_l_rest.nd rfl (Or.inl rfl) (pe_mkK (k_Tag_1_label_message T) hr (by decide) (by rfl) (pa_cons (pv 2) pa_nil) (pk_cons (pv 3) (pk_cons (pv 4) pk_nil))))
      (pss_cons (ps_set (i := 6) sc_l_rest.nd rfl (Or.inl rfl) (pe_lst (pa_cons (pe_tup (pa_cons (C8.pe_mk (k_Blob T) hr (by decide) (by rfl) (pa_cons (pv 1) pa_nil)) (pa_cons (C8.pe_mk (k_Blob T) hr (by decide) (by rfl) (pa_cons (C8.pe_c (c_l_bent T.toTop) hr (by decide) (by rfl) (pa_cons (pv 0) (pa_cons (pv 1) (pa_cons pe_str pa_nil)))) pa_nil)) pa_nil))) pa_nil)))
      (pss_cons (ps_expr (pe_bm PySem.F.plainAttrs_list PySem.F.slot_list_append PySem.F.type_list_append mt_append (pv 6) (pa_cons (pe_tup (pa_cons (pv 5) (pa_cons (pe_mkK (k_Tag_1_label_message T) hr (by decide) (by rfl) (pa_cons (C8.pe_c (c_l_bent T.toTop) hr (by decide) (by rfl) (pa_cons (pv 0) (pa_cons (pv 2) (pa_cons (pe_c0 (c_l_hex T.toTop) hr (by decide) (by rfl)) pa_nil)))) pa_nil) (pk_cons (pv 3) (pk_cons (pv 4) pk_nil))) pa_nil))) pa_nil)))
      (pss_cons (ps_expr (pe_bm PySem.F.plainAttrs_list PySem.F.slot_list_append PySem.F.type_list_append mt_append (pv 6) (pa_cons (pe_tup (pa_cons (pv 5) (pa_cons (pe_mkK (k_Tag_1_label_message T) hr (by decide) (by rfl) (pa_cons (pv 2) pa_nil) (pk_cons (C8.pe_c (c_l_bent T.toTop) hr (by decide) (by rfl) (pa_cons (pv 0) (pa_cons (pv 3) (pa_cons (pe_c0 (c_l_small T.toTop) hr (by decide) (by rfl)) pa_nil)))) (pk_cons (pv 4) pk_nil))) pa_nil))) pa_nil)))
      (pss_one (ps_ret (pe_op op_cat (pv 6) (pe_lst (pa_cons (pe_tup (pa_cons (pv 5) (pa_cons (pe_mkK (k_Tag_1_label_message T) hr (by decide) (by rfl) (pa_cons (pv 2) pa_nil) (pk_cons (pv 3) (pk_cons (C8.pe_c (c_l_bent T.toTop) hr (by decide) (by rfl) (pa_cons (pv 0) (pa_cons (pv 4) (pa_cons pe_str pa_nil)))) pk_nil))) pa_nil))) pa_nil))))))))))), ?_⟩
    refine ⟨.ref a, rfl, .ref a, rfl, do_draw hw (by decide) (by decide) (by omega) fun r1 hr1 H1 k1 f1 w1 l1 m1 => ⟨_, _, rfl, rfl, do_word (z := ABN) (m := 1 + r1) (by omega) w1 (by decide +kernel) (by decide +kernel) (by omega) (by omega) fun x hx hxl H2 k2 f2 w2 l2 m2 => ?_⟩⟩
    refine ⟨.ref a, rfl, rfl, do_word (z := HEX) (m := 16) rfl w2 (by decide +kernel) (by decide +kernel) (by omega) (by omega) fun tg htg htl H3 k3 f3 w3 l3 m3 => ⟨_, _, rfl, ?_⟩⟩
    refine ⟨.ref a, rfl, rfl, .ref a, rfl, do_draw w3 (by decide) (by decide) (by omega) fun r2 hr2 H4 k4 f4 w4 l4 m4 => ⟨_, _, rfl, rfl, do_word (z := LET) (m := 1 + r2) (by omega) w4 (by decide +kernel) (by decide +kernel) (by omega) (by omega) fun lb hlb hll H5 k5 f5 w5 l5 m5 => ?_⟩⟩
    refine ⟨.ref a, rfl, .ref a, rfl, do_draw w5 (by decide) (by decide) (by omega) fun r3 hr3 H6 k6 f6 w6 l6 m6 => ⟨_, _, rfl, rfl, do_word (z := XY) (m := 1 + r3) (by omega) w6 (by decide +kernel) (by decide +kernel) (by omega) (by omega) fun ms hms hml H7 k7 f7 w7 l7 m7 => ⟨_, _, rfl, ?_⟩⟩⟩
    have okx : isTextF x = true := text_of (fun u hu => abn_all u (hx u hu)) (by omega)
    have okt : isIdF tg = true := id_of htg htl
    have okl : isSegF lb = true := seg_plain (fun u hu => let_lts u (hlb u hu)) (by omega) (by omega)
    have okm : isTextF ms = true := text_of (fun u hu => xy_all u (hms u hu)) (by omega)
    have okT : Ob.ok (.tag tg lb ms) := ⟨okt, okl, okm, by omega⟩
    refine ⟨.str tg, rfl, .str lb, rfl, .str ms, rfl, rfl, rfl, fun g gx hg hgx _ => mk_tag (K := K) okT hg hgx fun H8 s8 o8 => ?_⟩
    have w8 := w7.same s8
    have f8 := ((((((f1.trans f2).trans f3).trans f4).trans f5).trans f6).trans f7).trans (Fr.same s8)
    clear f1 f2 f3 f4 f5 f6 f7 w1 w2 w3 w4 w5 w6
    refine ⟨.str x, rfl, fun b1 x1 hb1 hx1 _ => mk_blob (K := K) okx hb1 hx1 fun H9 s9 o9 => ?_⟩
    have w9 := w8.same s9
    refine ⟨.ref a, rfl, .str x, rfl, do_bent (z := ABN) w9 (by omega) (by omega) (by decide +kernel) two_abn (by omega) fun y hy H10 k10 f10 w10 l10 m10 => ?_⟩
    have oky : isTextF y = true := text_of (hy.all (fun u hu => abn_all u (hx u hu)) abn_all) (by rw [hy.len]; omega)
    refine fun b2 x2 hb2 hx2 _ => mk_blob (K := K) oky hb2 hx2 fun H11 s11 o11 => ?_
    have f11 := ((f8.trans (Fr.same s9)).trans f10).trans (Fr.same s11)
    have w11 := w10.same s11
    refine ⟨(by show 2 ≤ sizeLine; decide), fun p1 hp1 => ?_⟩
    refine ⟨(by show 1 ≤ sizeLine; decide), fun r hrn => ?_⟩
    have nxy : Ob.blob x ≠ Ob.blob y := fun z => hy.ne (by injection z)
    have A1 : Acc K c H (upd (upd H11 p1 (.tup [.ref b1, .ref b2])) r (.lst [.ref p1])) a r k10 [.ref p1] := by
      have s1 : Same H11 (upd H11 p1 (.tup [.ref b1, .ref b2])) := same_new hp1
      have w := w11.same s1
      refine ⟨(f11.trans (Fr.same s1)).trans (Fr.new hrn), w.new hrn, w.ne hrn, (f11.trans (Fr.same s1)).free (w.ne hrn) hrn, upd_same, fun v hv => ?_⟩
      rw [List.mem_singleton.mp hv]
      exact (pair_new hp1 (((o9.kp (Kp.wl w9 f10)).same s11)) o11 okx oky nxy).kp (Kp.same (same_new hrn))
    have g1 : ObAt K c (upd (upd H11 p1 (.tup [.ref b1, .ref b2])) r (.lst [.ref p1])) g g (.tag tg lb ms) := ((((o8.same s9).kp (Kp.wl w9 f10)).same s11).same (same_new hp1)).same (same_new hrn)
    generalize upd (upd H11 p1 (.tup [.ref b1, .ref b2])) r (.lst [.ref p1]) = G1 at A1 g1 ⊢
    clear f8 f10 f11 w7 w8 w9 w10 w11 o8 o9 o11 s8 s9 s11
    refine ⟨.ref r, rfl, .inl ⟨rfl, _, SqL.of A1.l⟩, .ref g, rfl, .ref a, rfl, .str tg, rfl, rfl, do_bent (z := HEX) A1.w (by omega) (by omega) (by decide +kernel) two_hex (by omega) fun tg2 htg2 G2 k11 f11 w11 l11 m11 => ?_⟩
    have okT2 : Ob.ok (.tag tg2 lb ms) := ⟨htg2.id okt, okl, okm, by omega⟩
    refine ⟨.str lb, rfl, .str ms, rfl, rfl, rfl, fun b3 x3 hb3 hx3 _ => mk_tag (K := K) okT2 hb3 hx3 fun G3 s3 o3 => ?_⟩
    have A3 := (A1.wl f11 w11).same s3
    have g3 := (g1.kp (Kp.wl A1.w f11)).same s3
    refine ⟨(by show 2 ≤ sizeLine; decide), fun p2 hp2 => ⟨r, _, .ref p2, rfl, rfl, (A3.same (same_new hp2)).l, (by show 1 < sizeLine; decide), ?_⟩⟩
    have A4 := A3.snoc hp2 (pair_new hp2 g3 o3 okT okT2 (fun z => htg2.ne (by injection z)))
    have g4 := A3.obs (l := [.ref g, .ref b3]) (ys := [.ref p1] ++ [.ref p2]) g3 hp2
    generalize upd (upd G3 p2 (.tup [.ref g, .ref b3])) r (.lst ([.ref p1] ++ [.ref p2])) = G4 at A4 g4 ⊢
    clear A1 A3 g1 g3 o3 s3 w11 f11
    refine ⟨.ref r, rfl, .inl ⟨rfl, _, SqL.of A4.l⟩, .ref g, rfl, .str tg, rfl, .ref a, rfl, .str lb, rfl, rfl, do_bent (z := LET) A4.w (by omega) (by omega) (by decide +kernel) two_let (by omega) fun lb2 hlb2 G5 k12 f12 w12 l12 m12 => ?_⟩
    have okT3 : Ob.ok (.tag tg lb2 ms) := ⟨okt, seg_plain (hlb2.all (fun u hu => let_lts u (hlb u hu)) let_lts) (by rw [hlb2.len]; omega) (by rw [hlb2.len]; omega), okm, by omega⟩
    refine ⟨.str ms, rfl, rfl, rfl, fun b4 x4 hb4 hx4 _ => mk_tag (K := K) okT3 hb4 hx4 fun G6 s6 o6 => ?_⟩
    have A5 := (A4.wl f12 w12).same s6
    have g5 := (g4.kp (Kp.wl A4.w f12)).same s6
    refine ⟨(by show 2 ≤ sizeLine; decide), fun p3 hp3 => ⟨r, _, .ref p3, rfl, rfl, (A5.same (same_new hp3)).l, (by show 2 < sizeLine; decide), ?_⟩⟩
    have A6 := A5.snoc hp3 (pair_new hp3 g5 o6 okT okT3 (fun z => hlb2.ne (by injection z)))
    have g6 := A5.obs (l := [.ref g, .ref b4]) (ys := [.ref p1] ++ [.ref p2] ++ [.ref p3]) g5 hp3
    generalize upd (upd G6 p3 (.tup [.ref g, .ref b4])) r (.lst ([.ref p1] ++ [.ref p2] ++ [.ref p3])) = G7 at A6 g6 ⊢
    clear A4 A5 g4 g5 o6 s6 w12 f12
    refine ⟨.ref r, rfl, .ref g, rfl, .str tg, rfl, .str lb, rfl, .ref a, rfl, .str ms, rfl, do_bent (z := XY) A6.w (by omega) (by omega) (by decide +kernel) two_xy (by omega) fun ms2 hms2 G8 k13 f13 w13 l13 m13 => ?_⟩
    have okT4 : Ob.ok (.tag tg lb ms2) := ⟨okt, okl, text_of (hms2.all (fun u hu => xy_all u (hms u hu)) xy_all) (by rw [hms2.len]; omega), by rw [hms2.len]; omega⟩
    refine ⟨rfl, rfl, fun b5 x5 hb5 hx5 _ => mk_tag (K := K) okT4 hb5 hx5 fun G9 s9 o9 => ?_⟩
    have A7 := (A6.wl f13 w13).same s9
    have g7 := (g6.kp (Kp.wl A6.w f13)).same s9
    refine ⟨(by show 2 ≤ sizeLine; decide), fun p4 hp4 => ⟨(by show 1 ≤ sizeLine; decide), fun r2 hr2n => ?_⟩⟩
    have q4 := pair_new hp4 g7 o9 okT okT4 (fun z => hms2.ne (by injection z))
    have A8 := A7.same (same_new (o := .tup [.ref g, .ref b5]) hp4)
    have A9 := A8.same (same_new (o := .lst [.ref p4]) hr2n)
    have q5 := q4.kp (Kp.same (same_new (o := .lst [.ref p4]) hr2n))
    refine ⟨r, r2, _, _, rfl, rfl, A9.l, upd_same, (by show 4 ≤ sizeLine; decide), fun r3 hr3n => ?_⟩
    have s10 := same_new (o := .lst ([.ref p1] ++ [.ref p2] ++ [.ref p3] ++ [.ref p4])) hr3n
    refine q r3 _ (by show 4 ≤ 20; decide) _ k13 (A9.f.trans (Fr.same s10)) (A9.w.same s10) (by omega) (by omega) (A9.w.ne hr3n) upd_same fun v hv => ?_
    rcases List.mem_append.mp hv with z | z
    · exact ((A9.same s10).ps v z)
    · rw [List.mem_singleton.mp z]
      exact q5.kp (Kp.same s10)
end

end Fk

set_option maxHeartbeats 4000000
namespace Fk
open PySem PySem.Spec PyProof.Rows L2
/-! ### parents -/
def dig (i : Nat) : Str := ⟨#[50 + i]⟩
theorem tl_dig (i : Nat) (x : Str) : TL.tl (dig i ++ x) = (50 + i) :: TL.tl x := by
  rw [TL.tl_append]
  rfl
def Hex15 (x : Str) : Prop := (∀ u ∈ TL.tl x, u ∈ TL.tl HEX) ∧ x.length = 15
def Par (qs : List Str) : Prop := ∀ i (h : i < qs.length), ∃ x, qs[i] = dig i ++ x ∧ Hex15 x
theorem Par.nil : Par [] := fun i h => absurd h (Nat.not_lt_zero i)
theorem Par.snoc {qs : List Str} (h : Par qs) {x : Str} (hx : Hex15 x) : Par (qs ++ [dig qs.length ++ x]) := fun i hi => by
  rw [List.length_append, List.length_singleton] at hi
  by_cases c : i < qs.length
  · rw [List.getElem_append_left c]
    exact h i c
  · have : i = qs.length := by omega
    subst this
    rw [List.getElem_append_right (Nat.le_refl _)]
    refine ⟨x, ?_, hx⟩
    simp
theorem Par.set {qs : List Str} (h : Par qs) {x : Str} (hx : Hex15 x) (j : Nat) : Par (qs.set j (dig j ++ x)) := fun i hi => by
  rw [List.length_set] at hi
  rw [List.getElem_set]
  split
  · next e => exact ⟨x, by rw [e], hx⟩
  · exact h i hi
theorem Par.nd {qs : List Str} (h : Par qs) : qs.Nodup := by
  refine List.pairwise_iff_getElem.mpr fun i j hi hj hij e => ?_
  obtain ⟨x, ex, _⟩ := h i hi
  obtain ⟨y, ey, _⟩ := h j hj
  rw [ex, ey] at e
  have e := congrArg TL.tl e
  rw [tl_dig, tl_dig] at e
  injection e with e _
  omega
theorem dig_hex : ∀ i < 4, 50 + i ∈ TL.tl HEX := by decide +kernel
theorem dig_at : ∀ i < 4, (TL.tl ("2345" : Str))[i]? = some (50 + i) := by decide +kernel
theorem dig_id {i : Nat} {x : Str} (hi : i < 4) (hx : Hex15 x) : isIdF (dig i ++ x) = true := by
  refine id_of (fun u hu => ?_) (by rw [TL.len_tl, tl_dig, List.length_cons, ← TL.len_tl, hx.2])
  rw [tl_dig] at hu
  rcases List.mem_cons.mp hu with z | z
  · rw [z]
    exact dig_hex i hi
  · exact hx.1 u z
theorem Par.ids {qs : List Str} (h : Par qs) (hl : qs.length ≤ 4) : ∀ p ∈ qs, isIdF p = true := fun p hp => by
  obtain ⟨i, hi, rfl⟩ := List.mem_iff_getElem.mp hp
  obtain ⟨x, ex, hx⟩ := h i hi
  rw [ex]
  exact dig_id (by omega) hx
theorem tl_ext {a b : Str} (h : TL.tl a = TL.tl b) : a = b := str_ext h
theorem rot_ne {qs : List Str} (nd : qs.Nodup) (h : 1 < qs.length) : qs ≠ qs.drop 1 ++ qs.take 1 := fun z => by
  have e : qs[0]'(by omega) = qs[1] := by
    have := List.getElem_of_eq z (i := 0) (by omega)
    rw [this, List.getElem_append_left (by rw [List.length_drop]; omega), List.getElem_drop]
  have := nodup_inj nd (by omega) h e
  omega
theorem rot_perm (qs : List Str) : (qs.drop 1 ++ qs.take 1).Perm qs := by
  have := List.perm_append_comm (l₁ := qs.drop 1) (l₂ := qs.take 1)
  rwa [List.take_append_drop] at this
theorem set_cut {α : Type} (l : List α) (i : Nat) (x : α) (h : i < l.length) : l.set i x = l.take i ++ [x] ++ l.drop (i + 1) := by
  rw [List.set_eq_take_append_cons_drop, if_pos h, List.append_assoc]
  rfl
/-! ### tuples -/
theorem cutV_map {α : Type} (l : List α) (g : α → V) (lo hi : Option Int) : ∃ m : List α, cutV (l.map g) lo hi = m.map g := by
  unfold cutV
  rw [← List.map_drop, ← List.map_take]
  exact ⟨_, rfl⟩
theorem cutV_to {α : Type} (l : List α) (g : α → V) (k : Nat) : cutV (l.map g) none (some (k : Int)) = (l.take k).map g := by
  unfold cutV
  rw [HT.sIx_none, HT.sIx_nat, List.drop_zero, Nat.sub_zero, List.map_take]
  rcases Nat.le_total k (l.map g).length with h | h
  · rw [Nat.min_eq_left h]
  · rw [Nat.min_eq_right h, List.take_length, List.take_of_length_le h]
theorem cutV_from {α : Type} (l : List α) (g : α → V) (k : Nat) : cutV (l.map g) (some (k : Int)) none = (l.drop k).map g := by
  unfold cutV
  rw [HT.sIx_none, HT.sIx_nat, List.map_drop]
  rcases Nat.le_total k (l.map g).length with h | h
  · rw [Nat.min_eq_left h, List.take_of_length_le (by rw [List.length_drop]; omega)]
  · rw [Nat.min_eq_right h, List.drop_length, List.drop_of_length_le h, List.take_nil]
theorem slA {K : PySem.W.Frag} {H : Hp} {a : Addr} {xs : List V} {lo hi : Option Int} {Q : VK} (h : H a = some (.tup xs)) (q : ∀ p H', Same H H' → H' p = some (.tup (cutV xs lo hi)) → Q (.ref p) H') : rSlA K (.ref a) lo hi H Q :=
  ⟨a, xs, rfl, SqT.of h, fun hw => q a H (Same.refl H) (by unfold cutV; rw [hw.1, hw.2, List.drop_zero, Nat.sub_zero, List.take_length]; exact h), fun _ p hp => q p _ (same_new hp) upd_same⟩
theorem slB {K : PySem.W.Frag} {H : Hp} {a : Addr} {xs : List V} {lo : Option Int} {σ : L2.St} {Q : VK} (h : H a = some (.tup xs)) (q : ∀ p H', Same H H' → H' p = some (.tup (cutV xs lo none)) → Q (.ref p) H') : tNoPart σ H (fun u H3 => rSlA K (.ref a) lo u H3 Q) := slA h q
theorem catB {K : PySem.W.Frag} {H : Hp} {a b : Addr} {xs ys : List V} {Q : VK} (ha : H a = some (.tup xs)) (hb : H b = some (.tup ys)) (hz : xs.length + ys.length ≤ 1000000) (q : ∀ p H', Same H H' → H' p = some (.tup (xs ++ ys)) → Q (.ref p) H') : rCatA K (.ref a) (.ref b) H Q :=
  ⟨a, b, xs, ys, rfl, rfl, SqT.of ha, SqT.of hb, small_line hz, fun e => q b H (Same.refl H) (by rw [e]; exact hb), fun _ e => q a H (Same.refl H) (by rw [e, List.append_nil]; exact ha), fun _ _ p hp => q p _ (same_new hp) upd_same⟩
/-- a tuple of fields of a commit other than base -/
def CmAt (H : Hp) (base : Ob) (v : V) : Prop := ∃ (f p : Addr) (t : Str) (ps : List Str) (au : Str) (tm : Int) (msg : Str), v = .ref f ∧ H f = some (.tup [.str t, .ref p, .str au, .int tm, .str msg]) ∧ H p = some (.tup (ps.map V.str)) ∧ Ob.ok (.commit t ps au tm msg) ∧ base ≠ .commit t ps au tm msg
theorem CmAt.kp {H H' : Hp} {b : Ob} {v : V} (h : CmAt H b v) (k : Kp H H') : CmAt H' b v := by
  obtain ⟨f, p, t, ps, au, tm, msg, e, h1, h2, r⟩ := h
  exact ⟨f, p, t, ps, au, tm, msg, e, k.t _ _ h1, k.t _ _ h2, r⟩
structure AcC (base : Ob) (H0 H : Hp) (a r : Addr) (k : Int) (xs : List V) : Prop where
  f : Fr a H0 H
  w : Wl H a k
  ne : r ≠ a
  n0 : H0 r = none
  l : H r = some (.lst xs)
  ps : ∀ v ∈ xs, CmAt H base v
theorem AcC.same {b : Ob} {H0 H H' : Hp} {a r : Addr} {k : Int} {xs : List V} (A : AcC b H0 H a r k xs) (s : Same H H') : AcC b H0 H' a r k xs := ⟨A.f.trans (Fr.same s), A.w.same s, A.ne, A.n0, s _ _ A.l, fun v hv => (A.ps v hv).kp (Kp.same s)⟩
theorem AcC.wl {b : Ob} {H0 H H' : Hp} {a r : Addr} {k k' : Int} {xs : List V} (A : AcC b H0 H a r k xs) (f : Fr a H H') (w : Wl H' a k') : AcC b H0 H' a r k' xs := ⟨A.f.trans f, w, A.ne, A.n0, f _ _ A.ne A.l, fun v hv => (A.ps v hv).kp (Kp.wl A.w f)⟩
theorem AcC.snoc {b : Ob} {H0 H : Hp} {a r p : Addr} {k : Int} {xs : List V} {l : List V} (A : AcC b H0 H a r k xs) (hp : H p = none) (h : CmAt (upd H p (.tup l)) b (.ref p)) : AcC b H0 (upd (upd H p (.tup l)) r (.lst (xs ++ [.ref p]))) a r k (xs ++ [.ref p]) := by
  have A := A.same (same_new (o := .tup l) hp)
  exact ⟨A.f.mut A.n0, A.w.mut A.ne, A.ne, A.n0, upd_same, fun v hv => by
    rcases List.mem_append.mp hv with z | z
    · exact (A.ps v z).kp (Kp.lst A.l)
    · rw [List.mem_singleton.mp z]
      exact h.kp (Kp.lst A.l)⟩
theorem AcC.kp {b : Ob} {H0 H : Hp} {a r p : Addr} {k : Int} {xs l ys : List V} (A : AcC b H0 H a r k xs) (hp : H p = none) : Kp H (upd (upd H p (.tup l)) r (.lst ys)) := (Kp.same (same_new (o := .tup l) hp)).trans (Kp.lst (A.same (same_new (o := .tup l) hp)).l)
theorem cm_new {H : Hp} {f p : Addr} {t : Str} {ps : List Str} {au : Str} {tm : Int} {msg : Str} {b : Ob} (hf : H f = none) (hp : H p = some (.tup (ps.map V.str))) (ok : Ob.ok (.commit t ps au tm msg)) (ne : b ≠ .commit t ps au tm msg) : CmAt (upd H f (.tup [.str t, .ref p, .str au, .int tm, .str msg])) b (.ref f) :=
  ⟨f, p, t, ps, au, tm, msg, rfl, upd_same, (same_new hf) _ _ hp, ok, ne⟩
section
variable {P : Program} {w : World} {K : PySem.W.Frag} {mg : Str → Option Value} {base : Heap} {c : C4} {CS cX iX ek pd : Addr}
theorem c_l_commits (T : TopO K mg c CS cX iX ek pd) : C8.Cal P w K mg base 8 "_law_commits" (spPairs K c) [] := by
  refine cal_of T.d_l_commits sc_l_commits (fun _ _ _ _ _ _ us hl => match us, hl with | [_], _ => rfl) (fun vs H Q E h => ?_) (fun f cdv A outer s H vs Q E hr h => ?_)
  · obtain ⟨a, k, rfl, _⟩ := h
    rfl
  · obtain ⟨a, k, rfl, hw, hk, q⟩ := h
    have hk0 := hw.1
    refine ⟨_, (pss_cons (ps_set (i := 1) sc_l_commits.nd rfl (Or.inl rfl) (pe_callTy call_tuple_of (by rfl) T.z_tuple (by decide +kernel) (pa_cons (pe_lc (own := [("_law_k", 2)]) (g := gName 2) (by rfl) sc_l_commits.nd (pi_range1 (by rfl) T.z_range (pa_cons (pe_op op_add pe_int (C8.pe_c (c_l_draw T.toTop) hr (by decide) (by rfl) (pa_cons (pv 0) (pa_cons pe_int pa_nil)))) pa_nil)) (blkOk_by (own := [("_law_k", 2)]) (N := ["_law_well_here", "_law_parents", "_law_k", "_law_tree", "_law_hand", "_law_moment", "_law_words", "_law_at", "_law_spoilt", "_law_late", "_law_base", "_law_others", "_law_other"]) (sc := C8.fnScope s_l_commits) (by decide +kernel)) (fun _ _ _ _ _ => (pg_name (i := 2) sc_l_commits.nd rfl (Or.inl rfl))) (fun _ _ _ _ _ => pts_nil) (fun _ _ _ _ _ => (pe_op op_add_str (pe_ix ix_str pe_str (pv 2) (fun _ _ => rfl)) (C8.pe_c (c_l_word T.toTop) hr (by decide) (by rfl) (pa_cons (pv 0) (pa_cons (pe_c0 (c_l_hex T.toTop) hr (by decide) (by rfl)) (pa_cons pe_int pa_nil))))))) pa_nil)))
      (pss_cons (ps_par (i := 3) (j := 4) rfl sc_l_commits.nd rfl rfl (by decide) rfl rfl (pa_cons (C8.pe_c (c_l_word T.toTop) hr (by decide) (by rfl) (pa_cons (pv 0) (pa_cons (pe_c0 (c_l_hex T.toTop) hr (by decide) (by rfl)) (pa_cons pe_int pa_nil)))) (pa_cons (C8.pe_c (c_l_word T.toTop) hr (by decide) (by rfl) (pa_cons (pv 0) (pa_cons (pe_c0 (c_l_small T.toTop) hr (by decide) (by rfl)) (pa_cons (pe_op op_add pe_int (C8.pe_c (c_l_draw T.toTop) hr (by decide) (by rfl) (pa_cons (pv 0) (pa_cons pe_int pa_nil)))) pa_nil)))) pa_nil)) rfl)
      (pss_cons (ps_par (i := 5) (j := 6) rfl sc_l_commits.nd rfl rfl (by decide) rfl rfl (pa_cons (pe_op op_add pe_int (C8.pe_c (c_l_draw T.toTop) hr (by decide) (by rfl) (pa_cons (pv 0) (pa_cons pe_int pa_nil)))) (pa_cons (C8.pe_c (c_l_word T.toTop) hr (by decide) (by rfl) (pa_cons (pv 0) (pa_cons pe_str (pa_cons (pe_op op_add pe_int (C8.pe_c (c_l_draw T.toTop) hr (by decide) (by rfl) (pa_cons (pv 0) (pa_cons pe_int pa_nil)))) pa_nil)))) pa_nil)) rfl)
      (pss_cons (ps_set (i := 7) sc_l_commits.nd rfl (Or.inl rfl) (C8.pe_c (c_l_draw T.toTop) hr (by decide) (by rfl) (pa_cons (pv 0) (pa_cons (pe_callB call_len_seq (by rfl) T.z_len (by decide +kernel) (pa_cons (pv 1) pa_nil)) pa_nil))))
      (pss_cons (ps_set (i := 8) sc_l_commits.nd rfl (Or.inl rfl) (pe_op op_add_str (pe_ix ix_str (pe_ix ix_tup (pv 1) (pv 7) (fun _ _ => rfl)) pe_int (fun _ _ => rfl)) (C8.pe_c (c_l_bent T.toTop) hr (by decide) (by rfl) (pa_cons (pv 0) (pa_cons (pe_slice sl_str (pe_ix ix_tup (pv 1) (pv 7) (fun _ _ => rfl)) (po_some pe_int) po_none) (pa_cons (pe_c0 (c_l_hex T.toTop) hr (by decide) (by rfl)) pa_nil))))))
      (pss_cons (ps_set (i := 9) sc_l_commits.nd rfl (Or.inl rfl) (pe_op op_catA (pe_op op_catA (pe_slice sl_tupA (pv 1) po_none (po_some (pv 7))) (pe_tup (pa_cons (pv 8) pa_nil))) (pe_slice sl_tupA (pv 1) (po_some (pe_op op_add (pv 7) pe_int)) po_none)))
      (pss_cons (ps_set (i := 10) sc_l_commits.nd rfl (Or.inr rfl) (pe_tup (pa_cons (pv 3) (pa_cons (pv 1) (pa_cons (pv 4) (pa_cons (pv 5) (pa_cons (pv 6) pa_nil)))))))
      (pss_cons (ps_set (i := 11) sc_l_commits.nd rfl (Or.inl rfl) (pe_lst (pa_cons (pe_tup (pa_cons (C8.pe_c (c_l_bent T.toTop) hr (by decide) (by rfl) (pa_cons (pv 0) (pa_cons (pv 3) (pa_cons (pe_c0 (c_l_hex T.toTop) hr (by decide) (by rfl)) pa_nil)))) (pa_cons (pv 1) (pa_cons (pv 4) (pa_cons (pv 5) (pa_cons (pv 6) pa_nil)))))) (pa_cons (pe_tup (pa_cons (pv 3) (pa_cons (pv 9) (pa_cons (pv 4) (pa_cons (pv 5) (pa_cons (pv 6) pa_nil)))))) pa_nil))))
      (pss_cons (ps_expr (pe_bm PySem.F.plainAttrs_list PySem.F.slot_list_append PySem.F.type_list_append mt_append (pv 11) (pa_cons (pe_tup (pa_cons (pv 3) (pa_cons (pv 1) (pa_cons (C8.pe_c (c_l_bent T.toTop) hr (by decide) (by rfl) (pa_cons (pv 0) (pa_cons (pv 4) (pa_cons (pe_c0 (c_l_small T.toTop) hr (by decide) (by rfl)) pa_nil)))) (pa_cons (pv 5) (pa_cons (pv 6) pa_nil)))))) pa_nil)))
      (pss_cons (ps_expr (pe_bm PySem.F.plainAttrs_list PySem.F.slot_list_append PySem.F.type_list_append mt_append (pv 11) (pa_cons (pe_tup (pa_cons (pv 3) (pa_cons (pv 1) (pa_cons (pv 4) (pa_cons (pe_op op_add pe_int (pe_op op_mod (pe_callTy call_int1 (by rfl) T.z_int (by decide +kernel) (pa_cons (pe_op op_sub (pv 5) pe_int) pa_nil)) pe_int)) (pa_cons (pv 6) pa_nil)))))) pa_nil)))
      (pss_cons (ps_expr (pe_bm PySem.F.plainAttrs_list PySem.F.slot_list_append PySem.F.type_list_append mt_append (pv 11) (pa_cons (pe_tup (pa_cons (pv 3) (pa_cons (pv 1) (pa_cons (pv 4) (pa_cons (pv 5) (pa_cons (C8.pe_c (c_l_bent T.toTop) hr (by decide) (by rfl) (pa_cons (pv 0) (pa_cons (pv 6) (pa_cons pe_str pa_nil)))) pa_nil)))))) pa_nil)))
      (C8.pss_cut (ps_if (pt_cmpR op_gt (pe_callB call_len_seq (by rfl) T.z_len (by decide +kernel) (pa_cons (pv 1) pa_nil)) pe_int (nomark _))
      (pss_one (ps_expr (pe_bm PySem.F.plainAttrs_list PySem.F.slot_list_append PySem.F.type_list_append mt_append (pv 11) (pa_cons (pe_tup (pa_cons (pv 3) (pa_cons (pe_op op_catA (pe_slice sl_tupA (pv 1) (po_some pe_int) po_none) (pe_slice sl_tupA (pv 1) po_none (po_some pe_int))) (pa_cons (pv 4) (pa_cons (pv 5) (pa_cons (pv 6) pa_nil)))))) pa_nil))))
      pss_nil)
      (pss_one (ps_ret (pe_lc (own := [("_law_other", 12)]) (g := gName 12) (by rfl) sc_l_commits.nd (pi_list (pv 11)) (blkOk_by (own := [("_law_other", 12)]) (N := ["_law_well_here", "_law_parents", "_law_k", "_law_tree", "_law_hand", "_law_moment", "_law_words", "_law_at", "_law_spoilt", "_law_late", "_law_base", "_law_others", "_law_other"]) (sc := C8.fnScope s_l_commits) (by decide +kernel)) (fun _ _ _ _ _ => (pg_name (i := 12) sc_l_commits.nd rfl (Or.inl rfl))) (fun _ _ _ _ _ => pts_nil) (fun _ _ _ _ _ => (pe_tup (pa_cons (C8.pe_c (c_l_commit T) hr (by decide) (by rfl) (pa_cons (pv 10) pa_nil)) (pa_cons (C8.pe_c (c_l_commit T) hr (by decide) (by rfl) (pa_cons (pv 12) pa_nil)) pa_nil))))))))))))))))))), ?_⟩
    refine ⟨.ref a, rfl, do_draw hw (by decide) (by decide) (by omega) fun r1 hr1 H1 k1 f1 w1 l1 m1 => ⟨_, _, rfl, rfl, _, rfl, by omega, by omega, fun D hD => ?_⟩⟩
    have nD := w1.ne hD
    refine lc_inv (i := 2) yields_range (fun j acc H' => Fr a H1 H' ∧ ∃ k', Wl H' a k' ∧ k1 ≤ k' ∧ k' ≤ k1 + 15 * j ∧ ∃ qs : List Str, acc = qs.map V.str ∧ Par qs ∧ qs.length = j) (fun _ _ _ _ _ => trivial) ?_ (fun j acc H' x I hA hx ha hj => ?_) ?_ (fun acc H' I hA _ => ?_)
    · exact ⟨Fr.new hD, k1, w1.new hD, Int.le_refl _, by omega, [], rfl, Par.nil, rfl⟩
    · obtain ⟨fr, k', w', l', m', qs, rfl, pq, hl⟩ := I
      have hx2 := List.getElem?_eq_some_iff.mp hx
      obtain ⟨hj2, ex⟩ := hx2
      rw [List.length_map, List.length_range] at hj2
      rw [List.getElem_map, List.getElem_range] at ex
      rw [show (0 : Int) + ((j : Nat) : Int) = ((j : Nat) : Int) by omega] at ex
      subst ex
      refine yes_ ?_
      refine ⟨_, rfl, _, j, 50 + j, rfl, rfl, small_line (by decide), atI_nat (dig_at j (by omega)), .ref a, rfl, rfl, do_word (z := HEX) (m := 15) rfl w' (by decide +kernel) (by decide +kernel) (by omega) (by omega) fun x hx hxl H2 k2 f2 w2 l2 m2 => ?_⟩
      refine ⟨_, _, rfl, rfl, small_line (by rw [hxl]; show 1 + 15 ≤ 1000000; decide), ?_⟩
      refine lc_take (f2 _ _ nD hA) ha hj ⟨(fr.trans f2).mut hD, k2, w2.mut nD, by omega, by omega, qs ++ [dig qs.length ++ x], ?_, pq.snoc ⟨hx, hxl⟩, by rw [List.length_append, hl]; rfl⟩
      rw [List.map_append, hl]
      rfl
    · rw [List.length_map, List.length_range]
      omega
    obtain ⟨fr, k2, w2, l2, m2, qs, rfl, pq, hl⟩ := I
    rw [List.length_map, List.length_range] at hl m2
    have hl4 : qs.length ≤ 4 := by omega
    have hl1 : 1 ≤ qs.length := by omega
    refine ⟨D, _, rfl, .inl ⟨SqL.of hA, fun p hp => ?_⟩⟩
    have f3 := (f1.trans fr).trans (Fr.new (o := .tup (qs.map V.str)) hp)
    have w3 := w2.new (o := .tup (qs.map V.str)) hp
    have P3 : (upd H' p (.tup (qs.map V.str))) p = some (.tup (qs.map V.str)) := upd_same
    generalize upd H' p (.tup (qs.map V.str)) = H3 at f3 w3 P3 ⊢
    clear fr w2 hA f1 w1 hD nD hw
    refine ⟨.ref a, rfl, rfl, do_word (z := HEX) (m := 16) rfl w3 (by decide +kernel) (by decide +kernel) (by omega) (by omega) fun t ht htl H4 k4 f4 w4 l4 m4 => ?_⟩
    refine ⟨.ref a, rfl, rfl, .ref a, rfl, do_draw w4 (by decide) (by decide) (by omega) fun r2 hr2 H5 k5 f5 w5 l5 m5 => ⟨_, _, rfl, rfl, do_word (z := LET) (m := 1 + r2) (by omega) w5 (by decide +kernel) (by decide +kernel) (by omega) (by omega) fun au hau haul H6 k6 f6 w6 l6 m6 => ⟨_, _, rfl, ?_⟩⟩⟩
    refine ⟨.ref a, rfl, do_draw w6 (by decide) (by decide) (by omega) fun r3 hr3 H7 k7 f7 w7 l7 m7 => ⟨_, _, rfl, rfl, .ref a, rfl, .ref a, rfl, do_draw w7 (by decide) (by decide) (by omega) fun r4 hr4 H8 k8 f8 w8 l8 m8 => ⟨_, _, rfl, rfl, do_word (z := ABC) (m := 1 + r4) (by omega) w8 (by decide +kernel) (by decide +kernel) (by omega) (by omega) fun ms hms hmsl H9 k9 f9 w9 l9 m9 => ⟨_, _, rfl, ?_⟩⟩⟩⟩
    have P9 : H9 p = some (.tup (qs.map V.str)) := (Kp.wl w3 ((((f4.trans f5).trans f6).trans f7).trans (f8.trans f9))).t _ _ P3
    have F9 := f3.trans ((((f4.trans f5).trans f6).trans f7).trans (f8.trans f9))
    clear f3 f4 f5 f6 f7 f8 f9 w3 w4 w5 w6 w7 w8 P3
    have okt : isIdF t = true := id_of ht htl
    have oka : isWordF LET au = true := word_of hau (by omega) (by omega)
    have okm : isTextF ms = true := text_of (fun u hu => abc_all u (hms u hu)) (by omega)
    have ok0 : Ob.ok (.commit t qs au (10 + (r3 : Int)) ms) := ⟨okt, by omega, pq.nd, pq.ids hl4, oka, by omega, by omega, okm, by omega⟩
    refine ⟨.ref a, rfl, .ref p, rfl, p, _, rfl, .inr (SqT.of P9), do_draw w9 (by rw [List.length_map]; omega) (by rw [List.length_map]; omega) (by omega) fun i hi H10 k10 f10 w10 l10 m10 => ?_⟩
    rw [List.length_map] at hi
    have hi : i < qs.length := by omega
    obtain ⟨x, ex, hx, hxl⟩ := pq i hi
    have P10 : H10 p = some (.tup (qs.map V.str)) := (Kp.wl w9 f10).t _ _ P9
    have at1 : atI (qs.map V.str) ((i : Nat) : Int) = some (.str (dig i ++ x)) := atI_nat (by rw [List.getElem?_map, List.getElem?_eq_getElem hi, ex]; rfl)
    have ldx : (dig i ++ x).length = 16 := by rw [TL.len_tl, tl_dig, List.length_cons, ← TL.len_tl, hxl]
    refine ⟨.ref p, rfl, .int i, rfl, p, _, i, _, rfl, rfl, SqT.of P10, at1, _, 0, 50 + i, rfl, rfl, small_line (by omega), by show atI (TL.tl (dig i ++ x)) ((0 : Nat) : Int) = _; exact atI_nat (by rw [tl_dig]; rfl), ?_⟩
    refine ⟨.ref a, rfl, .ref p, rfl, .int i, rfl, p, _, i, _, rfl, rfl, SqT.of P10, at1, _, rfl, _, rfl, small_line (by omega), rfl, ?_⟩
    have cx : cutS (dig i ++ x) (some 1) none = x := tl_ext (by rw [show (1 : Int) = ((1 : Nat) : Int) from rfl, cut_from, tl_dig]; rfl)
    rw [cx]
    refine do_bent (z := HEX) w10 (by omega) (by omega) (by decide +kernel) two_hex (by omega) fun y hy H11 k11 f11 w11 l11 m11 => ?_
    have hy15 : Hex15 y := ⟨hy.all hx fun u hu => hu, by rw [hy.len, hxl]⟩
    refine ⟨_, _, rfl, rfl, small_line (by rw [hy15.2]; show 1 + 15 ≤ 1000000; decide), ?_⟩
    have P11 : H11 p = some (.tup (qs.map V.str)) := (Kp.wl w10 f11).t _ _ P10
    have F11 := (F9.trans f10).trans f11
    clear f10 f11 F9 P10 P9 w10 w9
    have ls : (qs.set i (dig i ++ y)).length = qs.length := List.length_set
    have pq2 : Par (qs.set i (dig i ++ y)) := by exact pq.set hy15 i
    have ok1 : Ob.ok (.commit t (qs.set i (dig i ++ y)) au (10 + (r3 : Int)) ms) := ⟨okt, by omega, pq2.nd, pq2.ids (by omega), oka, by omega, by omega, okm, by omega⟩
    have ne1 : Ob.commit t qs au (10 + (r3 : Int)) ms ≠ .commit t (qs.set i (dig i ++ y)) au (10 + (r3 : Int)) ms := fun z => by
      injection z with _ z
      have e := List.getElem_of_eq z hi
      rw [List.getElem_set_self, ex] at e
      have e := congrArg TL.tl e
      rw [tl_dig, tl_dig] at e
      injection e with _ e
      exact hy.ne (tl_ext e)
    have w11' := w11
    refine ⟨.ref p, rfl, .int i, rfl, _, rfl, slA P11 fun p1 G1 s1 h1 => ?_⟩
    rw [cutV_to] at h1
    refine ⟨.str (dig i ++ y), rfl, (by show 1 ≤ sizeLine; decide), fun p2 hp2 => ?_⟩
    have s2 := same_new (o := .tup [.str (dig i ++ y)]) hp2
    refine catB (s2 _ _ h1) upd_same (by rw [List.length_map]; show _ + 1 ≤ _; rw [List.length_take]; omega) fun p3 G2 s3 h3 => ?_
    have s13 := (s1.trans s2).trans s3
    refine ⟨.ref p, rfl, .int i, rfl, _, _, rfl, rfl, _, rfl, slB (s13 _ _ P11) fun p4 G3 s4 h4 => ?_⟩
    rw [show (i : Int) + 1 = ((i + 1 : Nat) : Int) by omega, cutV_from] at h4
    refine catB (s4 _ _ h3) h4 (by rw [List.length_append, List.length_map, List.length_map]; show _ + 1 + _ ≤ _; rw [List.length_take, List.length_drop]; omega) fun p5 G4 s5 h5 => ?_
    have e5 : (qs.take i).map V.str ++ [.str (dig i ++ y)] ++ (qs.drop (i + 1)).map V.str = (qs.set i (dig i ++ y)).map V.str := by
      rw [set_cut qs i (dig i ++ y) hi, List.map_append, List.map_append]
      rfl
    rw [e5] at h5
    have s15 := (s13.trans s4).trans s5
    have F12 := F11.trans (Fr.same s15)
    have w12 := w11.same s15
    have P12 := s15 _ _ P11
    clear s1 s2 s3 s4 s5 s13 s15 h1 h3 h4 P11 F11 w11 w11' hp2
    refine ⟨.str t, rfl, .ref p, rfl, .str au, rfl, .int (10 + (r3 : Int)), rfl, .str ms, rfl, (by show 5 ≤ sizeLine; decide), fun bs hbs => ?_⟩
    have s6 := same_new (o := .tup [.str t, .ref p, .str au, .int (10 + (r3 : Int)), .str ms]) hbs
    have B13 : (upd G4 bs (.tup [.str t, .ref p, .str au, .int (10 + (r3 : Int)), .str ms])) bs = some (.tup [.str t, .ref p, .str au, .int (10 + (r3 : Int)), .str ms]) := upd_same
    have F13 := F12.trans (Fr.same s6)
    have w13 := w12.same s6
    have P13 := s6 _ _ P12
    have L13 := s6 _ _ h5
    generalize upd G4 bs (.tup [.str t, .ref p, .str au, .int (10 + (r3 : Int)), .str ms]) = G5 at B13 F13 w13 P13 L13 ⊢
    clear F12 w12 P12 h5 s6 hbs
    refine ⟨.ref a, rfl, .str t, rfl, rfl, do_bent (z := HEX) w13 (by omega) (by omega) (by decide +kernel) two_hex (by omega) fun t2 ht2 H14 k14 f14 w14 l14 m14 => ?_⟩
    have kp14 := Kp.wl w13 f14
    have F14 := F13.trans f14
    have B14 := kp14.t _ _ B13
    have P14 := kp14.t _ _ P13
    have L14 := kp14.t _ _ L13
    clear kp14 F13 f14 B13 P13 L13 w13
    have okA : Ob.ok (.commit t2 qs au (10 + (r3 : Int)) ms) := ⟨ht2.id okt, by omega, pq.nd, pq.ids hl4, oka, by omega, by omega, okm, by omega⟩
    refine ⟨.ref p, rfl, .str au, rfl, .int (10 + (r3 : Int)), rfl, .str ms, rfl, (by show 5 ≤ sizeLine; decide), fun g1 hg1 => ?_⟩
    refine ⟨.str t, rfl, .ref p5, rfl, .str au, rfl, .int (10 + (r3 : Int)), rfl, .str ms, rfl, (by show 5 ≤ sizeLine; decide), fun g2 hg2 => ⟨(by show 2 ≤ sizeLine; decide), fun r hrn => ?_⟩⟩
    have c1 := cm_new (b := .commit t qs au (10 + (r3 : Int)) ms) hg1 P14 okA (fun z => ht2.ne (by injection z))
    have sA := same_new (o := .tup [.str t2, .ref p, .str au, .int (10 + (r3 : Int)), .str ms]) hg1
    have c2 := cm_new (b := .commit t qs au (10 + (r3 : Int)) ms) hg2 (sA _ _ L14) ok1 ne1
    have sB := same_new (o := .tup [.str t, .ref p5, .str au, .int (10 + (r3 : Int)), .str ms]) hg2
    have sC := same_new (o := .lst [.ref g1, .ref g2]) hrn
    have s14 := (sA.trans sB).trans sC
    have B15 := s14 _ _ B14
    have P15 := s14 _ _ P14
    have A15 : AcC (.commit t qs au (10 + (r3 : Int)) ms) H (upd (upd (upd H14 g1 (.tup [.str t2, .ref p, .str au, .int (10 + (r3 : Int)), .str ms])) g2 (.tup [.str t, .ref p5, .str au, .int (10 + (r3 : Int)), .str ms])) r (.lst [.ref g1, .ref g2])) a r k14 [.ref g1, .ref g2] := by
      refine ⟨F14.trans (Fr.same s14), w14.same s14, (w14.same (sA.trans sB)).ne hrn, (F14.trans (Fr.same (sA.trans sB))).free ((w14.same (sA.trans sB)).ne hrn) hrn, upd_same, fun v hv => ?_⟩
      rcases List.mem_cons.mp hv with z | z
      · rw [z]
        exact c1.kp (Kp.same (sB.trans sC))
      · rw [List.mem_singleton.mp z]
        exact c2.kp (Kp.same sC)
    clear F14 w14 P14 L14 B14 sA sB sC s14 c1 c2
    generalize upd (upd (upd H14 g1 (.tup [.str t2, .ref p, .str au, .int (10 + (r3 : Int)), .str ms])) g2 (.tup [.str t, .ref p5, .str au, .int (10 + (r3 : Int)), .str ms])) r (.lst [.ref g1, .ref g2]) = H15 at A15 B15 P15 ⊢
    clear hrn hg2 hg1
    refine ⟨.ref r, rfl, .inl ⟨rfl, _, SqL.of A15.l⟩, .str t, rfl, .ref p, rfl, .ref a, rfl, .str au, rfl, rfl, do_bent (z := LET) A15.w (by omega) (by omega) (by decide +kernel) two_let (by omega) fun au2 hau2 H16 k16 f16 w16 l16 m16 => ?_⟩
    have kp16 := Kp.wl A15.w f16
    have P16 := kp16.t _ _ P15
    have B16 := kp16.t _ _ B15
    have okB : Ob.ok (.commit t qs au2 (10 + (r3 : Int)) ms) := ⟨okt, by omega, pq.nd, pq.ids hl4, word_of (hau2.all hau fun u hu => hu) (by rw [hau2.len]; omega) (by rw [hau2.len]; omega), by omega, by omega, okm, by omega⟩
    refine ⟨.int (10 + (r3 : Int)), rfl, .str ms, rfl, (by show 5 ≤ sizeLine; decide), fun g3 hg3 => ⟨r, _, .ref g3, rfl, rfl, ((A15.wl f16 w16).same (same_new hg3)).l, (by show 2 < sizeLine; decide), ?_⟩⟩
    have A17 := (A15.wl f16 w16).snoc hg3 (cm_new hg3 P16 okB (fun z => hau2.ne (by injection z)))
    have kp17 := (A15.wl f16 w16).kp (l := [.str t, .ref p, .str au2, .int (10 + (r3 : Int)), .str ms]) (ys := [.ref g1, .ref g2] ++ [.ref g3]) hg3
    have P17 := kp17.t _ _ P16
    have B17 := kp17.t _ _ B16
    generalize upd (upd H16 g3 (.tup [.str t, .ref p, .str au2, .int (10 + (r3 : Int)), .str ms])) r (.lst ([.ref g1, .ref g2] ++ [.ref g3])) = H17 at A17 P17 B17 ⊢
    clear kp16 kp17 P16 B16 A15 P15 B15 f16 w16 hg3
    refine ⟨.ref r, rfl, .inl ⟨rfl, _, SqL.of A17.l⟩, .str t, rfl, .ref p, rfl, .str au, rfl, .int (10 + (r3 : Int)), rfl, _, _, rfl, rfl, .inl ⟨_, rfl, _, _, rfl, rfl, (by show (0 : Int) < _; decide), _, _, rfl, rfl, ?_⟩⟩
    have okC : Ob.ok (.commit t qs au (10 + (10 + (r3 : Int) - 9) % 90) ms) := ⟨okt, by omega, pq.nd, pq.ids hl4, oka, by omega, by omega, okm, by omega⟩
    refine ⟨.str ms, rfl, (by show 5 ≤ sizeLine; decide), fun g4 hg4 => ⟨r, _, .ref g4, rfl, rfl, (A17.same (same_new hg4)).l, (by show 3 < sizeLine; decide), ?_⟩⟩
    have A18 := A17.snoc hg4 (cm_new hg4 P17 okC (fun z => by injection z; omega))
    have kp18 := A17.kp (l := [.str t, .ref p, .str au, .int (10 + (10 + (r3 : Int) - 9) % 90), .str ms]) (ys := [.ref g1, .ref g2] ++ [.ref g3] ++ [.ref g4]) hg4
    have P18 := kp18.t _ _ P17
    have B18 := kp18.t _ _ B17
    generalize upd (upd H17 g4 (.tup [.str t, .ref p, .str au, .int (10 + (10 + (r3 : Int) - 9) % 90), .str ms])) r (.lst ([.ref g1, .ref g2] ++ [.ref g3] ++ [.ref g4])) = H18 at A18 P18 B18 ⊢
    clear kp18 P17 B17 A17 hg4
    refine ⟨.ref r, rfl, .inl ⟨rfl, _, SqL.of A18.l⟩, .str t, rfl, .ref p, rfl, .str au, rfl, .int (10 + (r3 : Int)), rfl, .ref a, rfl, .str ms, rfl, do_bent (z := ABC) A18.w (by omega) (by omega) (by decide +kernel) two_abc (by omega) fun ms2 hms2 H19 k19 f19 w19 l19 m19 => ?_⟩
    have kp19 := Kp.wl A18.w f19
    have P19 := kp19.t _ _ P18
    have B19 := kp19.t _ _ B18
    have okD : Ob.ok (.commit t qs au (10 + (r3 : Int)) ms2) := ⟨okt, by omega, pq.nd, pq.ids hl4, oka, by omega, by omega, text_of (hms2.all (fun u hu => abc_all u (hms u hu)) abc_all) (by rw [hms2.len]; omega), by rw [hms2.len]; omega⟩
    refine ⟨(by show 5 ≤ sizeLine; decide), fun g5 hg5 => ⟨r, _, .ref g5, rfl, rfl, ((A18.wl f19 w19).same (same_new hg5)).l, (by show 4 < sizeLine; decide), ?_⟩⟩
    have A20 := (A18.wl f19 w19).snoc hg5 (cm_new hg5 P19 okD (fun z => hms2.ne (by injection z)))
    have kp20 := (A18.wl f19 w19).kp (l := [.str t, .ref p, .str au, .int (10 + (r3 : Int)), .str ms2]) (ys := [.ref g1, .ref g2] ++ [.ref g3] ++ [.ref g4] ++ [.ref g5]) hg5
    have P20 := kp20.t _ _ P19
    have B20 := kp20.t _ _ B19
    generalize upd (upd H19 g5 (.tup [.str t, .ref p, .str au, .int (10 + (r3 : Int)), .str ms2])) r (.lst ([.ref g1, .ref g2] ++ [.ref g3] ++ [.ref g4] ++ [.ref g5])) = H20 at A20 P20 B20 ⊢
    clear kp19 kp20 P19 B19 A18 P18 B18 f19 w19 hg5
    refine ⟨fun σ H' => σ = [some (.ref a), some (.ref p), none, some (.str t), some (.str au), some (.int (10 + (r3 : Int))), some (.str ms), some (.int i), some (.str (dig i ++ y)), some (.ref p5), some (.ref bs), some (.ref r), none] ∧ ∃ xs, xs.length ≤ 6 ∧ AcC (.commit t qs au (10 + (r3 : Int)) ms) H H' a r k19 xs ∧ H' p = some (.tup (qs.map V.str)) ∧ H' bs = some (.tup [.str t, .ref p, .str au, .int (10 + (r3 : Int)), .str ms]), ?_, fun σ H1 I => ?_⟩
    · refine ⟨.ref p, rfl, p, _, rfl, .inr (SqT.of P20), _, _, rfl, rfl, _, rfl, ite2 (fun h1 => ?_) (fun _ => ⟨rfl, _, (by show 5 ≤ 6; decide), A20, P20, B20⟩)⟩
      have h1 := of_decide_eq_true h1
      rw [List.length_map] at h1
      have h1 : 1 < qs.length := by omega
      refine ⟨.ref r, rfl, .inl ⟨rfl, _, SqL.of A20.l⟩, .str t, rfl, .ref p, rfl, _, rfl, slB P20 fun q1 J1 s1 h2 => ?_⟩
      rw [show (1 : Int) = ((1 : Nat) : Int) from rfl, cutV_from] at h2
      refine ⟨.ref p, rfl, _, rfl, slA (s1 _ _ P20) fun q2 J2 s2 h3 => ?_⟩
      rw [show (1 : Int) = ((1 : Nat) : Int) from rfl, cutV_to] at h3
      refine catB (s2 _ _ h2) h3 (by rw [List.length_map, List.length_map, List.length_drop, List.length_take]; omega) fun q3 J3 s3 h4 => ?_
      rw [← List.map_append] at h4
      have s13 := (s1.trans s2).trans s3
      have pr := rot_perm qs
      have okE : Ob.ok (.commit t (qs.drop 1 ++ qs.take 1) au (10 + (r3 : Int)) ms) := ⟨okt, by rw [pr.length_eq]; omega, pr.nodup_iff.mpr pq.nd, fun z hz => pq.ids hl4 z (pr.mem_iff.mp hz), oka, by omega, by omega, okm, by omega⟩
      refine ⟨.str au, rfl, .int (10 + (r3 : Int)), rfl, .str ms, rfl, (by show 5 ≤ sizeLine; decide), fun g6 hg6 => ⟨r, _, .ref g6, rfl, rfl, ((A20.same s13).same (same_new hg6)).l, (by show 5 < sizeLine; decide), ?_⟩⟩
      have kp := (A20.same s13).kp (l := [.str t, .ref q3, .str au, .int (10 + (r3 : Int)), .str ms]) (ys := [.ref g1, .ref g2] ++ [.ref g3] ++ [.ref g4] ++ [.ref g5] ++ [.ref g6]) hg6
      exact ⟨rfl, _, (by show 6 ≤ 6; decide), (A20.same s13).snoc hg6 (cm_new hg6 h4 okE (fun z => rot_ne pq.nd h1 (by injection z))), kp.t _ _ (s13 _ _ P20), kp.t _ _ (s13 _ _ B20)⟩
    · obtain ⟨rfl, xs, hxs, A, P, B⟩ := I
      refine ⟨.ref r, rfl, r, rfl, ⟨_, SqL.of A.l⟩, fun D hD => ?_⟩
      refine lc_inv (i := 12) yields_list (fun j acc H' => Same H1 H' ∧ acc.length = j ∧ ∀ v ∈ acc, PairAt K c H' v) (fun j acc H' I _ => SqL.of (I.1 _ _ A.l)) ⟨same_new hD, rfl, fun v hv => nomatch hv⟩ (fun j acc H' x I hA hx ha hj => ?_) (by omega) (fun acc H' I hA _ => ?_)
      · obtain ⟨s1, hl, ps⟩ := I
        obtain ⟨f, p', t', qs', au', tm', ms', rfl, c1, c2, okc, nec⟩ := A.ps x (List.mem_of_getElem? hx)
        refine yes_ ?_
        refine ⟨.ref bs, rfl, bs, p, t, qs, au, _, ms, rfl, .inl (s1 _ _ B), .inl (s1 _ _ P), ok0, fun b1 J1 hb1 s2 o1 => ?_⟩
        have s12 := s1.trans s2
        refine ⟨_, rfl, f, p', t', qs', au', tm', ms', rfl, .inl (s12 _ _ c1), .inl (s12 _ _ c2), okc, fun b2 J2 hb2 s3 o2 => ⟨(by show 2 ≤ sizeLine; decide), fun g hg => ?_⟩⟩
        have s4 := same_new (o := .tup [.ref b1, .ref b2]) hg
        have s24 := (s2.trans s3).trans s4
        have hA4 := s24 _ _ hA
        refine lc_take hA4 ha hj ⟨same_mut (s1.trans s24) hD, by rw [List.length_append, hl]; rfl, fun v hv => ?_⟩
        rcases List.mem_append.mp hv with z | z
        · exact ((ps v z).kp (Kp.same s24)).kp (Kp.lst hA4)
        · rw [List.mem_singleton.mp z]
          exact (pair_new hg (o1.same s3) o2 ok0 okc nec).kp (Kp.lst hA4)
      · obtain ⟨s1, hl, ps⟩ := I
        have w := A.w.same s1
        exact q D acc (by omega) H' k19 (A.f.trans (Fr.same s1)) w (by omega) (by omega) ((A.w.ne hD)) hA ps
end

end Fk

set_option maxHeartbeats 4000000
namespace Fk
open PySem PySem.Spec PyProof.Rows L2
/-! ### entries -/
theorem paired_app {α β : Type} {R : α → β → Prop} : ∀ {l l' : List α} {m m' : List β}, Paired R l m → Paired R l' m' → Paired R (l ++ l') (m ++ m')
  | _, _, _, _, .nil, h => h
  | _, _, _, _, .cons a b, h => .cons a (paired_app b h)
theorem paired_map2 {α β : Type} {R S : α → β → Prop} {f : α → α} {g : β → β} (h : ∀ a b, R a b → S (f a) (g b)) : ∀ {l : List α} {m : List β}, Paired R l m → Paired S (l.map f) (m.map g)
  | _, _, .nil => .nil
  | _, _, .cons a b => .cons (h _ _ a) (paired_map2 h b)
theorem any_keys {β : Type} (l : List (Str × β)) (x : Str) : (l.any fun kv => decide (kv.1 = x)) = (l.map (·.1)).any fun y => decide (y = x) := by
  rw [List.any_map]
  rfl
def putE (es : List Ent) (x : Str) (v : Str × Str) : List Ent := if (es.any fun kv => decide (kv.1 = x)) = true then es.map (fun kv => if kv.1 = x then (kv.1, v) else kv) else es ++ [(x, v)]
theorem ents_put {K : PySem.W.Frag} {H : Hp} {t : Tab} {es : List Ent} (h : EntsAt K H t es) {x kd i : Str} {q : Addr} (hq : TupK K H q [.str kd, .str i]) : EntsAt K H (putK t x (.ref q)) (putE es x (kd, i)) := by
  have e : (t.any fun kv => decide (kv.1 = x)) = es.any fun kv => decide (kv.1 = x) := by rw [any_keys, any_keys, h.keys]
  unfold putK putE
  rw [e]
  split
  · refine paired_map2 (fun a b ⟨e1, r, e2, e3⟩ => ?_) h
    rw [e1]
    split
    · exact ⟨rfl, q, rfl, hq⟩
    · exact ⟨e1, r, e2, e3⟩
  · exact paired_app h (.cons ⟨rfl, q, rfl, hq⟩ .nil)
theorem mem_putE {es : List Ent} {x : Str} {v : Str × Str} {e : Ent} (h : e ∈ putE es x v) : e ∈ es ∨ e = (x, v) := by
  unfold putE at h
  split at h
  · obtain ⟨f, hf, rfl⟩ := List.mem_map.mp h
    split
    · next z => exact .inr (by rw [z])
    · exact .inl hf
  · rcases List.mem_append.mp h with h | h
    · exact .inl h
    · exact .inr (List.mem_singleton.mp h)
def NAMES : List Str := ["a", "b", "src", "a.b", "a-b", "x1"]
def UVW : Str := "uvw"
theorem names_ok : ∀ n ∈ NAMES, isSegF n = true ∧ 0 < n.length ∧ n.length ≤ 3 := by decide +kernel
theorem names_bent : ∀ n ∈ NAMES, ∀ i < 3, ∀ u ∈ TL.tl UVW, i < n.length → isSegF ⟨((TL.tl n).take i ++ u :: (TL.tl n).drop (i + 1)).toArray⟩ = true ∧ (⟨((TL.tl n).take i ++ u :: (TL.tl n).drop (i + 1)).toArray⟩ : Str) ∉ NAMES := by decide +kernel
theorem bent_name {x y : Str} (h : Bent UVW x y) (hx : x ∈ NAMES) : isSegF y = true ∧ y ∉ NAMES := by
  obtain ⟨i, u, h1, h2, h3, h4⟩ := h
  have e : y = ⟨((TL.tl x).take i ++ u :: (TL.tl x).drop (i + 1)).toArray⟩ := tl_ext (by rw [h4])
  rw [e]
  exact names_bent x hx i (by have := (names_ok x hx).2.2; omega) u h2 h1
theorem two_uvw : ∃ u v, u ∈ TL.tl UVW ∧ v ∈ TL.tl UVW ∧ u ≠ v := two_in 117 118 (by decide +kernel)
theorem kinds_else {k : Str} : 0 < (KINDS.filter fun u => !decide (V.str u = V.str k)).length := by
  by_cases e : k = "file"
  · have h : ("exec" : Str) ∈ KINDS.filter fun u => !decide (V.str u = V.str k) := by
      rw [e]
      decide +kernel
    exact List.length_pos_of_mem h
  · have h : ("file" : Str) ∈ KINDS.filter fun u => !decide (V.str u = V.str k) := by
      refine List.mem_filter.mpr ⟨by decide +kernel, ?_⟩
      rw [decide_eq_false (fun z => e (V.str.inj z).symm)]
      rfl
    exact List.length_pos_of_mem h
/-- what is known of the table of a tree to be -/
structure Tb (K : PySem.W.Frag) (H : Hp) (d : Addr) (t : Tab) (es : List Ent) : Prop where
  l : H d = some (.dK (kT t))
  en : EntsAt K H t es
  nd : (es.map (·.1)).Nodup
  ok : ∀ e ∈ es, EntOk e ∧ e.1 ∈ NAMES
theorem Tb.kp {K : PySem.W.Frag} {H H' : Hp} {d : Addr} {t : Tab} {es : List Ent} (h : Tb K H d t es) (k : Kp H H') : Tb K H' d t es := ⟨k.d _ _ h.l, h.en.keep k.t, h.nd, h.ok⟩
theorem Tb.len {K : PySem.W.Frag} {H : Hp} {d : Addr} {t : Tab} {es : List Ent} (h : Tb K H d t es) : t.length = es.length := by
  have := congrArg List.length h.en.keys
  rwa [List.length_map, List.length_map] at this
theorem valV_self {t : Tab} (n : Nd t) {e : Str × V} (h : e ∈ t) : valV t e.1 = some e.2 := by
  induction t with
  | nil => cases h
  | cons f r ih =>
    obtain ⟨n1, n2⟩ := List.nodup_cons.mp (show (f.1 :: r.map (·.1)).Nodup from n)
    rw [show f = (f.1, f.2) from rfl]
    rcases List.mem_cons.mp h with z | z
    · rw [z]
      exact valV_pos rfl
    · rw [valV_neg (fun c => n1 (by rw [c]; exact List.mem_map.mpr ⟨e, z, rfl⟩))]
      exact ih n2 z
theorem ents_filter {K : PySem.W.Frag} {H : Hp} (q : Str → Bool) : ∀ {t : Tab} {es : List Ent}, EntsAt K H t es → EntsAt K H (t.filter fun e => q e.1) (es.filter fun e => q e.1)
  | _, _, .nil => .nil
  | _, _, .cons (a := a) (b := b) h r => by
    rw [List.filter_cons, List.filter_cons, h.1]
    split
    · exact .cons h (ents_filter q r)
    · exact ents_filter q r
theorem tups_kT {K : PySem.W.Frag} {H : Hp} : ∀ {as : List Addr} {u : Tab}, Tups H as (u.map fun e => [.str e.1, e.2]) → Paired (fun p kv => SqT K H p [kV kv.1, kv.2]) as (kT u)
  | [], [], _ => .nil
  | [], _ :: _, h => by have := h.1; simp at this
  | _ :: _, [], h => by have := h.1; simp at this
  | a :: as, e :: u, h => .cons (SqT.of (h.2 0 a _ rfl rfl)) (tups_kT ⟨Nat.succ.inj h.1, fun i b l h1 h2 => h.2 (i + 1) b l h1 h2⟩)
theorem merge0 {u : Tab} (n : Nd u) : mergeK [] (kT u) = kT u := merge_kT (t := []) n
theorem Tb.filter {K : PySem.W.Frag} {H : Hp} {d d' : Addr} {t : Tab} {es : List Ent} (h : Tb K H d t es) (q : Str → Bool) (hd : H d' = some (.dK (kT (t.filter fun e => q e.1)))) : Tb K H d' (t.filter fun e => q e.1) (es.filter fun e => q e.1) :=
  ⟨hd, ents_filter q h.en, List.Nodup.sublist ((List.filter_sublist).map _) h.nd, fun e he => h.ok e (List.mem_filter.mp he).1⟩
/-- an entry that is in no way in es, nor its name in rs -/
def OthAt (H : Hp) (es rs : List Ent) (v : V) : Prop := ∃ (f : Addr) (x kd i : Str), v = .ref f ∧ H f = some (.tup [.str x, .str kd, .str i]) ∧ EntOk (x, kd, i) ∧ (x, kd, i) ∉ es ∧ x ∉ rs.map (·.1)
theorem OthAt.kp {H H' : Hp} {es rs : List Ent} {v : V} (h : OthAt H es rs v) (k : Kp H H') : OthAt H' es rs v := by
  obtain ⟨f, x, kd, i, e, h1, r⟩ := h
  exact ⟨f, x, kd, i, e, k.t _ _ h1, r⟩
theorem len_putE (es : List Ent) (x : Str) (v : Str × Str) : (putE es x v).length ≤ es.length + 1 ∧ 0 < (putE es x v).length := by
  unfold putE
  split
  · next h =>
    rw [List.length_map]
    obtain ⟨e, he, _⟩ := List.any_eq_true.mp h
    exact ⟨Nat.le_succ _, List.length_pos_of_mem he⟩
  · rw [List.length_append]
    exact ⟨Nat.le_refl _, Nat.succ_pos _⟩
theorem Tb.put {K : PySem.W.Frag} {H : Hp} {d q : Addr} {t : Tab} {es : List Ent} {x kd i : Str} (h : Tb K H d t es) (hq : H q = some (.tup [.str kd, .str i])) (ok : EntOk (x, kd, i)) (hx : x ∈ NAMES) : Tb K (upd H d (.dK (kT (putK t x (.ref q))))) d (putK t x (.ref q)) (putE es x (kd, i)) := by
  have k : TupKeep H (upd H d (.dK (kT (putK t x (.ref q))))) := TupKeep.at fun xs z => by rw [h.l] at z; cases z
  refine ⟨upd_same, (ents_put h.en (.inl hq)).keep k, ?_, fun e he => ?_⟩
  · have n : Nd t := by unfold Nd; rw [h.en.keys]; exact h.nd
    rw [← (ents_put h.en (.inl hq)).keys]
    exact nd_put n x (.ref q)
  · rcases mem_putE he with z | z
    · exact h.ok e z
    · rw [z]
      exact ⟨ok, hx⟩
section
variable {P : Program} {w : World} {K : PySem.W.Frag} {mg : Str → Option Value} {base : Heap} {c : C4} {CS cX iX ek pd : Addr}
theorem do_pick {H : Hp} {a b : Addr} {xs : List V} {k : Int} {Q : VK} (hw : Wl H a k) (hS : H b = some (.lst xs)) (nb : b ≠ a) (h0 : 0 < xs.length) (h1 : xs.length < 1000000) (hk : k < 2 ^ 39) (q : ∀ v ∈ xs, ∀ H' k', Fr a H H' → Wl H' a k' → k ≤ k' → k' ≤ k + 1 → Q v H') : spPick K [.ref a, .ref b] H Q C8.E0 :=
  ⟨a, b, xs, k, rfl, hw, SqL.of hS, nb, h0, h1, by omega, q⟩
theorem c_l_trees (T : TopO K mg c CS cX iX ek pd) : C8.Cal P w K mg base 8 "_law_trees" (spPairs K c) [] := by
  refine cal_of T.d_l_trees sc_l_trees (fun _ _ _ _ _ _ us hl => match us, hl with | [_], _ => rfl) (fun vs H Q E h => ?_) (fun f cdv A outer s H vs Q E hr h => ?_)
  · obtain ⟨a, k, rfl, _⟩ := h
    rfl
  · obtain ⟨a, k, rfl, hw, hk, q⟩ := h
    have hk0 := hw.1
    refine ⟨_, (pss_cons (ps_asg (pe_tup (pa_cons pe_dnewK (pa_cons (pe_lst (pa_cons pe_str (pa_cons pe_str (pa_cons pe_str (pa_cons pe_str (pa_cons pe_str (pa_cons pe_str pa_nil))))))) pa_nil))) (pg_tup rfl (pgs_cons (pg_name (i := 1) sc_l_trees.nd rfl (Or.inr rfl)) (pgs_cons (pg_name (i := 2) sc_l_trees.nd rfl (Or.inl rfl)) pgs_nil))))
      (C8.pss_cut (ps_for PassesOwn.never rfl (pi_range1 (by rfl) T.z_range (pa_cons (pe_op op_add pe_int (C8.pe_c (c_l_draw T.toTop) hr (by decide) (by rfl) (pa_cons (pv 0) (pa_cons pe_int pa_nil)))) pa_nil)) (pg_name (i := 3) sc_l_trees.nd rfl (Or.inl rfl))
      (pss_one (ps_dput (hu_of hr) (pv 1) (C8.pe_c (c_l_pick T.toTop) hr (by decide) (by rfl) (pa_cons (pv 0) (pa_cons (pv 2) pa_nil))) (pe_tup (pa_cons (C8.pe_c (c_l_pick T.toTop) hr (by decide) (by rfl) (pa_cons (pv 0) (pa_cons (pe_lst (pa_cons pe_str (pa_cons pe_str (pa_cons pe_str pa_nil)))) pa_nil))) (pa_cons (C8.pe_c (c_l_word T.toTop) hr (by decide) (by rfl) (pa_cons (pv 0) (pa_cons (pe_c0 (c_l_hex T.toTop) hr (by decide) (by rfl)) (pa_cons pe_int pa_nil)))) pa_nil))) rfl)))
      (pss_cons (ps_set (i := 4) sc_l_trees.nd rfl (Or.inr rfl) (C8.pe_c (c_l_pick T.toTop) hr (by decide) (by rfl) (pa_cons (pv 0) (pa_cons (pe_callB (call_sortedD (by rfl)) (by rfl) T.z_sorted (by decide +kernel) (pa_cons (pv 1) pa_nil)) pa_nil))))
      (pss_cons (ps_asg (pe_dget (hu_of hr) (pv 1) (pv 4) (fun _ _ => rfl)) (pg_tup rfl (pgs_cons (pg_name (i := 5) sc_l_trees.nd rfl (Or.inr rfl)) (pgs_cons (pg_name (i := 6) sc_l_trees.nd rfl (Or.inl rfl)) pgs_nil))))
      (pss_cons (ps_set (i := 7) sc_l_trees.nd rfl (Or.inl rfl) (pe_callTy (call_dictP rfl) (by rfl) T.z_dict (by decide +kernel) (pa_cons (pe_lock (pe_lc (own := [("_law_one", 8)]) (g := gName 8) (by rfl) sc_l_trees.nd (pi_keys (pv 1)) (blkOk_by (own := [("_law_one", 8)]) (N := ["_law_well_here", "_law_found", "_law_names", "_law_k", "_law_name", "_law_kind", "_law_target", "_law_rest_here", "_law_one", "_law_others", "_law_rows", "_law_other", "_law_sort_so", "_law_where"]) (sc := C8.fnScope s_l_trees) (by decide +kernel)) (fun _ _ _ _ _ => (pg_name (i := 8) sc_l_trees.nd rfl (Or.inl rfl))) (fun _ _ _ _ _ => pts_one (pt_cmpR op_ne (pv 8) (pv 4) (nomark _))) (fun _ _ _ _ _ => (pe_tup (pa_cons (pv 8) (pa_cons (pe_dget (hu_of hr) (pv 1) (pv 8) (fun _ _ => rfl)) pa_nil)))))) pa_nil)))
      (pss_cons (ps_set (i := 9) sc_l_trees.nd rfl (Or.inl rfl) (pe_lst (pa_cons (pe_tup (pa_cons (pv 4) (pa_cons (C8.pe_c (c_l_pick T.toTop) hr (by decide) (by rfl) (pa_cons (pv 0) (pa_cons (pe_lc (own := [("_law_one", 8)]) (g := gName 8) (by rfl) sc_l_trees.nd (pi_list (pe_lst (pa_cons pe_str (pa_cons pe_str (pa_cons pe_str pa_nil))))) (blkOk_by (own := [("_law_one", 8)]) (N := ["_law_well_here", "_law_found", "_law_names", "_law_k", "_law_name", "_law_kind", "_law_target", "_law_rest_here", "_law_one", "_law_others", "_law_rows", "_law_other", "_law_sort_so", "_law_where"]) (sc := C8.fnScope s_l_trees) (by decide +kernel)) (fun _ _ _ _ _ => (pg_name (i := 8) sc_l_trees.nd rfl (Or.inl rfl))) (fun _ _ _ _ _ => pts_one (pt_cmpR op_ne (pv 8) (pv 5) (nomark _))) (fun _ _ _ _ _ => (pv 8))) pa_nil))) (pa_cons (pv 6) pa_nil)))) pa_nil)))
      (pss_cons (ps_set (i := 9) sc_l_trees.nd rfl (Or.inl rfl) (pe_op op_cat (pv 9) (pe_lst (pa_cons (pe_tup (pa_cons (pv 4) (pa_cons (pv 5) (pa_cons (C8.pe_c (c_l_bent T.toTop) hr (by decide) (by rfl) (pa_cons (pv 0) (pa_cons (pv 6) (pa_cons (pe_c0 (c_l_hex T.toTop) hr (by decide) (by rfl)) pa_nil)))) pa_nil)))) (pa_cons (pe_tup (pa_cons (C8.pe_c (c_l_bent T.toTop) hr (by decide) (by rfl) (pa_cons (pv 0) (pa_cons (pv 4) (pa_cons pe_str pa_nil)))) (pa_cons (pv 5) (pa_cons (pv 6) pa_nil)))) pa_nil)))))
      (C8.pss_cut (ps_set (i := 10) sc_l_trees.nd rfl (Or.inl rfl) (pe_lst pa_nil))
      (pss_cons (ps_for PassesOwn.never rfl (pi_list (pv 9)) (pg_tup rfl (pgs_cons (pg_name (i := 11) sc_l_trees.nd rfl (Or.inl rfl)) (pgs_cons (pg_name (i := 12) sc_l_trees.nd rfl (Or.inl rfl)) (pgs_cons (pg_name (i := 13) sc_l_trees.nd rfl (Or.inl rfl)) pgs_nil))))
      (pss_one (ps_expr (pe_bm PySem.F.plainAttrs_list PySem.F.slot_list_append PySem.F.type_list_append mt_append (pv 10) (pa_cons (pe_tup (pa_cons (C8.pe_mk (k_Tree T) hr (by decide) (by rfl) (pa_cons (pv 1) pa_nil)) (pa_cons (C8.pe_mk (k_Tree T) hr (by decide) (by rfl) (pa_cons (pe_callTy (call_dictP rfl) (by rfl) T.z_dict (by decide +kernel) (pa_cons (pe_op op_cat (LiI.pe_listItems rfl (pv 7) (by rfl) T.z_list (by decide +kernel)) (pe_lst (pa_cons (pe_tup (pa_cons (pv 11) (pa_cons (pe_tup (pa_cons (pv 12) (pa_cons (pv 13) pa_nil))) pa_nil))) pa_nil))) pa_nil)) pa_nil)) pa_nil))) pa_nil)))))
      (pss_one (ps_ret (pv 10)))))))))))), ?_⟩
    refine fun d hd => ?_
    refine ⟨(by show 6 ≤ sizeLine; decide), fun nm hnm => ⟨(by show 2 ≤ sizeLine; decide), fun tp htp => ?_⟩⟩
    refine ⟨tp, _, rfl, SqT.of upd_same, rfl, .ref d, _, rfl, .ref nm, _, rfl, rfl, ?_⟩
    have s0 : Same H (upd (upd (upd H d (.dK [])) nm (.lst [.str "a", .str "b", .str "src", .str "a.b", .str "a-b", .str "x1"])) tp (.tup [.ref d, .ref nm])) := ((same_new hd).trans (same_new hnm)).trans (same_new htp)
    have T0 : Tb K (upd (upd (upd H d (.dK [])) nm (.lst [.str "a", .str "b", .str "src", .str "a.b", .str "a-b", .str "x1"])) tp (.tup [.ref d, .ref nm])) d [] [] := ⟨((same_new hnm).trans (same_new htp)) _ _ upd_same, .nil, List.nodup_nil, fun e he => nomatch he⟩
    have N0 : (upd (upd (upd H d (.dK [])) nm (.lst [.str "a", .str "b", .str "src", .str "a.b", .str "a-b", .str "x1"])) tp (.tup [.ref d, .ref nm])) nm = some (.lst (NAMES.map V.str)) := (same_new htp) _ _ upd_same
    have nnm : nm ≠ d := fun z => by rw [z, upd_same] at hnm; cases hnm
    have hnmH : H nm = none := by rw [upd_ne nnm] at hnm; exact hnm
    have nma := hw.ne hnmH
    have nda := hw.ne hd
    generalize upd (upd (upd H d (.dK [])) nm (.lst [.str "a", .str "b", .str "src", .str "a.b", .str "a-b", .str "x1"])) tp (.tup [.ref d, .ref nm]) = H0 at s0 T0 N0 ⊢
    clear hnm htp
    have w0 := hw.same s0
    refine ⟨fun σ H' => ∃ z t es k', σ = [some (.ref a), some (.ref d), some (.ref nm), z, none, none, none, none, none, none, none, none, none, none] ∧ Fr a H H' ∧ Wl H' a k' ∧ k ≤ k' ∧ k' ≤ k + 100 ∧ Tb K H' d t es ∧ es.length ≤ 4 ∧ 0 < es.length, ?_, fun σ H1 I => ?_⟩
    · refine ⟨.ref a, rfl, do_draw w0 (by decide) (by decide) (by omega) fun r1 hr1 H1 k1 f1 w1 l1 m1 => ⟨_, _, rfl, rfl, _, rfl, by omega, by omega, ?_⟩⟩
      refine forG yields_range (fun i σ H' => ∃ z t es k', σ = [some (.ref a), some (.ref d), some (.ref nm), z, none, none, none, none, none, none, none, none, none, none] ∧ Fr a H H' ∧ Wl H' a k' ∧ k ≤ k' ∧ k' ≤ k1 + 20 * i ∧ Tb K H' d t es ∧ es.length ≤ i ∧ (0 < i → 0 < es.length) ∧ H' nm = some (.lst (NAMES.map V.str))) ?_ (fun _ _ _ _ => trivial) (fun i x σ H' hx I => ?_) (fun σ H' I => ?_)
      · exact ⟨none, [], [], k1, rfl, (Fr.same s0).trans f1, w1, by omega, by omega, T0.kp (Kp.wl w0 f1), Nat.le_refl _, fun z => absurd z (Nat.lt_irrefl 0), f1 _ _ nma N0⟩
      · obtain ⟨z, t, es, k', rfl, fr, w', l', m', Tt, hl, hp, hN⟩ := I
        have hi := (List.getElem?_eq_some_iff.mp hx).1
        rw [List.length_map, List.length_range] at hi
        refine ⟨.ref a, rfl, (by show 3 ≤ sizeLine; decide), fun b hb => ?_⟩
        have s1 := same_new (o := .lst [.str "file", .str "exec", .str "dir"]) hb
        refine do_pick (xs := KINDS.map V.str) (w'.same s1) upd_same (w'.ne hb) (by decide) (by decide) (by omega) fun v hv H2 k2 f2 w2 l2 m2 => ?_
        obtain ⟨kd, hkd, rfl⟩ := List.mem_map.mp hv
        refine ⟨.ref a, rfl, rfl, do_word (z := HEX) (m := 16) rfl w2 (by decide +kernel) (by decide +kernel) (by omega) (by omega) fun id hid hidl H3 k3 f3 w3 l3 m3 => ⟨(by show 2 ≤ sizeLine; decide), fun q hq => ?_⟩⟩
        have s4 := same_new (o := .tup [.str kd, .str id]) hq
        have w4 := w3.same s4
        have f4 := ((Fr.same s1).trans (f2.trans f3)).trans (Fr.same (a := a) s4)
        refine ⟨.ref d, rfl, .ref a, rfl, .ref nm, rfl, do_pick (xs := NAMES.map V.str) w4 (f4 _ _ nma hN) nma (by decide) (by decide) (by omega) fun v hv H5 k5 f5 w5 l5 m5 => ?_⟩
        obtain ⟨x, hx, rfl⟩ := List.mem_map.mp hv
        have f6 := f4.trans f5
        have T6 := Tt.kp (Kp.wl w' f6)
        have T7 := T6.put (q := q) ((Kp.wl w4 f5).t _ _ upd_same) ⟨(names_ok x hx).1, hkd, id_of hid hidl⟩ hx
        refine ⟨d, _, rfl, .inl ⟨kT t, .inr x, T6.l, rfl, small_lt (by rw [len_kT, Tt.len]; omega), rfl⟩, ?_⟩
        rw [putK_kT]
        have := len_putE es x (kd, id)
        exact ⟨_, _, _, k5, rfl, (fr.trans f6).mut hd, w5.mut nda, by omega, by omega, T7, by omega, fun _ => this.2, by rw [upd_ne nnm]; exact f6 _ _ nma hN⟩
      · obtain ⟨z, t, es, k', rfl, fr, w', l', m', Tt, hl, hp, hN⟩ := I
        rw [List.length_map, List.length_range] at hl hp m'
        exact ⟨z, t, es, k', rfl, fr, w', l', by omega, Tt, by omega, hp (by omega)⟩
    · obtain ⟨z, t, es, k1, rfl, fr, w1, l1, m1, Tt, hl, hp⟩ := I
      have ndt : Nd t := by unfold Nd; rw [Tt.en.keys]; exact Tt.nd
      refine ⟨.ref a, rfl, .ref d, rfl, d, kT t, es.map (·.1), rfl, .inl Tt.l, by rw [keys_kT, Tt.en.keys], by rw [List.length_map]; omega, fun ys p hy hso hpn => do_pick (xs := ys.map V.str) (w1.new hpn) upd_same (w1.ne hpn) (by rw [List.length_map, hy.length_eq, List.length_map]; exact hp) (by rw [List.length_map, hy.length_eq, List.length_map]; omega) (by omega) fun v hv H2 k2 f2 w2 l2 m2 => ?_⟩
      obtain ⟨x, hx, rfl⟩ := List.mem_map.mp hv
      obtain ⟨e0, he0, rfl⟩ := List.mem_map.mp (hy.mem_iff.mp hx)
      have kp2 := (Kp.same (same_new (o := .lst (ys.map V.str)) hpn)).trans (Kp.wl (w1.new hpn) f2)
      have T2 := Tt.kp kp2
      have F2 := (fr.trans (Fr.new hpn)).trans f2
      clear kp2 f2 w1 fr hpn hv hx hso hy
      obtain ⟨ok0, nm0⟩ := Tt.ok e0 he0
      obtain ⟨q0, hv0, ht0⟩ := T2.en.val T2.nd e0 he0
      refine ⟨.ref d, rfl, .str e0.1, rfl, d, .ref q0, rfl, by rw [← hv0]; exact dget_kT (.inl T2.l) e0.1, q0, _, rfl, ht0.sq, rfl, .str e0.2.1, _, rfl, .str e0.2.2, _, rfl, rfl, ?_⟩
      refine ⟨d, _, T2.l, trivial, fun od => ⟨.ref d, rfl, d, od, rfl, .inl ⟨kT t, upd_same, fun D hD => ?_⟩⟩⟩
      have un : ∀ {H3}, Same (upd H2 d (.frz od (.dK (kT t)))) H3 → Same H2 (upd H3 d (.dK (kT t))) := fun s => same_unlock s T2.l
      have fz : ∀ {H3}, Same (upd H2 d (.frz od (.dK (kT t)))) H3 → H3 d = some (.frz od (.dK (kT t))) := fun s => s _ _ upd_same
      have ndD : D ≠ d := lock_ne hD
      refine lc_new (us := t) (val := fun e => V.str e.1) yields_tab (fun e => [.str e.1, e.2]) (fun e => !decide (V.str e.1 = V.str e0.1)) (fun e => [some (.ref a), some (.ref d), some (.ref nm), z, some (.str e0.1), some (.str e0.2.1), some (.str e0.2.2), none, some (.str e.1), none, none, none, none, none]) hD (fun H s => fz s) (fun _ _ => rfl) (fun H u _ _ R r => r)
        (fun H3 u s hu R r => ⟨.str u.1, rfl, .str e0.1, rfl, rfl, _, rfl, r H3 (Same.refl H3)⟩)
        (fun H3 u s hu _ R r => ⟨.str u.1, rfl, .ref d, rfl, .str u.1, rfl, d, u.2, rfl, by rw [← valV_self ndt hu]; exact dget_kT (.inr ⟨od, fz s⟩) u.1, (by show 2 ≤ sizeLine; decide), fun p hp => r p _ (same_new hp) upd_same⟩) (by rw [Tt.len]; omega) (fun as H3 s3 h3 tp3 => ?_)
      have sU := un s3
      have T3 := T2.kp (Kp.same sU)
      have kpu : TupKeep H3 (upd H3 d (.dK (kT t))) := TupKeep.at fun xs zz => by rw [fz s3] at zz; cases zz
      have ndu : Nd (t.filter fun e => !decide (V.str e.1 = V.str e0.1)) := nd_filter ndt _
      refine ⟨fz s3, D, as, kT (t.filter fun e => !decide (V.str e.1 = V.str e0.1)), rfl, SqL.of (by rw [upd_ne ndD]; exact h3), tups_kT (tp3.keep kpu), fun e hen => ?_⟩
      rw [merge0 ndu]
      have s4 := same_new (o := .dK (kT (t.filter fun e => !decide (V.str e.1 = V.str e0.1)))) hen
      have R4 := (T3.kp (Kp.same s4)).filter (d' := e) (fun y => !decide (V.str y = V.str e0.1)) upd_same
      have T4 := T3.kp (Kp.same s4)
      have F4 := F2.trans (Fr.same (sU.trans s4))
      have w4 := w2.same (sU.trans s4)
      generalize upd (upd H3 d (.dK (kT t))) e (.dK (kT (t.filter fun e => !decide (V.str e.1 = V.str e0.1)))) = H4 at R4 T4 F4 w4 ⊢
      clear s4 sU kpu tp3 h3 s3 un fz hen T3 F2 w2 hD
      have lrs0 := List.length_filter_le (fun e => !decide (V.str e.1 = V.str e0.1)) es
      generalize hrs : (es.filter fun e => !decide (V.str e.1 = V.str e0.1)) = rs at R4 lrs0
      generalize (t.filter fun e => !decide (V.str e.1 = V.str e0.1)) = tr at R4 ndu
      have nin : e0.1 ∉ rs.map (·.1) := fun zz => by
        obtain ⟨y, hy, ey⟩ := List.mem_map.mp zz
        rw [← hrs] at hy
        have := (List.mem_filter.mp hy).2
        rw [decide_eq_true (by rw [ey])] at this
        cases this
      have only : ∀ kd i, (e0.1, kd, i) ∈ es → (kd, i) = e0.2 := fun kd i hm => by
        obtain ⟨a1, ha1, ea1⟩ := List.mem_iff_getElem.mp hm
        obtain ⟨a2, ha2, ea2⟩ := List.mem_iff_getElem.mp he0
        have : a1 = a2 := nodup_inj Tt.nd (by rw [List.length_map]; exact ha1) (by rw [List.length_map]; exact ha2) (by rw [List.getElem_map, List.getElem_map, ea1, ea2])
        subst this
        rw [ea1] at ea2
        rw [← ea2]
      refine ⟨.str e0.1, rfl, .ref a, rfl, (by show 3 ≤ sizeLine; decide), fun b hb => ⟨b, rfl, ⟨_, SqL.of upd_same⟩, fun D2 hD2 => ?_⟩⟩
      have s5 := same_new (o := .lst [.str "file", .str "exec", .str "dir"]) hb
      have hB : (upd H4 b (.lst [V.str "file", .str "exec", .str "dir"])) b = some (.lst (KINDS.map V.str)) := upd_same
      refine lc_pure (i := 8) (us := KINDS) (g := V.str) yields_list V.str (fun u => !decide (V.str u = V.str e0.2.1)) hD2 (fun H s => SqL.of (s _ _ hB)) (fun H5 u _ hu R k => ⟨.str u, rfl, .str e0.2.1, rfl, rfl, _, rfl, k H5 (Same.refl H5)⟩) (fun H5 u _ _ _ R k => ⟨.str u, rfl, k H5 (Same.refl H5)⟩) (by decide) (fun H5 s6 h5 => ?_)
      have s56 := s5.trans s6
      have w5 := w4.same s56
      refine do_pick w5 h5 ((w4.same s5).ne hD2) (by rw [List.length_map]; exact kinds_else) (by rw [List.length_map]; have := List.length_filter_le (fun u => !decide (V.str u = V.str e0.2.1)) KINDS; have e3 : KINDS.length = 3 := rfl; omega) (by omega) fun v hv H6 k6 f6 w6 l6 m6 => ?_
      obtain ⟨kd, hkd, rfl⟩ := List.mem_map.mp hv
      obtain ⟨hkd1, hkd2⟩ := List.mem_filter.mp hkd
      have hkd3 : kd ≠ e0.2.1 := fun zz => by rw [zz, decide_eq_true rfl] at hkd2; cases hkd2
      refine ⟨.str e0.2.2, rfl, (by show 3 ≤ sizeLine; decide), fun g1 hg1 => ⟨(by show 1 ≤ sizeLine; decide), fun o1 ho1 => ?_⟩⟩
      have kp6 := (Kp.same s56).trans (Kp.wl w5 f6)
      have F6 := (F4.trans (Fr.same s56)).trans f6
      have sA := same_new (o := .tup [.str e0.1, .str kd, .str e0.2.2]) hg1
      have sA2 := same_new (o := .lst [.ref g1]) ho1
      have G1 : (upd (upd H6 g1 (.tup [.str e0.1, .str kd, .str e0.2.2])) o1 (.lst [.ref g1])) g1 = some (.tup [.str e0.1, .str kd, .str e0.2.2]) := sA2 _ _ upd_same
      have O1 : (upd (upd H6 g1 (.tup [.str e0.1, .str kd, .str e0.2.2])) o1 (.lst [.ref g1])) o1 = some (.lst [.ref g1]) := upd_same
      have no1 := (w6.same sA).ne ho1
      have w7 := w6.same (sA.trans sA2)
      have F7 := F6.trans (Fr.same (sA.trans sA2))
      have kp7 := kp6.trans (Kp.same (sA.trans sA2))
      generalize upd (upd H6 g1 (.tup [.str e0.1, .str kd, .str e0.2.2])) o1 (.lst [.ref g1]) = H7 at G1 O1 w7 F7 kp7 ⊢
      clear kp6 F6 sA sA2 f6 w6 h5 hD2 hB s6 s5 s56 w5 hb hg1 ho1 hv hkd
      refine ⟨.ref o1, rfl, .str e0.1, rfl, .str e0.2.1, rfl, .ref a, rfl, .str e0.2.2, rfl, rfl, do_bent (z := HEX) w7 (by rw [id_len ok0.2.2]; decide) (by rw [id_len ok0.2.2]; decide) (by decide +kernel) two_hex (by omega) fun i2 hi2 H8 k8 f8 w8 l8 m8 => ⟨(by show 3 ≤ sizeLine; decide), fun g2 hg2 => ?_⟩⟩
      have sB := same_new (o := .tup [.str e0.1, .str e0.2.1, .str i2]) hg2
      have w9 := w8.same sB
      have G2 : (upd H8 g2 (.tup [.str e0.1, .str e0.2.1, .str i2])) g2 = some (.tup [.str e0.1, .str e0.2.1, .str i2]) := upd_same
      have kp89 := (Kp.wl w7 f8).trans (Kp.same sB)
      have G1 := kp89.t _ _ G1
      have O1 := sB _ _ (f8 _ _ no1 O1)
      have F9 := (F7.trans f8).trans (Fr.same sB)
      have kp9 := kp7.trans kp89
      generalize upd H8 g2 (.tup [.str e0.1, .str e0.2.1, .str i2]) = H9 at w9 G2 G1 O1 F9 kp9 ⊢
      clear kp89 kp7 F7 w8 f8 w7 hg2 sB
      have nm1 := names_ok _ nm0
      refine ⟨.ref a, rfl, .str e0.1, rfl, do_bent (z := UVW) w9 nm1.2.1 (by omega) (by decide +kernel) two_uvw (by omega) fun x2 hx2 H10 k10 f10 w10 l10 m10 => ⟨.str e0.2.1, rfl, .str e0.2.2, rfl, (by show 3 ≤ sizeLine; decide), fun g3 hg3 => ⟨(by show 2 ≤ sizeLine; decide), fun o2 ho2 => ⟨o1, o2, [.ref g1], _, rfl, rfl, ?_, upd_same, (by show 3 ≤ sizeLine; decide), fun ot hot => ?_⟩⟩⟩⟩
      · exact (same_new ho2) _ _ ((same_new hg3) _ _ (f10 _ _ no1 O1))
      have bn := bent_name hx2 nm0
      have sC := same_new (o := .tup [.str x2, .str e0.2.1, .str e0.2.2]) hg3
      have sD := same_new (o := .lst [.ref g2, .ref g3]) ho2
      have sE := same_new (o := .lst ([.ref g1] ++ [.ref g2, .ref g3])) hot
      have kp10 := (Kp.wl w9 f10).trans (Kp.same ((sC.trans sD).trans sE))
      have G1 := kp10.t _ _ G1
      have G2 := kp10.t _ _ G2
      have G3 := (sD.trans sE) _ _ (show (upd H10 g3 (.tup [.str x2, .str e0.2.1, .str e0.2.2])) g3 = some (.tup [.str x2, .str e0.2.1, .str e0.2.2]) from upd_same)
      have OT : (upd (upd (upd H10 g3 (.tup [.str x2, .str e0.2.1, .str e0.2.2])) o2 (.lst [.ref g2, .ref g3])) ot (.lst ([.ref g1] ++ [.ref g2, .ref g3]))) ot = some (.lst ([.ref g1] ++ [.ref g2, .ref g3])) := upd_same
      have T11 := T4.kp (kp9.trans kp10)
      have R11 := R4.kp (kp9.trans kp10)
      have F11 := (F9.trans f10).trans (Fr.same (a := a) ((sC.trans sD).trans sE))
      have w11 := w10.same ((sC.trans sD).trans sE)
      generalize upd (upd (upd H10 g3 (.tup [.str x2, .str e0.2.1, .str e0.2.2])) o2 (.lst [.ref g2, .ref g3])) ot (.lst ([.ref g1] ++ [.ref g2, .ref g3])) = H11 at G1 G2 G3 OT T11 R11 F11 w11 kp10 ⊢
      clear kp9 kp10 sC sD sE f10 w10 w9 F9 O1 T4 R4 F4 w4 hg3 ho2 hot
      have GS : ∀ v ∈ [V.ref g1] ++ [V.ref g2, .ref g3], OthAt H11 es rs v := fun v hv => by
        rcases List.mem_append.mp hv with hv | hv
        · rw [List.mem_singleton.mp hv]
          exact ⟨g1, _, _, _, rfl, G1, ⟨ok0.1, hkd1, ok0.2.2⟩, fun hm => hkd3 (congrArg Prod.fst (only _ _ hm)), nin⟩
        · rcases List.mem_cons.mp hv with hv | hv
          · rw [hv]
            exact ⟨g2, _, _, _, rfl, G2, ⟨ok0.1, ok0.2.1, hi2.id ok0.2.2⟩, fun hm => hi2.ne (congrArg Prod.snd (only _ _ hm)).symm, nin⟩
          · rw [List.mem_singleton.mp hv]
            refine ⟨g3, _, _, _, rfl, G3, ⟨bn.1, ok0.2.1, ok0.2.2⟩, fun hm => bn.2 (Tt.ok _ hm).2, fun hm => ?_⟩
            obtain ⟨y, hy, ey⟩ := List.mem_map.mp hm
            exact bn.2 (by rw [← ey]; exact (R11.ok y hy).2)
      have lg : ([V.ref g1] ++ [V.ref g2, .ref g3]).length = 3 := rfl
      generalize [V.ref g1] ++ [V.ref g2, .ref g3] = gs at OT GS lg
      refine ⟨fun σ H' => ∃ r, σ = [some (.ref a), some (.ref d), some (.ref nm), z, some (.str e0.1), some (.str e0.2.1), some (.str e0.2.2), some (.ref e), none, some (.ref ot), some (.ref r), none, none, none] ∧ Acc K c H H' a r k10 [] ∧ Tb K H' d t es ∧ Tb K H' e tr rs ∧ H' ot = some (.lst gs) ∧ ∀ v ∈ gs, OthAt H' es rs v, ?_, fun σ H1 I => ?_⟩
      · refine ⟨(by show 0 ≤ sizeLine; decide), fun r hrn => ⟨r, rfl, Acc.start F11 w11 hrn, ?_⟩⟩
        have kp := Kp.same (same_new (o := .lst []) hrn)
        exact ⟨T11.kp kp, R11.kp kp, (same_new hrn) _ _ OT, fun v hv => (GS v hv).kp kp⟩
      obtain ⟨r, rfl, A0, T0, R0, O0, Gs0⟩ := I
      have nor : ot ≠ r := fun zz => by
        rw [zz, A0.l] at O0
        have := congrArg (fun o : Option HO => match o with | some (.lst l) => l.length | _ => 0) O0
        simp [lg] at this
      refine ⟨.ref ot, rfl, ot, rfl, ⟨_, SqL.of O0⟩, ?_⟩
      refine forG yields_list (fun j σ H' => ∃ xs x1 x2 x3, σ = [some (.ref a), some (.ref d), some (.ref nm), z, some (.str e0.1), some (.str e0.2.1), some (.str e0.2.2), some (.ref e), none, some (.ref ot), some (.ref r), x1, x2, x3] ∧ Acc K c H H' a r k10 xs ∧ xs.length = j ∧ Tb K H' d t es ∧ Tb K H' e tr rs ∧ H' ot = some (.lst gs) ∧ ∀ v ∈ gs, OthAt H' es rs v) ⟨[], none, none, none, rfl, A0, rfl, T0, R0, O0, Gs0⟩ (fun j σ H' ⟨_, _, _, _, _, _, _, _, _, o, _⟩ => SqL.of o) (fun j v σ H' hx I => ?_) (fun σ H' I => ?_)
      · obtain ⟨xs, x1, x2', x3, rfl, A, hlx, T, R, O, Gs⟩ := I
        have hj := (List.getElem?_eq_some_iff.mp hx).1
        obtain ⟨g, x, kd2, i3, rfl, hg, okn, n1, n2⟩ := Gs v (List.mem_of_getElem? hx)
        refine ⟨g, _, rfl, SqT.of hg, rfl, .str x, _, rfl, .str kd2, _, rfl, .str i3, _, rfl, rfl, ?_⟩
        refine ⟨.ref r, rfl, .inl ⟨rfl, _, SqL.of A.l⟩, .ref d, rfl, fun a1 z1 ha1 hz1 _ => mk_tree (K := K) T.l T.en (by omega) T.nd (fun e he => (T.ok e he).1) ha1 hz1 fun d1 es1 J1 hd1 s1 pe1 ok1 o1' => ?_⟩
        refine ⟨.ref e, rfl, e, kT tr, rfl, s1 _ _ R.l, fun J2 p ts hk2 hp2 hts nts h2 pr2 => ?_⟩
        have lts : ts.length = rs.length := by
          have := Paired.length pr2
          rw [len_kT, R.len] at this
          exact this
        refine ⟨.str x, rfl, .str kd2, rfl, .str i3, rfl, (by show 2 ≤ sizeLine; decide), fun q1 hq1 => ⟨(by show 2 ≤ sizeLine; decide), fun q2 hq2 => ⟨(by show 1 ≤ sizeLine; decide), fun L2' hL2 => ⟨p, L2', ts.map V.ref, [.ref q2], rfl, rfl, ?_, upd_same, small_line (by rw [List.length_map, lts]; show _ + 1 ≤ _; omega), fun L3 hL3 => ?_⟩⟩⟩⟩
        · exact (same_new hL2) _ _ ((same_new hq2) _ _ ((same_new hq1) _ _ h2))
        have s2 : Same J1 J2 := hk2
        have sq1 := same_new (o := .tup [.str kd2, .str i3]) hq1
        have sq2 := same_new (o := .tup [.str x, .ref q1]) hq2
        have sL2 := same_new (o := .lst [.ref q2]) hL2
        have sL3 := same_new (o := .lst (ts.map V.ref ++ [.ref q2])) hL3
        have q1at := (sq2.trans (sL2.trans sL3)) _ _ (show (upd J2 q1 (.tup [.str kd2, .str i3])) q1 = some (.tup [.str kd2, .str i3]) from upd_same)
        have sall := s2.trans (sq1.trans (sq2.trans (sL2.trans sL3)))
        have q2at := (sL2.trans sL3) _ _ (show (upd (upd J2 q1 (.tup [.str kd2, .str i3])) q2 (.tup [.str x, .ref q1])) q2 = some (.tup [.str x, .ref q1]) from upd_same)
        have pr3 := Paired.mapP pr2 (G := fun (p : Addr) (kv : Key × V) => SqT K (upd (upd (upd (upd J2 q1 (.tup [.str kd2, .str i3])) q2 (.tup [.str x, .ref q1])) L2' (.lst [.ref q2])) L3 (.lst (ts.map V.ref ++ [.ref q2]))) p [kV kv.1, kv.2]) fun p kv h => SqT.of ((sq1.trans (sq2.trans (sL2.trans sL3))) _ _ h)
        have ek : kT tr ++ [(.inr x, V.ref q1)] = kT (tr ++ [(x, .ref q1)]) := by
          unfold kT
          rw [List.map_append]
          rfl
        have keyR := R.en.keys
        have nd2 : Nd (tr ++ [(x, V.ref q1)]) := by
          unfold Nd
          rw [List.map_append, keyR]
          exact List.nodup_append.mpr ⟨R.nd, List.nodup_cons.mpr ⟨List.not_mem_nil, List.nodup_nil⟩, fun y hy z hz zz => n2 (by have e : z = x := List.mem_singleton.mp hz; rw [← e, ← zz]; exact hy)⟩
        refine ⟨L3, ts ++ [q2], kT tr ++ [(.inr x, .ref q1)], rfl, SqL.of (by rw [List.map_append]; exact upd_same), paired_app pr3 (.cons (a := q2) (b := ((.inr x : Key), V.ref q1)) (SqT.of q2at) .nil), fun e2 he2 => ?_⟩
        rw [ek, merge0 nd2]
        have se2 := same_new (o := .dK (kT (tr ++ [(x, V.ref q1)]))) he2
        have s13 := s1.trans (sall.trans se2)
        have R2 := R.kp (Kp.same s13)
        have en2 := paired_app R2.en (.cons (a := (x, V.ref q1)) (b := ((x, kd2, i3) : Ent)) ⟨rfl, q1, rfl, .inl (se2 _ _ q1at)⟩ .nil)
        refine fun a2 z2 ha2 hz2 _ => mk_tree (K := K) upd_same en2 (by rw [List.length_append]; show _ + 1 ≤ 30; omega) (by have := nd2; unfold Nd at this; rw [List.map_append, keyR] at this; rw [List.map_append]; exact this) (fun y hy => by rcases List.mem_append.mp hy with zz | zz; exact (R.ok y zz).1; rw [List.mem_singleton.mp zz]; exact okn) ha2 hz2 fun d2 es2 J3 hd2 s3 pe2 ok2 o2' => ⟨(by show 2 ≤ sizeLine; decide), fun tp htp => ?_⟩
        have A2 := A.same (s13.trans s3)
        have ne12 : Ob.tree es1 ≠ .tree es2 := fun zz => by
          injection zz with zz
          have m2 : ((x, kd2, i3) : Ent) ∈ es2 := pe2.symm.mem_iff.mp (List.mem_append_right _ (List.mem_singleton_self _))
          rw [← zz] at m2
          exact n1 (pe1.mem_iff.mp m2)
        have pn := pair_new htp (o1'.same ((sall.trans se2).trans s3)) o2' ok1 ok2 ne12
        have kpF : Kp H' (upd (upd J3 tp (.tup [.ref a1, .ref a2])) r (.lst (xs ++ [.ref tp]))) := (Kp.same ((s13.trans s3).trans (same_new htp))).trans (Kp.lst (A2.same (same_new htp)).l)
        refine ⟨r, _, .ref tp, rfl, rfl, (A2.same (same_new htp)).l, small_lt (by omega), ?_⟩
        exact ⟨_, _, _, _, rfl, A2.snoc htp pn, by rw [List.length_append, hlx]; rfl, T.kp kpF, R.kp kpF, by rw [upd_ne nor]; exact (same_new htp) _ _ ((s13.trans s3) _ _ O), fun v hv => (Gs v hv).kp kpF⟩
      · obtain ⟨xs, x1, x2', x3, rfl, A, hlx, T, R, O, Gs⟩ := I
        exact ⟨.ref r, rfl, q r xs (by omega) H' k10 A.f A.w (by omega) (by omega) A.ne A.l A.ps⟩
end

end Fk

set_option maxHeartbeats 4000000
namespace Fk
open PySem PySem.Spec PyProof.Rows L2
section
variable {P : Program} {w : World} {K : PySem.W.Frag} {mg : Str → Option Value} {base : Heap} {c : C4} {CS cX iX ek pd : Addr}
theorem paired_rev {α β : Type} {R : α → β → Prop} : ∀ {l : List α} {m : List β}, Paired R l m → Paired R l.reverse m.reverse
  | _, _, .nil => .nil
  | _, _, .cons h r => by
    rw [List.reverse_cons, List.reverse_cons]
    exact paired_app (paired_rev r) (.cons h .nil)
theorem ents_same {es fs : List Ent} (h : EntsOk es) (k : EntsOk fs) (p : fs.Perm es) : fs = es :=
  ents_eq (sort_uniq k.2.2.1 h.2.2.1 (p.map _)) h.2.1 fun e he => p.mem_iff.mp he
def spCopy (K : PySem.W.Frag) (c : C4) : Sp := fun vs H Q _ => ∃ (a d : Addr) (o : Ob), vs = [.ref a] ∧ ObAt K c H a d o ∧ o.ok ∧ ∀ b d' H', Same H H' → ObAt K c H' b d' o → Q (.ref b) H'
theorem c_l_copy (T : TopO K mg c CS cX iX ek pd) : C8.Cal P w K mg base 8 "_law_copy" (spCopy K c) [] := by
  refine cal_of T.d_l_copy sc_l_copy (fun _ _ _ _ _ _ us hl => match us, hl with | [_], _ => rfl) (fun vs H Q E h => ?_) (fun f cdv A outer s H vs Q E hr h => ?_)
  · obtain ⟨a, d, o, rfl, _⟩ := h
    rfl
  · obtain ⟨a, d, o, rfl, ha, ok, q⟩ := h
    refine ⟨_, (pss_cons (ps_if (pt_val (pe_callB call_isi (by rfl) T.z_isinstance (by decide +kernel) (pa_cons (pv 0) (pa_cons (C8.pe_gc (by rfl) T.g_Blob) pa_nil))))
      (pss_one (ps_ret (C8.pe_mk (k_Blob T) hr (by decide) (by rfl) (pa_cons (pe_pr (p_Blob_text T) hr (by decide) (pv 0)) pa_nil))))
      pss_nil)
      (pss_cons (ps_if (pt_val (pe_callB call_isi (by rfl) T.z_isinstance (by decide +kernel) (pa_cons (pv 0) (pa_cons (C8.pe_gc (by rfl) T.g_Tree) pa_nil))))
      (pss_one (ps_ret (C8.pe_mk (k_Tree T) hr (by decide) (by rfl) (pa_cons (pe_callTy (call_dictP rfl) (by rfl) T.z_dict (by decide +kernel) (pa_cons (pe_back (LiI.pe_listItems rfl (pe_pr (p_Tree_entries T) hr (by decide) (pv 0)) (by rfl) T.z_list (by decide +kernel)) (pe_un un_neg pe_int)) pa_nil)) pa_nil))))
      pss_nil)
      (pss_cons (ps_if (pt_val (pe_callB call_isi (by rfl) T.z_isinstance (by decide +kernel) (pa_cons (pv 0) (pa_cons (C8.pe_gc (by rfl) T.g_Tag) pa_nil))))
      (pss_one (ps_ret (pe_mkK (k_Tag_1_label_message T) hr (by decide) (by rfl) (pa_cons (pe_pr (p_Tag_target T) hr (by decide) (pv 0)) pa_nil) (pk_cons (pe_pr (p_Tag_label T) hr (by decide) (pv 0)) (pk_cons (pe_pr (p_Tag_message T) hr (by decide) (pv 0)) pk_nil)))))
      pss_nil)
      (pss_one (ps_ret (C8.pe_c (c_l_commit T) hr (by decide) (by rfl) (pa_cons (pe_tup (pa_cons (pe_pr (p_Commit_tree T) hr (by decide) (pv 0)) (pa_cons (pe_pr (p_Commit_parents T) hr (by decide) (pv 0)) (pa_cons (pe_pr (p_Commit_author T) hr (by decide) (pv 0)) (pa_cons (pe_pr (p_Commit_time T) hr (by decide) (pv 0)) (pa_cons (pe_pr (p_Commit_message T) hr (by decide) (pv 0)) pa_nil)))))) pa_nil))))))), ?_⟩
    refine ⟨.ref a, rfl, ?_⟩
    dsimp only [tCons, tC, tNil]
    refine T.isi (j := 0) ha (by decide) ⟨_, rfl, ?_⟩
    cases o with
    | blob x =>
      obtain ⟨dx, ha⟩ := ha
      exact iteT ⟨.ref a, rfl, a, dx, _, rfl, ha, a, dx, _, .str x, rfl, ha, rfl, fun b x1 hb hx1 _ => mk_blob (K := K) ok hb hx1 fun H1 s1 o1 => q b b H1 s1 o1⟩
    | tree es =>
      refine iteF ⟨.ref a, rfl, ?_⟩
      dsimp only [tCons, tC, tNil]
      refine T.isi (j := 1) ha (by decide) ⟨_, rfl, iteT ?_⟩
      obtain ⟨dx, t, ha, hd, hE⟩ := ha
      have ndt : Nd t := by unfold Nd; rw [hE.keys]; exact ok.2.1
      refine ⟨.ref a, rfl, a, dx, _, rfl, ha, a, dx, d, kT t, rfl, ha, hd, fun p hp => ⟨p, kT t, rfl, upd_same, fun H1 l ts hk hl hts nts h1 pr => ?_⟩⟩
      have s1 : Same H H1 := (same_new hp).trans hk
      refine ⟨_, rfl, rfl, .inl ⟨l, _, rfl, SqL.of h1, fun l2 hl2 => ?_⟩⟩
      have s2 := same_new (o := .lst (ts.map V.ref).reverse) hl2
      have ek : (kT t).reverse = kT t.reverse := by
        unfold kT
        rw [List.map_reverse]
      have ndr : Nd t.reverse := by
        unfold Nd
        rw [List.map_reverse]
        exact (List.reverse_perm _).nodup_iff.mpr ndt
      have pr2 := paired_rev (Paired.mapP pr (G := fun (p : Addr) (kv : Key × V) => SqT K (upd H1 l2 (.lst (ts.map V.ref).reverse)) p [kV kv.1, kv.2]) fun p kv h => SqT.of (s2 _ _ h))
      refine ⟨l2, ts.reverse, (kT t).reverse, rfl, SqL.of (by rw [List.map_reverse]; exact upd_same), pr2, fun e he => ?_⟩
      rw [ek, merge0 ndr]
      have s3 := same_new (o := .dK (kT t.reverse)) he
      have s13 := s1.trans (s2.trans s3)
      have en := paired_rev (hE.keep (TupKeep.of s13))
      refine fun b x1 hb hx1 _ => mk_tree (K := K) upd_same en (by rw [List.length_reverse]; exact ok.1) (by rw [List.map_reverse]; exact (List.reverse_perm _).nodup_iff.mpr ok.2.1) (fun y hy => ok.2.2.2 y (List.mem_reverse.mp hy)) hb hx1 fun d1 es1 H2 hd1 s4 pe ok1 o1 => ?_
      have e1 : es1 = es := ents_same ok ok1 (pe.trans (List.reverse_perm _))
      rw [e1] at o1
      exact q b d1 H2 (s13.trans s4) o1
    | tag tg lb ms =>
      refine iteF ⟨.ref a, rfl, ?_⟩
      dsimp only [tCons, tC, tNil]
      refine T.isi (j := 1) ha (by decide) ⟨_, rfl, iteF ?_⟩
      refine ⟨.ref a, rfl, ?_⟩
      dsimp only [tCons, tC, tNil]
      refine T.isi (j := 3) ha (by decide) ⟨_, rfl, iteT ?_⟩
      obtain ⟨dx, ha⟩ := ha
      exact ⟨.ref a, rfl, a, dx, _, rfl, ha, a, dx, _, .str tg, rfl, ha, rfl, .ref a, rfl, a, dx, _, rfl, ha, a, dx, _, .str lb, rfl, ha, rfl, .ref a, rfl, a, dx, _, rfl, ha, a, dx, _, .str ms, rfl, ha, rfl, rfl, rfl, fun b x1 hb hx1 _ => mk_tag (K := K) ok hb hx1 fun H1 s1 o1 => q b b H1 s1 o1⟩
    | commit t ps au tm ms =>
      refine iteF ⟨.ref a, rfl, ?_⟩
      dsimp only [tCons, tC, tNil]
      refine T.isi (j := 1) ha (by decide) ⟨_, rfl, iteF ?_⟩
      refine ⟨.ref a, rfl, ?_⟩
      dsimp only [tCons, tC, tNil]
      refine T.isi (j := 3) ha (by decide) ⟨_, rfl, iteF ?_⟩
      obtain ⟨dx, p, ha, hp⟩ := ha
      refine ⟨.ref a, rfl, a, dx, _, rfl, ha, a, dx, _, .str t, rfl, ha, rfl, .ref a, rfl, a, dx, _, rfl, ha, a, dx, _, .ref p, rfl, ha, rfl, .ref a, rfl, a, dx, _, rfl, ha, a, dx, _, .str au, rfl, ha, rfl, .ref a, rfl, a, dx, _, rfl, ha, a, dx, _, .int tm, rfl, ha, rfl, .ref a, rfl, a, dx, _, rfl, ha, a, dx, _, .str ms, rfl, ha, rfl, (by show 5 ≤ sizeLine; decide), fun f hf => ?_⟩
      exact ⟨f, p, t, ps, au, tm, ms, rfl, .inl upd_same, hp.keep (TupKeep.of (same_new hf)), ok, fun b H1 hb s1 o1 => q b b H1 ((same_new hf).trans s1) o1⟩
end

end Fk

set_option maxHeartbeats 4000000
namespace Fk
open PySem PySem.Spec PyProof.Rows L2
/-! ### sixty kin -/
def markF (k : Nat) : Str := ⟨#[97 + k / 10]⟩ ++ ⟨#[48 + k % 10]⟩
def wordF (k : Nat) : Str := ⟨#[97 + k / 10]⟩ ++ ⟨#[103 + k % 10]⟩
def FAR : Str := repS "e" 16
def idK (k : Nat) : Str := repS "3" 14 ++ markF k
def FE : Str := "f"
def entsK (k : Nat) : List Ent := if k < 50 then [(markF k, "dir", FAR), (FE, "file", FAR)] else [(FE, "file", FAR), (markF k, "dir", FAR)]
def kinF : Nat → Nat → Ob
  | 0, k => .blob ("text " ++ markF k)
  | 1, k => .tree [(FE, "file", idK k)]
  | 2, k => .tree (entsK k)
  | 3, k => .tag (idK k) "v" ""
  | 4, k => .tag FAR (markF k) ""
  | 5, k => .commit FAR [] (wordF k) 9 ""
  | 6, k => .commit FAR [] "ann" (100 + (k : Int)) ""
  | 7, k => .commit FAR [idK k] "ann" 9 ""
  | 8, k => .commit (idK k) [] "ann" 9 ""
  | _, k => .commit FAR [] "ann" 9 (markF k)
def keyF : Nat → Ob → Str
  | 0, .blob x => x
  | 1, .tree [(_, _, i)] => i
  | 2, .tree [(a, _, _), (b, _, _)] => a ++ b
  | 3, .tag i _ _ => i
  | 4, .tag _ l _ => l
  | 5, .commit _ _ w _ _ => w
  | 6, .commit _ _ _ t _ => Str.ofString (toString t)
  | 7, .commit _ [p] _ _ _ => p
  | 8, .commit i _ _ _ _ => i
  | _, .commit _ _ _ _ m => m
  | _, _ => ""
theorem kin_keys : ∀ way ∈ [0, 1, 2, 3, 4, 5, 7, 8, 9], (((List.range 60).map fun k => keyF way (kinF way k)).Nodup) := by decide +kernel
theorem kin_ids : ∀ k ∈ List.range 60, isIdF (idK k) = true ∧ isIdF FAR = true ∧ isSegF (markF k) = true ∧ isWordF LET (wordF k) = true ∧ isTextF (markF k) = true ∧ isTextF ("text " ++ markF k) = true := by decide +kernel
theorem kin_one : isSegF FE = true ∧ isSegF "v" = true ∧ isTextF "" = true ∧ ("" : Str).length ≤ 200 ∧ isWordF LET "ann" = true ∧ ("file" : Str) ∈ KINDS ∧ ("dir" : Str) ∈ KINDS := by decide +kernel
theorem kin_ents : ∀ k ∈ List.range 60, ((entsK k).map (·.1)).Nodup ∧ sortedS ((entsK k).map (·.1)) = true ∧ (markF k).length = 2 := by decide +kernel
theorem nd_key {α β : Type} {f : α → β} {l : List α} (h : (l.map f).Nodup) : l.Nodup := by
  have := List.pairwise_map.mp h
  exact this.imp fun n z => n (by rw [z])
theorem kin_nd (way : Nat) (hw : way < 10) : ((List.range 60).map (kinF way)).Nodup := by
  by_cases h6 : way = 6
  · subst h6
    refine List.pairwise_map.mpr ((List.nodup_range).imp fun {a b} n z => n ?_)
    have z : Ob.commit FAR [] "ann" (100 + (a : Int)) "" = .commit FAR [] "ann" (100 + (b : Int)) "" := z
    injection z
    omega
  · refine nd_key (f := keyF way) ?_
    rw [List.map_map]
    exact kin_keys way (by simp; omega)
theorem kin_ok (way : Nat) (hw : way < 10) (k : Nat) (hk : k < 60) : (kinF way k).ok := by
  obtain ⟨i1, i2, i3, i4, i5, i6⟩ := kin_ids k (List.mem_range.mpr hk)
  obtain ⟨j1, j2, j3, j4, j5, j6, j7⟩ := kin_one
  obtain ⟨e1, e2, e3⟩ := kin_ents k (List.mem_range.mpr hk)
  have nn : ([] : List Str).Nodup := List.nodup_nil
  rcases (by omega : way = 0 ∨ way = 1 ∨ way = 2 ∨ way = 3 ∨ way = 4 ∨ way = 5 ∨ way = 6 ∨ way = 7 ∨ way = 8 ∨ way = 9) with rfl | rfl | rfl | rfl | rfl | rfl | rfl | rfl | rfl | rfl
  · exact i6
  · refine ⟨by show 1 ≤ 30; decide, List.nodup_cons.mpr ⟨List.not_mem_nil, nn⟩, rfl, fun e he => ?_⟩
    rw [List.mem_singleton.mp he]
    exact ⟨j1, j6, i1⟩
  · refine ⟨?_, e1, e2, fun e he => ?_⟩
    · unfold entsK
      split <;> (show 2 ≤ 30; decide)
    · have : e = (markF k, ("dir" : Str), FAR) ∨ e = (FE, ("file" : Str), FAR) := by
        unfold entsK at he
        split at he
        · rcases List.mem_cons.mp he with z | z
          · exact .inl z
          · exact .inr (List.mem_singleton.mp z)
        · rcases List.mem_cons.mp he with z | z
          · exact .inr z
          · exact .inl (List.mem_singleton.mp z)
      rcases this with z | z
      · rw [z]; exact ⟨i3, j7, i2⟩
      · rw [z]; exact ⟨j1, j6, i2⟩
  · exact ⟨i1, j2, j3, j4⟩
  · exact ⟨i2, i3, j3, j4⟩
  · exact ⟨i2, (by decide), nn, (fun p hp => nomatch hp), i4, by decide, by decide, j3, j4⟩
  · exact ⟨i2, (by decide), nn, (fun p hp => nomatch hp), j5, by omega, by omega, j3, j4⟩
  · exact ⟨i2, (by show 1 ≤ 6; decide), List.nodup_cons.mpr ⟨List.not_mem_nil, nn⟩, fun p hp => by rw [List.mem_singleton.mp hp]; exact i1, j5, by decide, by decide, j3, j4⟩
  · exact ⟨i1, (by decide), nn, (fun p hp => nomatch hp), j5, by decide, by decide, j3, j4⟩
  · exact ⟨i2, (by decide), nn, (fun p hp => nomatch hp), j5, by decide, by decide, i5, by rw [e3]; decide⟩
theorem at6 : ∀ i < 6, (TL.tl ("abcdef" : Str))[i]? = some (97 + i) := by decide +kernel
theorem at10 : ∀ i < 10, (TL.tl ("0123456789" : Str))[i]? = some (48 + i) ∧ (TL.tl ("ghijklmnop" : Str))[i]? = some (103 + i) ∧ PySem.intText? ⟨#[48 + i]⟩ = some (i : Int) := by decide +kernel
section
variable {K : PySem.W.Frag} {c : C4} {J : It} {G : Hp → Prop} {H1 : Hp} {D : Addr} {σ : L2.St} {i : Nat} {te : TE} {Q : Hp → Prop} {n : Nat} {g : Nat → V}
theorem lc_kin (Y : Yields J ((List.range n).map g) G) (F : Nat → Ob) (hD1 : H1 D = none) (hG : ∀ H, Same H1 H → G H) (hn : n ≤ 1000)
    (he : ∀ H k, Same H1 H → k < n → ∀ R : VK, (∀ b d H3, H b = none → H d = none → Same H H3 → ObAt K c H3 b d (F k) → R (.ref b) H3) → te (σ.set i (some (g k))) H R)
    (hd : ∀ (us : List (Addr × Addr)) H, Same H1 H → H D = some (.lst (us.map fun u => V.ref u.1)) → us.length = n → (∀ k (hk : k < us.length), ObAt K c H us[k].1 us[k].2 (F k) ∧ H1 us[k].2 = none) → Q H) :
    ∃ W : Nat → Nat → Hp → Prop, (∃ m, W 0 m (upd H1 D (.lst []))) ∧ ∀ k m H, W k m H →
      (J.stop k H ∧ Q H) ∨ (J.go k H ∧ ∃ Nx : Hp → Prop, (∀ H', Nx H' → ∃ m', m' < m ∧ W (k + 1) m' H') ∧ ∀ x H', J.yld k H x H' → gName i x (wipe σ [i]) H' fun σ2 H2 => wipe σ2 [i] = wipe σ [i] ∧ tYes σ2 H2 fun b H3 =>
        if b = true then te σ2 H3 fun y H4 => ∃ acc, H4 D = some (.lst acc) ∧ acc.length < sizeLine ∧ Nx (upd H4 D (.lst (acc ++ [y]))) else Nx H3) := by
  refine lc_inv Y (fun k acc H => Same H1 H ∧ ∃ us : List (Addr × Addr), acc = us.map (fun u => V.ref u.1) ∧ us.length = k ∧ ∀ k (hk : k < us.length), ObAt K c H us[k].1 us[k].2 (F k) ∧ H1 us[k].2 = none) (fun k acc H h _ => hG H h.1) ⟨same_new hD1, [], rfl, rfl, fun k hk => absurd hk (Nat.not_lt_zero k)⟩ (fun k acc H x hI hD hx hacc hk => ?_) (by rw [List.length_map, List.length_range]; omega) (fun acc H hI hD _ => ?_)
  · obtain ⟨sm, us, ea, hl, h⟩ := hI
    obtain ⟨hk2, ex⟩ := List.getElem?_eq_some_iff.mp hx
    rw [List.length_map, List.length_range] at hk2
    rw [List.getElem_map, List.getElem_range] at ex
    subst ex
    refine yes_ ?_
    refine he H k sm hk2 _ fun b d H3 hb hd3 s3 o3 => ?_
    have hD3 := s3 _ _ hD
    refine lc_take hD3 hacc hk ⟨same_mut (sm.trans s3) hD1, us ++ [(b, d)], by rw [ea, List.map_append]; rfl, by rw [List.length_append, hl]; rfl, fun j hj => ?_⟩
    rw [List.length_append, List.length_singleton] at hj
    by_cases c : j < us.length
    · rw [List.getElem_append_left c]
      exact ⟨(((h j c).1).same s3).kp (Kp.lst hD3), (h j c).2⟩
    · have : j = k := by omega
      subst this
      rw [List.getElem_append_right (by omega)]
      simp only [hl, Nat.sub_self, List.getElem_cons_zero]
      exact ⟨o3.kp (Kp.lst hD3), sm.free hd3⟩
  · obtain ⟨sm, us, ea, hl, h⟩ := hI
    rw [List.length_map, List.length_range] at hl
    rw [ea] at hD
    exact hd us H sm hD hl h
end

end Fk

set_option maxHeartbeats 4000000
namespace Fk
open PySem PySem.Spec PyProof.Rows L2
section
variable {P : Program} {w : World} {K : PySem.W.Frag} {mg : Str → Option Value} {base : Heap} {c : C4} {CS cX iX ek pd : Addr}
def spKin (K : PySem.W.Frag) (c : C4) : Sp := fun vs H Q _ => ∃ (a : Addr) (k : Int), vs = [.ref a] ∧ Wl H a k ∧ k < 2 ^ 36 ∧ ∀ (us : List (Addr × Addr)) (F : Nat → Ob) (r : Addr) (H' : Hp) (k' : Int), Fr a H H' → Wl H' a k' → k ≤ k' → k' ≤ k + 1 → r ≠ a → H r = none → H' r = some (.lst (us.map fun u => V.ref u.1)) → us.length = 60 →
  ((List.range 60).map F).Nodup → (∀ k < 60, (F k).ok) → (∀ k (hk : k < us.length), ObAt K c H' us[k].1 us[k].2 (F k) ∧ H us[k].2 = none) → Q (.ref r) H'
theorem rep_far : repS "e" (Int.toNat 16) = FAR := rfl
theorem c_l_kin (T : TopO K mg c CS cX iX ek pd) : C8.Cal P w K mg base 8 "_law_kin" (spKin K c) [] := by
  refine cal_of T.d_l_kin sc_l_kin (fun _ _ _ _ _ _ us hl => match us, hl with | [_], _ => rfl) (fun vs H Q E h => ?_) (fun f cdv A outer s H vs Q E hr h => ?_)
  · obtain ⟨a, k, rfl, _⟩ := h
    rfl
  · obtain ⟨a, k, rfl, hw, hk, q⟩ := h
    refine ⟨_, (pss_cons (ps_asg (pe_tup (pa_cons (C8.pe_c (c_l_draw T.toTop) hr (by decide) (by rfl) (pa_cons (pv 0) (pa_cons pe_int pa_nil))) (pa_cons (pe_op op_mul_si pe_str pe_int) pa_nil))) (pg_tup rfl (pgs_cons (pg_name (i := 1) sc_l_kin.nd rfl (Or.inl rfl)) (pgs_cons (pg_name (i := 2) sc_l_kin.nd rfl (Or.inr rfl)) pgs_nil))))
      (pss_cons (ps_setLc (i := 3) (own := [("_law_k", 4)]) (g := gName 4) (by rfl) sc_l_kin.nd rfl rfl (sw_true rfl rfl rfl (by decide +kernel)) (pi_range1 (by rfl) T.z_range (pa_cons pe_int pa_nil)) (blkOk_by (own := [("_law_k", 4)]) (N := ["_law_well_here", "_law_way", "_law_far", "_law_marks", "_law_k", "_law_words", "_law_mark", "_law_word_here"]) (sc := C8.fnScope s_l_kin) (by decide +kernel)) (fun _ _ _ _ _ => (pg_name (i := 4) sc_l_kin.nd rfl (Or.inl rfl))) (fun _ _ _ _ _ => pts_nil) (fun _ _ _ _ _ => (pe_op op_add_str (pe_ix ix_str pe_str (pe_op op_fdivW (pv 4) pe_int) (fun _ _ => rfl)) (pe_ix ix_str pe_str (pe_op op_mod (pe_callTy call_int1 (by rfl) T.z_int (by decide +kernel) (pa_cons (pv 4) pa_nil)) pe_int) (fun _ _ => rfl)))))
      (pss_cons (ps_setLc (i := 5) (own := [("_law_mark", 6)]) (g := gName 6) (by rfl) sc_l_kin.nd rfl rfl (sw_true rfl rfl rfl (by decide +kernel)) (pi_list (pv 3)) (blkOk_by (own := [("_law_mark", 6)]) (N := ["_law_well_here", "_law_way", "_law_far", "_law_marks", "_law_k", "_law_words", "_law_mark", "_law_word_here"]) (sc := C8.fnScope s_l_kin) (by decide +kernel)) (fun _ _ _ _ _ => (pg_name (i := 6) sc_l_kin.nd rfl (Or.inl rfl))) (fun _ _ _ _ _ => pts_nil) (fun _ _ _ _ _ => (pe_op op_add_str (pe_ix ix_str (pv 6) pe_int (fun _ _ => rfl)) (pe_ix ix_str pe_str (pe_callTy call_int_str (by rfl) T.z_int (by decide +kernel) (pa_cons (pe_ix ix_str (pv 6) pe_int (fun _ _ => rfl)) pa_nil)) (fun _ _ => rfl)))))
      (pss_cons (ps_if (pt_cmpR op_eq (pv 1) pe_int (nomark _))
      (pss_one (ps_ret (pe_lc (own := [("_law_mark", 6)]) (g := gName 6) (by rfl) sc_l_kin.nd (pi_list (pv 3)) (blkOk_by (own := [("_law_mark", 6)]) (N := ["_law_well_here", "_law_way", "_law_far", "_law_marks", "_law_k", "_law_words", "_law_mark", "_law_word_here"]) (sc := C8.fnScope s_l_kin) (by decide +kernel)) (fun _ _ _ _ _ => (pg_name (i := 6) sc_l_kin.nd rfl (Or.inl rfl))) (fun _ _ _ _ _ => pts_nil) (fun _ _ _ _ _ => (C8.pe_mk (k_Blob T) hr (by decide) (by rfl) (pa_cons (pe_op op_add_str pe_str (pv 6)) pa_nil))))))
      pss_nil)
      (pss_cons (ps_if (pt_cmpR op_eq (pv 1) pe_int (nomark _))
      (pss_one (ps_ret (pe_lc (own := [("_law_mark", 6)]) (g := gName 6) (by rfl) sc_l_kin.nd (pi_list (pv 3)) (blkOk_by (own := [("_law_mark", 6)]) (N := ["_law_well_here", "_law_way", "_law_far", "_law_marks", "_law_k", "_law_words", "_law_mark", "_law_word_here"]) (sc := C8.fnScope s_l_kin) (by decide +kernel)) (fun _ _ _ _ _ => (pg_name (i := 6) sc_l_kin.nd rfl (Or.inl rfl))) (fun _ _ _ _ _ => pts_nil) (fun _ _ _ _ _ => (C8.pe_mk (k_Tree T) hr (by decide) (by rfl) (pa_cons (pe_disp (pps_cons pe_str (pe_tup (pa_cons pe_str (pa_cons (pe_op op_add_str (pe_op op_mul_si pe_str pe_int) (pv 6)) pa_nil))) pps_nil) (by rfl) (by rfl) (fun z => by cases z) (by decide)) pa_nil))))))
      pss_nil)
      (pss_cons (ps_if (pt_cmpR op_eq (pv 1) pe_int (nomark _))
      (pss_one (ps_ret (pe_lc (own := [("_law_mark", 6)]) (g := gName 6) (by rfl) sc_l_kin.nd (pi_list (pv 3)) (blkOk_by (own := [("_law_mark", 6)]) (N := ["_law_well_here", "_law_way", "_law_far", "_law_marks", "_law_k", "_law_words", "_law_mark", "_law_word_here"]) (sc := C8.fnScope s_l_kin) (by decide +kernel)) (fun _ _ _ _ _ => (pg_name (i := 6) sc_l_kin.nd rfl (Or.inl rfl))) (fun _ _ _ _ _ => pts_nil) (fun _ _ _ _ _ => (C8.pe_mk (k_Tree T) hr (by decide) (by rfl) (pa_cons (pe_disp (pps_cons pe_str (pe_tup (pa_cons pe_str (pa_cons (pv 2) pa_nil))) (pps_cons (pv 6) (pe_tup (pa_cons pe_str (pa_cons (pv 2) pa_nil))) pps_nil)) (by rfl) (by rfl) (fun z => by cases z) (by decide)) pa_nil))))))
      pss_nil)
      (pss_cons (ps_if (pt_cmpR op_eq (pv 1) pe_int (nomark _))
      (pss_one (ps_ret (pe_lc (own := [("_law_mark", 6)]) (g := gName 6) (by rfl) sc_l_kin.nd (pi_list (pv 3)) (blkOk_by (own := [("_law_mark", 6)]) (N := ["_law_well_here", "_law_way", "_law_far", "_law_marks", "_law_k", "_law_words", "_law_mark", "_law_word_here"]) (sc := C8.fnScope s_l_kin) (by decide +kernel)) (fun _ _ _ _ _ => (pg_name (i := 6) sc_l_kin.nd rfl (Or.inl rfl))) (fun _ _ _ _ _ => pts_nil) (fun _ _ _ _ _ => (pe_mkK (k_Tag_1_label T) hr (by decide) (by rfl) (pa_cons (pe_op op_add_str (pe_op op_mul_si pe_str pe_int) (pv 6)) pa_nil) (pk_cons pe_str pk_nil))))))
      pss_nil)
      (pss_cons (ps_if (pt_cmpR op_eq (pv 1) pe_int (nomark _))
      (pss_one (ps_ret (pe_lc (own := [("_law_mark", 6)]) (g := gName 6) (by rfl) sc_l_kin.nd (pi_list (pv 3)) (blkOk_by (own := [("_law_mark", 6)]) (N := ["_law_well_here", "_law_way", "_law_far", "_law_marks", "_law_k", "_law_words", "_law_mark", "_law_word_here"]) (sc := C8.fnScope s_l_kin) (by decide +kernel)) (fun _ _ _ _ _ => (pg_name (i := 6) sc_l_kin.nd rfl (Or.inl rfl))) (fun _ _ _ _ _ => pts_nil) (fun _ _ _ _ _ => (pe_mkK (k_Tag_1_label T) hr (by decide) (by rfl) (pa_cons (pv 2) pa_nil) (pk_cons (pv 6) pk_nil))))))
      pss_nil)
      (pss_cons (ps_if (pt_cmpR op_eq (pv 1) pe_int (nomark _))
      (pss_one (ps_ret (pe_lc (own := [("_law_word_here", 7)]) (g := gName 7) (by rfl) sc_l_kin.nd (pi_list (pv 5)) (blkOk_by (own := [("_law_word_here", 7)]) (N := ["_law_well_here", "_law_way", "_law_far", "_law_marks", "_law_k", "_law_words", "_law_mark", "_law_word_here"]) (sc := C8.fnScope s_l_kin) (by decide +kernel)) (fun _ _ _ _ _ => (pg_name (i := 7) sc_l_kin.nd rfl (Or.inl rfl))) (fun _ _ _ _ _ => pts_nil) (fun _ _ _ _ _ => (pe_mkK (k_Commit_1_author_time T) hr (by decide) (by rfl) (pa_cons (pv 2) pa_nil) (pk_cons (pv 7) (pk_cons pe_int pk_nil)))))))
      pss_nil)
      (pss_cons (ps_if (pt_cmpR op_eq (pv 1) pe_int (nomark _))
      (pss_one (ps_ret (pe_lc (own := [("_law_k", 4)]) (g := gName 4) (by rfl) sc_l_kin.nd (pi_range1 (by rfl) T.z_range (pa_cons pe_int pa_nil)) (blkOk_by (own := [("_law_k", 4)]) (N := ["_law_well_here", "_law_way", "_law_far", "_law_marks", "_law_k", "_law_words", "_law_mark", "_law_word_here"]) (sc := C8.fnScope s_l_kin) (by decide +kernel)) (fun _ _ _ _ _ => (pg_name (i := 4) sc_l_kin.nd rfl (Or.inl rfl))) (fun _ _ _ _ _ => pts_nil) (fun _ _ _ _ _ => (pe_mkK (k_Commit_1_author_time T) hr (by decide) (by rfl) (pa_cons (pv 2) pa_nil) (pk_cons pe_str (pk_cons (pe_op op_add pe_int (pv 4)) pk_nil)))))))
      pss_nil)
      (pss_cons (ps_if (pt_cmpR op_eq (pv 1) pe_int (nomark _))
      (pss_one (ps_ret (pe_lc (own := [("_law_mark", 6)]) (g := gName 6) (by rfl) sc_l_kin.nd (pi_list (pv 3)) (blkOk_by (own := [("_law_mark", 6)]) (N := ["_law_well_here", "_law_way", "_law_far", "_law_marks", "_law_k", "_law_words", "_law_mark", "_law_word_here"]) (sc := C8.fnScope s_l_kin) (by decide +kernel)) (fun _ _ _ _ _ => (pg_name (i := 6) sc_l_kin.nd rfl (Or.inl rfl))) (fun _ _ _ _ _ => pts_nil) (fun _ _ _ _ _ => (pe_mkK (k_Commit_2_author_time T) hr (by decide) (by rfl) (pa_cons (pv 2) (pa_cons (pe_tup (pa_cons (pe_op op_add_str (pe_op op_mul_si pe_str pe_int) (pv 6)) pa_nil)) pa_nil)) (pk_cons pe_str (pk_cons pe_int pk_nil)))))))
      pss_nil)
      (pss_cons (ps_if (pt_cmpR op_eq (pv 1) pe_int (nomark _))
      (pss_one (ps_ret (pe_lc (own := [("_law_mark", 6)]) (g := gName 6) (by rfl) sc_l_kin.nd (pi_list (pv 3)) (blkOk_by (own := [("_law_mark", 6)]) (N := ["_law_well_here", "_law_way", "_law_far", "_law_marks", "_law_k", "_law_words", "_law_mark", "_law_word_here"]) (sc := C8.fnScope s_l_kin) (by decide +kernel)) (fun _ _ _ _ _ => (pg_name (i := 6) sc_l_kin.nd rfl (Or.inl rfl))) (fun _ _ _ _ _ => pts_nil) (fun _ _ _ _ _ => (pe_mkK (k_Commit_1_author_time T) hr (by decide) (by rfl) (pa_cons (pe_op op_add_str (pe_op op_mul_si pe_str pe_int) (pv 6)) pa_nil) (pk_cons pe_str (pk_cons pe_int pk_nil)))))))
      pss_nil)
      (pss_one (ps_ret (pe_lc (own := [("_law_mark", 6)]) (g := gName 6) (by rfl) sc_l_kin.nd (pi_list (pv 3)) (blkOk_by (own := [("_law_mark", 6)]) (N := ["_law_well_here", "_law_way", "_law_far", "_law_marks", "_law_k", "_law_words", "_law_mark", "_law_word_here"]) (sc := C8.fnScope s_l_kin) (by decide +kernel)) (fun _ _ _ _ _ => (pg_name (i := 6) sc_l_kin.nd rfl (Or.inl rfl))) (fun _ _ _ _ _ => pts_nil) (fun _ _ _ _ _ => (pe_mkK (k_Commit_1_author_time_message T) hr (by decide) (by rfl) (pa_cons (pv 2) pa_nil) (pk_cons pe_str (pk_cons pe_int (pk_cons (pv 6) pk_nil)))))))))))))))))))), ?_⟩
    refine ⟨.ref a, rfl, do_draw hw (by decide) (by decide) (by omega) fun way hway H1 k1 f1 w1 l1 m1 => ⟨_, _, rfl, rfl, by decide, by decide, by decide +kernel, (by show 2 ≤ sizeLine; decide), fun tp htp => ⟨tp, _, rfl, SqT.of upd_same, rfl, .int way, _, rfl, .str FAR, _, rfl, rfl, ?_⟩⟩⟩
    have hway : way < 10 := by omega
    have f2 := f1.trans (Fr.new (o := .tup [.int way, .str FAR]) htp)
    have w2 := w1.new (o := .tup [.int way, .str FAR]) htp
    generalize hH2 : upd H1 tp (.tup [.int way, .str FAR]) = H2 at f2 w2
    refine ⟨_, rfl, by decide, by decide, fun D hD => ?_⟩
    have hD : H2 D = none := by rw [← hH2]; exact hD
    show ∃ W : Nat → Nat → Hp → Prop, (∃ m, W 0 m (upd _ D (.lst []))) ∧ _
    rw [show upd H1 tp (.tup [V.int ↑way, V.str (repS (Str.ofString "e") (Int.toNat 16))]) = H2 from hH2]
    refine lc_pure (i := 4) (us := List.range 60) (g := fun (k : Nat) => V.int (0 + (k : Int))) yields_range (fun k => V.str (markF k)) (fun _ => true) hD (fun _ _ => trivial) (fun H3 u _ _ R k => k H3 (Same.refl H3)) (fun H3 u s hu _ R r => ?_) (by decide) (fun H3 s3 h3 => ?_)
    · have hu := List.mem_range.mp hu
      refine ⟨.int (0 + (u : Int)), rfl, _, _, rfl, rfl, wide_div (b := 40) (by decide) (by decide) (by decide) (by decide), ?_⟩
      refine ⟨_, ((u / 10 : Nat) : Int), 97 + u / 10, rfl, congrArg V.int (show (0 + (u : Int)) / 10 = ((u / 10 : Nat) : Int) by omega), small_line (by decide), atI_nat (at6 _ (by omega)), .int (0 + (u : Int)), rfl, .inl ⟨_, rfl, _, _, rfl, rfl, (by show (0 : Int) < _; decide), ?_⟩⟩
      exact ⟨_, ((u % 10 : Nat) : Int), 48 + u % 10, rfl, congrArg V.int (show (0 + (u : Int)) % 10 = ((u % 10 : Nat) : Int) by omega), small_line (by decide), atI_nat (at10 _ (by omega)).1, _, _, rfl, rfl, small_line (by show 1 + 1 ≤ _; decide), r H3 (Same.refl H3)⟩
    rw [show (List.range 60).filter (fun _ => true) = List.range 60 from List.filter_eq_self.mpr fun _ _ => rfl] at h3
    refine ⟨.ref D, rfl, D, rfl, ⟨_, SqL.of h3⟩, fun D2 hD2 => ?_⟩
    refine lc_pure (i := 6) (us := List.range 60) (g := fun k => V.str (markF k)) yields_list (fun k => V.str (wordF k)) (fun _ => true) hD2 (fun H4 s => SqL.of (s _ _ h3)) (fun H4 u _ _ R k => k H4 (Same.refl H4)) (fun H4 u s hu _ R r => ?_) (by decide) (fun H4 s4 h4 => ?_)
    · have hu := List.mem_range.mp hu
      have m2 := (kin_ents u (List.mem_range.mpr hu)).2.2
      have z := at10 (u % 10) (by omega)
      refine ⟨.str (markF u), rfl, _, ((0 : Nat) : Int), 97 + u / 10, rfl, rfl, small_line (by omega), atI_nat rfl, .str (markF u), rfl, _, ((1 : Nat) : Int), 48 + u % 10, rfl, rfl, small_line (by omega), atI_nat rfl, _, _, rfl, z.2.2, (by show 1 ≤ 640; decide), ?_⟩
      exact ⟨_, _, 103 + u % 10, rfl, rfl, small_line (by decide), atI_nat z.2.1, _, _, rfl, rfl, small_line (by show 1 + 1 ≤ _; decide), r H4 (Same.refl H4)⟩
    rw [show (List.range 60).filter (fun _ => true) = List.range 60 from List.filter_eq_self.mpr fun _ _ => rfl] at h4
    have h3 := s4 _ _ h3
    have f4 := f2.trans (Fr.same (a := a) (s3.trans s4))
    have w4 := w2.same (s3.trans s4)
    clear f2 w2 hH2 f1 w1 htp hD hD2 s3 s4
    have fin : ∀ (F : Nat → Ob) (D3 : Addr) (H5 : Hp) (us : List (Addr × Addr)), ((List.range 60).map F).Nodup → (∀ k < 60, (F k).ok) → Same H4 H5 → H4 D3 = none → H5 D3 = some (.lst (us.map fun u => V.ref u.1)) → us.length = 60 → (∀ k (hk : k < us.length), ObAt K c H5 us[k].1 us[k].2 (F k) ∧ H4 us[k].2 = none) → Q (.ref D3) H5 := fun F D3 H5 us nd ok s5 hD3 h5 hl h => by
      have n3 := w4.ne hD3
      exact q us F D3 H5 k1 (f4.trans (Fr.same s5)) (w4.same s5) (by omega) (by omega) n3 (f4.free n3 hD3) h5 hl nd ok fun k hk => ⟨(h k hk).1, f4.free (w4.ne (h k hk).2) (h k hk).2⟩
    refine ⟨.int way, rfl, rfl, _, rfl, ite2 (fun h => ?_) (fun h => ?_)⟩
    · have e : way = 0 := by have := V.int.inj (of_decide_eq_true h); omega
      refine ⟨.ref D, rfl, D, rfl, ⟨_, SqL.of h3⟩, fun D3 hD3 => ?_⟩
      refine lc_kin (K := K) (c := c) (i := 6) (g := fun k => V.str (markF k)) yields_list (kinF 0) hD3 (fun H5 s => SqL.of (s _ _ h3)) (by decide) (fun H5 u s hu R r => ?_) (fun us H5 s5 h5 hl h => fin _ D3 H5 us (kin_nd 0 (by decide)) (kin_ok 0 (by decide)) s5 hD3 h5 hl h)
      have m2 := (kin_ents u (List.mem_range.mpr hu)).2.2
      exact ⟨.str (markF u), rfl, _, _, rfl, rfl, small_line (by rw [m2]; decide), fun b x1 hb hx1 _ => mk_blob (K := K) (kin_ok 0 (by decide) u hu) hb hx1 fun H6 s6 o6 => r b b H6 hb hb s6 o6⟩
    refine ⟨.int way, rfl, rfl, _, rfl, ite2 (fun h => ?_) (fun h => ?_)⟩
    · refine ⟨.ref D, rfl, D, rfl, ⟨_, SqL.of h3⟩, fun D3 hD3 => ?_⟩
      refine lc_kin (K := K) (c := c) (i := 6) (g := fun k => V.str (markF k)) yields_list (kinF 1) hD3 (fun H5 s => SqL.of (s _ _ h3)) (by decide) (fun H5 u s hu R r => ?_) (fun us H5 s5 h5 hl h => fin _ D3 H5 us (kin_nd 1 (by decide)) (kin_ok 1 (by decide)) s5 hD3 h5 hl h)
      have m2 := (kin_ents u (List.mem_range.mpr hu)).2.2
      have ok := kin_ok 1 (by decide) u hu
      refine fun p hp => ⟨_, _, rfl, rfl, by decide, by decide, by decide +kernel, .str (markF u), rfl, _, _, rfl, rfl, small_line (by rw [m2, rep_len]; decide +kernel), (by show 2 ≤ sizeLine; decide), fun q0 hq => ?_⟩
      have npq : p ≠ q0 := fun z => by rw [z, upd_same] at hq; cases hq
      refine ⟨by rw [upd_ne npq]; exact upd_same, [(.inr FE, .ref q0)], rfl, (by show 1 ≤ 15; decide), ?_⟩
      have nd1 : Nd [(FE, V.ref q0)] := List.nodup_cons.mpr ⟨List.not_mem_nil, List.nodup_nil⟩
      rw [show mergeK [] [((.inr FE : Key), V.ref q0)] = kT [(FE, .ref q0)] from merge0 (u := [(FE, V.ref q0)]) nd1]
      have s3 : Same H5 (upd (upd (upd H5 p (.dK [])) q0 (.tup [.str "file", .str (idK u)])) p (.dK (kT [(FE, .ref q0)]))) := same_mut ((same_new hp).trans (same_new hq)) hp
      have en : EntsAt K (upd (upd (upd H5 p (.dK [])) q0 (.tup [.str "file", .str (idK u)])) p (.dK (kT [(FE, .ref q0)]))) [(FE, .ref q0)] [(FE, ("file" : Str), idK u)] := .cons ⟨rfl, q0, rfl, .inl (by rw [upd_ne npq.symm]; exact upd_same)⟩ .nil
      refine fun b x1 hb hx1 _ => mk_tree (K := K) upd_same en ok.1 ok.2.1 ok.2.2.2 hb hx1 fun d1 es1 H6 hd1 s6 pe ok1 o1 => ?_
      have e1 : es1 = [(FE, ("file" : Str), idK u)] := ents_same ok ok1 pe
      rw [e1] at o1
      exact r b d1 H6 (s3.free hb) (s3.free hd1) (s3.trans s6) o1
    refine ⟨.int way, rfl, rfl, _, rfl, ite2 (fun h => ?_) (fun h => ?_)⟩
    · refine ⟨.ref D, rfl, D, rfl, ⟨_, SqL.of h3⟩, fun D3 hD3 => ?_⟩
      refine lc_kin (K := K) (c := c) (i := 6) (g := fun k => V.str (markF k)) yields_list (kinF 2) hD3 (fun H5 s => SqL.of (s _ _ h3)) (by decide) (fun H5 u s hu R r => ?_) (fun us H5 s5 h5 hl h => fin _ D3 H5 us (kin_nd 2 (by decide)) (kin_ok 2 (by decide)) s5 hD3 h5 hl h)
      have m2 := (kin_ents u (List.mem_range.mpr hu)).2.2
      have ok := kin_ok 2 (by decide) u hu
      refine fun p hp => ⟨.str FAR, rfl, (by show 2 ≤ sizeLine; decide), fun q0 hq => ⟨.str (markF u), rfl, .str FAR, rfl, (by show 2 ≤ sizeLine; decide), fun q1 hq1 => ?_⟩⟩
      have npq : p ≠ q0 := fun z => by rw [z, upd_same] at hq; cases hq
      have s0 := same_new (o := .dK []) hp
      have sq := same_new (o := .tup [.str "file", .str FAR]) hq
      have sq1 := same_new (o := .tup [.str "dir", .str FAR]) hq1
      have P1 : (upd (upd (upd H5 p (.dK [])) q0 (.tup [.str "file", .str FAR])) q1 (.tup [.str "dir", .str FAR])) p = some (.dK []) := (sq.trans sq1) _ _ upd_same
      have Q0 : (upd (upd (upd H5 p (.dK [])) q0 (.tup [.str "file", .str FAR])) q1 (.tup [.str "dir", .str FAR])) q0 = some (.tup [.str "file", .str FAR]) := sq1 _ _ upd_same
      have Q1 : (upd (upd (upd H5 p (.dK [])) q0 (.tup [.str "file", .str FAR])) q1 (.tup [.str "dir", .str FAR])) q1 = some (.tup [.str "dir", .str FAR]) := upd_same
      refine ⟨P1, [(.inr FE, .ref q0), (.inr (markF u), .ref q1)], rfl, (by show 2 ≤ 15; decide), ?_⟩
      have s2 := s0.trans (sq.trans sq1)
      generalize upd (upd (upd H5 p (.dK [])) q0 (.tup [.str "file", .str FAR])) q1 (.tup [.str "dir", .str FAR]) = H7 at P1 Q0 Q1 s2 ⊢
      have pm : (entsK u).Perm [(FE, ("file" : Str), FAR), (markF u, ("dir" : Str), FAR)] := by
        unfold entsK
        split
        · exact List.Perm.swap _ _ _
        · exact List.Perm.refl _
      have nd2 : ([(FE, ("file" : Str), FAR), (markF u, ("dir" : Str), FAR)].map (·.1)).Nodup := (pm.map _).nodup_iff.mp ok.2.1
      have nd1 : Nd [(FE, V.ref q0), (markF u, V.ref q1)] := nd2
      rw [show mergeK [] [((.inr FE : Key), V.ref q0), (.inr (markF u), V.ref q1)] = kT [(FE, .ref q0), (markF u, .ref q1)] from merge0 (u := [(FE, V.ref q0), (markF u, V.ref q1)]) nd1]
      have s3 : Same H5 (upd H7 p (.dK (kT [(FE, .ref q0), (markF u, .ref q1)]))) := same_mut s2 hp
      have kt : TupKeep H7 (upd H7 p (.dK (kT [(FE, .ref q0), (markF u, .ref q1)]))) := TupKeep.at fun xs z => by rw [P1] at z; cases z
      have en : EntsAt K (upd H7 p (.dK (kT [(FE, .ref q0), (markF u, .ref q1)]))) [(FE, .ref q0), (markF u, .ref q1)] [(FE, ("file" : Str), FAR), (markF u, ("dir" : Str), FAR)] := .cons ⟨rfl, q0, rfl, .inl (kt _ _ Q0)⟩ (.cons ⟨rfl, q1, rfl, .inl (kt _ _ Q1)⟩ .nil)
      refine fun b x1 hb hx1 _ => mk_tree (K := K) upd_same en (by show 2 ≤ 30; decide) nd2 (fun y hy => ok.2.2.2 y (pm.mem_iff.mpr hy)) hb hx1 fun d1 es1 H6 hd1 s6 pe ok1 o1 => ?_
      have e1 : es1 = entsK u := ents_same ok ok1 (pe.trans pm.symm)
      rw [e1] at o1
      exact r b d1 H6 (s3.free hb) (s3.free hd1) (s3.trans s6) o1
    refine ⟨.int way, rfl, rfl, _, rfl, ite2 (fun h => ?_) (fun h => ?_)⟩
    · refine ⟨.ref D, rfl, D, rfl, ⟨_, SqL.of h3⟩, fun D3 hD3 => ?_⟩
      refine lc_kin (K := K) (c := c) (i := 6) (g := fun k => V.str (markF k)) yields_list (kinF 3) hD3 (fun H5 s => SqL.of (s _ _ h3)) (by decide) (fun H5 u s hu R r => ?_) (fun us H5 s5 h5 hl h => fin _ D3 H5 us (kin_nd 3 (by decide)) (kin_ok 3 (by decide)) s5 hD3 h5 hl h)
      have m2 := (kin_ents u (List.mem_range.mpr hu)).2.2
      have ok := kin_ok 3 (by decide) u hu
      exact ⟨_, _, rfl, rfl, by decide, by decide, by decide +kernel, .str (markF u), rfl, _, _, rfl, rfl, small_line (by rw [m2, rep_len]; decide +kernel), rfl, rfl, fun b x1 hb hx1 _ => mk_tag (K := K) ok hb hx1 fun H6 s6 o6 => r b b H6 hb hb s6 o6⟩
    refine ⟨.int way, rfl, rfl, _, rfl, ite2 (fun h => ?_) (fun h => ?_)⟩
    · refine ⟨.ref D, rfl, D, rfl, ⟨_, SqL.of h3⟩, fun D3 hD3 => ?_⟩
      refine lc_kin (K := K) (c := c) (i := 6) (g := fun k => V.str (markF k)) yields_list (kinF 4) hD3 (fun H5 s => SqL.of (s _ _ h3)) (by decide) (fun H5 u s hu R r => ?_) (fun us H5 s5 h5 hl h => fin _ D3 H5 us (kin_nd 4 (by decide)) (kin_ok 4 (by decide)) s5 hD3 h5 hl h)
      have m2 := (kin_ents u (List.mem_range.mpr hu)).2.2
      have ok := kin_ok 4 (by decide) u hu
      exact ⟨.str FAR, rfl, .str (markF u), rfl, rfl, rfl, fun b x1 hb hx1 _ => mk_tag (K := K) ok hb hx1 fun H6 s6 o6 => r b b H6 hb hb s6 o6⟩
    refine ⟨.int way, rfl, rfl, _, rfl, ite2 (fun h => ?_) (fun h => ?_)⟩
    · refine ⟨.ref D2, rfl, D2, rfl, ⟨_, SqL.of h4⟩, fun D3 hD3 => ?_⟩
      refine lc_kin (K := K) (c := c) (i := 7) (g := fun k => V.str (wordF k)) yields_list (kinF 5) hD3 (fun H5 s => SqL.of (s _ _ h4)) (by decide) (fun H5 u s hu R r => ?_) (fun us H5 s5 h5 hl h => fin _ D3 H5 us (kin_nd 5 (by decide)) (kin_ok 5 (by decide)) s5 hD3 h5 hl h)
      have m2 := (kin_ents u (List.mem_range.mpr hu)).2.2
      have ok := kin_ok 5 (by decide) u hu
      exact ⟨.str FAR, rfl, .str (wordF u), rfl, rfl, rfl, fun b x1 hb hx1 _ => mk_commit (K := K) (ps := []) (.inr T.kP) ok hb hx1 fun H6 s6 o6 => r b b H6 hb hb s6 o6⟩
    refine ⟨.int way, rfl, rfl, _, rfl, ite2 (fun h => ?_) (fun h => ?_)⟩
    · refine ⟨_, rfl, by decide, by decide, fun D3 hD3 => ?_⟩
      refine lc_kin (K := K) (c := c) (i := 4) (g := fun (k : Nat) => V.int (0 + (k : Int))) yields_range (kinF 6) hD3 (fun _ _ => trivial) (by decide) (fun H5 u s hu R r => ?_) (fun us H5 s5 h5 hl h => fin _ D3 H5 us (kin_nd 6 (by decide)) (kin_ok 6 (by decide)) s5 hD3 h5 hl h)
      have m2 := (kin_ents u (List.mem_range.mpr hu)).2.2
      have ok := kin_ok 6 (by decide) u hu
      have e : (100 : Int) + (0 + (u : Int)) = 100 + (u : Int) := by omega
      exact ⟨.str FAR, rfl, .int (0 + (u : Int)), rfl, _, _, rfl, rfl, rfl, rfl, fun b x1 hb hx1 _ => mk_commit (K := K) (ps := []) (tm := 100 + (0 + (u : Int))) (.inr T.kP) (by rw [e]; exact ok) hb hx1 fun H6 s6 o6 => r b b H6 hb hb s6 (by rw [e] at o6; exact o6)⟩
    refine ⟨.int way, rfl, rfl, _, rfl, ite2 (fun h => ?_) (fun h => ?_)⟩
    · refine ⟨.ref D, rfl, D, rfl, ⟨_, SqL.of h3⟩, fun D3 hD3 => ?_⟩
      refine lc_kin (K := K) (c := c) (i := 6) (g := fun k => V.str (markF k)) yields_list (kinF 7) hD3 (fun H5 s => SqL.of (s _ _ h3)) (by decide) (fun H5 u s hu R r => ?_) (fun us H5 s5 h5 hl h => fin _ D3 H5 us (kin_nd 7 (by decide)) (kin_ok 7 (by decide)) s5 hD3 h5 hl h)
      have m2 := (kin_ents u (List.mem_range.mpr hu)).2.2
      have ok := kin_ok 7 (by decide) u hu
      exact ⟨.str FAR, rfl, _, _, rfl, rfl, by decide, by decide, by decide +kernel, .str (markF u), rfl, _, _, rfl, rfl, small_line (by rw [m2, rep_len]; decide +kernel), (by show 1 ≤ sizeLine; decide), fun p hp => ⟨rfl, rfl, fun b x1 hb hx1 _ => mk_commit (K := K) (ps := [idK u]) (.inl upd_same) ok hb hx1 fun H6 s6 o6 => r b b H6 ((same_new hp).free hb) ((same_new hp).free hb) ((same_new hp).trans s6) o6⟩⟩
    refine ⟨.int way, rfl, rfl, _, rfl, ite2 (fun h => ?_) (fun h => ?_)⟩
    · refine ⟨.ref D, rfl, D, rfl, ⟨_, SqL.of h3⟩, fun D3 hD3 => ?_⟩
      refine lc_kin (K := K) (c := c) (i := 6) (g := fun k => V.str (markF k)) yields_list (kinF 8) hD3 (fun H5 s => SqL.of (s _ _ h3)) (by decide) (fun H5 u s hu R r => ?_) (fun us H5 s5 h5 hl h => fin _ D3 H5 us (kin_nd 8 (by decide)) (kin_ok 8 (by decide)) s5 hD3 h5 hl h)
      have m2 := (kin_ents u (List.mem_range.mpr hu)).2.2
      have ok := kin_ok 8 (by decide) u hu
      exact ⟨_, _, rfl, rfl, by decide, by decide, by decide +kernel, .str (markF u), rfl, _, _, rfl, rfl, small_line (by rw [m2, rep_len]; decide +kernel), rfl, rfl, fun b x1 hb hx1 _ => mk_commit (K := K) (ps := []) (.inr T.kP) ok hb hx1 fun H6 s6 o6 => r b b H6 hb hb s6 o6⟩
    refine ⟨.ref D, rfl, D, rfl, ⟨_, SqL.of h3⟩, fun D3 hD3 => ?_⟩
    refine lc_kin (K := K) (c := c) (i := 6) (g := fun k => V.str (markF k)) yields_list (kinF 9) hD3 (fun H5 s => SqL.of (s _ _ h3)) (by decide) (fun H5 u s hu R r => ?_) (fun us H5 s5 h5 hl h => fin _ D3 H5 us (kin_nd 9 (by decide)) (kin_ok 9 (by decide)) s5 hD3 h5 hl h)
    have m2 := (kin_ents u (List.mem_range.mpr hu)).2.2
    have ok := kin_ok 9 (by decide) u hu
    exact ⟨.str FAR, rfl, .str (markF u), rfl, rfl, rfl, fun b x1 hb hx1 _ => mk_commit (K := K) (ps := []) (.inr T.kP) ok hb hx1 fun H6 s6 o6 => r b b H6 hb hb s6 o6⟩
end

end Fk

set_option maxHeartbeats 4000000
namespace Fk
open PySem PySem.Spec PyProof.Rows L2
section
variable {P : Program} {w : World} {K : PySem.W.Frag} {mg : Str → Option Value} {base : Heap} {c : C4} {CS cX iX ek pd : Addr}
theorem xf_of {C fI : Addr} (T : XC K C fI) : XfC K C := ⟨T.ga, T.gg, T.su, T.hd⟩
def spTold (K : PySem.W.Frag) (c : C4) (CS : Addr) : Sp := fun vs H Q _ => ∃ (S dx d a da : Addr) (t : Tab) (o : Ob), vs = [.ref S, .ref a] ∧ H S = some (.ins CS dx (sf true d)) ∧ H d = some (.dK (kT t)) ∧ t.length < 100000 ∧ ObAt K c H a da o ∧ o.ok ∧
  (∀ v, valV t (idF o true) = some v → ∃ (a' da' : Addr) (o' : Ob), v = .ref a' ∧ ObAt K c H a' da' o' ∧ o'.ok ∧ o' ≠ o ∧ ∀ p H', Same H H' → H' p = some (.tup [.str "clash", .str (idF o true)]) → Q (.ref p) H') ∧
  (valV t (idF o true) = none → ∀ p H', FrL [d] H H' → H' d = some (.dK (kT (putK t (idF o true) (.ref a)))) → H' p = some (.tup [.str "put", .str (idF o true)]) → Q (.ref p) H')
theorem c_l_told (T : TopO K mg c CS cX iX ek pd) : C8.Cal P w K mg base 6 "_law_told" (spTold K c CS) [] := by
  refine cal_of T.d_l_told sc_l_told (fun _ _ _ _ _ _ us hl => match us, hl with | [_, _], _ => rfl) (fun vs H Q E h => ?_) (fun f cdv A outer s H vs Q E hr h => ?_)
  · obtain ⟨S, dx, d, a, da, t, o, rfl, _⟩ := h
    rfl
  · obtain ⟨S, dx, d, a, da, t, o, rfl, hS, hd, hl, ha, ok, q1, q2⟩ := h
    refine' ⟨_, (pss_one (ps_tryA rfl rfl takes_none5 (fun W pn xe tk _ => ?B) (HdA.as (i := 2) sc_l_told.nd rfl rfl ⟨rfl, by decide, .inl T.eX.mgc⟩ (fun a oe cls d pn hz hf => ?S) HdA.nil))), ?_⟩
    case B => exact (pss_one (ps_ret (pe_tup (pa_cons pe_str (pa_cons (pe_mx (m_Store_put T) hr (by decide) (fun _ => passAt tk _) (pv 0) (pa_cons (pv 1) pa_nil)) pa_nil)))))
    case S => exact (pss_one (ps_ret (pe_tup (pa_cons pe_str (pa_cons (pe_xf (xf_of T.eX.xc) T.eX.nf hz hf (pv 2)) pa_nil)))))
    refine ⟨.ref S, rfl, S, dx, _, rfl, hS, rfl, .ref a, rfl, S, dx, d, a, da, true, t, o, rfl, hS, hd, hl, ha, ok, fun v hv => ?_, fun hv H' f h1 => ?_⟩
    · obtain ⟨a', da', o', rfl, ha', ok', ne, k⟩ := q1 v hv
      refine ⟨a', da', o', rfl, ha', ok', fun z => absurd z ne, fun _ dd H' s h1 => ?_⟩
      exact ⟨true, T.exX, fun _ a na => ⟨.ref a, rfl, rfl, rfl, dd, _, _, rfl, h1, rfl, (by show 2 ≤ sizeLine; decide), fun p hp => k p _ (s.trans (same_new hp)) upd_same⟩, fun z => Bool.noConfusion z⟩
    · exact ⟨(by show 2 ≤ sizeLine; decide), fun p hp => q2 hv p _ (f.trans (FrL.new hp)) ((same_new hp) _ _ h1) upd_same⟩
theorem frl_kp {d e : Addr} {H H' : Hp} {u v : List (Key × V)} (f : FrL [d, e] H H') (hd : H d = some (.dK u)) (he : H e = some (.dK v)) : TupKeep H H' ∧ InsKeep H H' ∧ (∀ b, b ≠ d → b ≠ e → ∀ o, H b = some o → H' b = some o) ∧ ∀ b l, H b = some (.lst l) → H' b = some (.lst l) := by
  have k : ∀ b o, b ≠ d → b ≠ e → H b = some o → H' b = some o := fun b o n1 n2 h => f b o (fun z => by
    rcases List.mem_cons.mp z with z | z
    · exact n1 z
    · exact n2 (List.mem_singleton.mp z)) h
  exact ⟨fun b xs h => k b _ (fun z => by rw [z, hd] at h; cases h) (fun z => by rw [z, he] at h; cases h) h, fun b C dx fs h => k b _ (fun z => by rw [z, hd] at h; cases h) (fun z => by rw [z, he] at h; cases h) h, fun b n1 n2 o h => k b o n1 n2 h, fun b l h => k b _ (fun z => by rw [z, hd] at h; cases h) (fun z => by rw [z, he] at h; cases h) h⟩
theorem map_inj {F : Nat → Ob} {n : Nat} (h : ((List.range n).map F).Nodup) {i j : Nat} (hi : i < n) (hj : j < n) (e : F i = F j) : i = j :=
  nodup_inj h (by rw [List.length_map, List.length_range]; exact hi) (by rw [List.length_map, List.length_range]; exact hj) (by rw [List.getElem_map, List.getElem_map, List.getElem_range, List.getElem_range]; exact e)
theorem ok_words : OkS "clash" ∧ OkS "put" := ⟨ok_by (by decide +kernel), ok_by (by decide +kernel)⟩
theorem idF_ok (o : Ob) (b : Bool) : OkS (idF o b) ∧ (idF o b).length = 16 := by
  have := sum_id (byts (encF o)).toList b
  exact ⟨id_ok this, id_len this⟩
def spKinR : Sp := fun vs H Q _ => ∃ (a : Addr) (k : Int), vs = [.ref a] ∧ Wl H a k ∧ k < 2 ^ 36 ∧ ∀ H', Fr a H H' → Q (.bl true) H'
theorem c_l_kin_right (T : TopO K mg c CS cX iX ek pd) : C8.Cal P w K mg base 9 "_law_kin_right" spKinR [] := by
  refine cal_of T.d_l_kin_right sc_l_kin_right (fun _ _ _ _ _ _ us hl => match us, hl with | [_], _ => rfl) (fun vs H Q E h => ?_) (fun f cdv A outer s H vs Q E hr h => ?_)
  · obtain ⟨a, k, rfl, _⟩ := h
    rfl
  · obtain ⟨a, k, rfl, hw, hk, q⟩ := h
    refine ⟨_, (pss_cons (ps_par (i := 1) (j := 2) rfl sc_l_kin_right.nd rfl rfl (by decide) rfl rfl (pa_cons (pe_mkK0 (k_Store_0_short T) hr (by decide) (by rfl) (pk_cons pe_bl pk_nil)) (pa_cons pe_dnewK pa_nil)) rfl)
      (pss_cons (ps_for PassesOwn.never rfl (pi_list (C8.pe_c (c_l_kin T) hr (by decide) (by rfl) (pa_cons (pv 0) pa_nil))) (pg_name (i := 3) sc_l_kin_right.nd rfl (Or.inl rfl))
      (pss_cons (ps_set (i := 4) sc_l_kin_right.nd rfl (Or.inl rfl) (pe_cK (c_id_of_1_short T) hr (by decide) (by rfl) (pa_cons (pv 3) pa_nil) (pk_cons pe_bl pk_nil)))
      (pss_cons (ps_if (pt_cmpR (op_neD hr.units) (C8.pe_c (c_l_told T) hr (by decide) (by rfl) (pa_cons (pv 1) (pa_cons (pv 3) pa_nil))) (pe_ifExp (pt_cmp (pc_din (hu_of hr) (pv 4) (pv 2))) (pe_tup (pa_cons pe_str (pa_cons (pv 4) pa_nil))) (pe_tup (pa_cons pe_str (pa_cons (pv 4) pa_nil)))) (nomark _))
      (pss_one (ps_ret pe_bl))
      pss_nil)
      (pss_cons (ps_expr (pe_dsetd (pv 2) (pv 4) (pv 3) ⟨rfl, rfl, rfl, rfl⟩))
      (pss_one (ps_if (PW.pt (pw_or (pt_not (pt_cmpR (op_obEq T (hr.mono (by decide))) (pe_ownGet (m_Store_getitem T) (hr.mono (by decide)) (pv 1) (pv 4)) (pe_dget (hu_of hr) (pv 2) (pv 4) (fun _ _ => rfl)) (nomark _))) (pw_or1 (pt_cmpR op_ne (pe_callB (call_ownLen (ownM_of (m_Store_len T)) (hr.mono (by decide)) noEx0) (by rfl) T.z_len (by decide +kernel) (pa_cons (pv 1) pa_nil)) (pe_callB call_lenD (by rfl) T.z_len (by decide +kernel) (pa_cons (pv 2) pa_nil)) (nomark _)))))
      (pss_one (ps_ret pe_bl))
      pss_nil))))))
      (pss_one (ps_ret pe_bl)))), ?_⟩
    refine ⟨rfl, rfl, fun S dx hSn hdx _ => mk_store hSn hdx fun dt H1 hdt s1 hS1 hdt1 => fun tb htb => ⟨_, _, rfl, ?_⟩⟩
    have s2 := same_new (o := .dK []) htb
    have hS2 := s2 _ _ hS1
    have hdt2 := s2 _ _ hdt1
    have htbH := s1.free htb
    have s12 := s1.trans s2
    have htb2 : (upd H1 tb (.dK [])) tb = some (.dK []) := upd_same
    have ntb : dt ≠ tb := ne_of_none hdt1 htb
    have w2 := hw.same (s1.trans s2)
    generalize upd H1 tb (.dK []) = H2 at hS2 hdt2 htb2 w2 s12 ⊢
    refine ⟨.ref a, rfl, a, k, rfl, w2, hk, fun us F r H3 k3 f3 w3 l3 m3 nra hrn hr hl nd ok h => ⟨r, rfl, ⟨_, SqL.of hr⟩, ?_⟩⟩
    have k3 := Kp.wl w2 f3
    have hS3 := k3.i _ _ _ _ hS2
    have hdt3 := k3.d _ _ hdt2
    have htb3 := k3.d _ _ htb2
    have OB : ∀ H', FrL [dt, tb] H3 H' → ∀ i (hi : i < us.length), ObAt K c H' us[i].1 us[i].2 (F i) := fun H' f i hi => by
      obtain ⟨kt, ki, kd, _⟩ := frl_kp f hdt3 htb3
      exact (h i hi).1.keep kt ki fun u e => kd _ (fun z => by have := (h i hi).2; rw [z, hdt2] at this; cases this) (fun z => by have := (h i hi).2; rw [z, htb2] at this; cases this) _ e
    have SS : ∀ H', FrL [dt, tb] H3 H' → H' S = some (.ins CS dx (sf true dt)) := fun H' f => (frl_kp f hdt3 htb3).2.1 _ _ _ _ hS3
    refine forG yields_list (fun j σ H' => ∃ z3 z4 t, σ = [some (.ref a), some (.ref S), some (.ref tb), z3, z4] ∧ FrL [dt, tb] H3 H' ∧ H' dt = some (.dK (kT t)) ∧ H' tb = some (.dK (kT t)) ∧ t.length ≤ j ∧ ∀ x v, valV t x = some v → ∃ i, ∃ hi : i < us.length, i < j ∧ v = .ref us[i].1 ∧ x = idF (F i) true) ⟨none, none, [], rfl, FrL.refl _ _, hdt3, htb3, Nat.le_refl _, fun x v z => by cases z⟩ (fun j σ H' ⟨_, _, _, _, f, _⟩ => SqL.of ((frl_kp f hdt3 htb3).2.2.2 _ _ hr)) (fun j x σ H' hx I => ?_) (fun σ H' I => ?_)
    · obtain ⟨z3, z4, t, rfl, f, hdt', htb', htl, inv⟩ := I
      obtain ⟨hj, ex⟩ := List.getElem?_eq_some_iff.mp hx
      rw [List.length_map] at hj
      rw [List.getElem_map] at ex
      subst ex
      have hid := idF_ok (F j) true
      refine ⟨.ref us[j].1, rfl, rfl, rfl, us[j].1, us[j].2, F j, true, rfl, OB H' f j hj, ok j (by omega), fun H4 s4 => ?_⟩
      have f4 := f.trans (FrL.same s4)
      have hdt4 := s4 _ _ hdt'
      have htb4 := s4 _ _ htb'
      refine ⟨.ref S, rfl, .ref us[j].1, rfl, S, dx, dt, us[j].1, us[j].2, t, F j, rfl, SS H4 f4, hdt4, by omega, OB H4 f4 j hj, ok j (by omega), fun v hv => ?_, fun hv p H5 f5 hdt5 hp5 => ?_⟩
      · obtain ⟨i, hi, hij, rfl, ei⟩ := inv _ _ hv
        refine ⟨us[i].1, us[i].2, F i, rfl, OB H4 f4 i hi, ok i (by omega), fun z => absurd (map_inj nd (by omega) (by omega) z) (by omega), fun p H5 s5 hp5 => ?_⟩
        have f6 := f4.trans (FrL.same s5)
        have hdt6 := s5 _ _ hdt4
        have htb6 := s5 _ _ htb4
        refine ⟨.str (idF (F j) true), rfl, .ref tb, rfl, tb, _, rfl, dget_kT (.inl htb6) _, _, rfl, ?_⟩
        rw [hv]
        refine iteT ⟨.str (idF (F j) true), rfl, (by show 2 ≤ sizeLine; decide), fun p2 hp2 => ?_⟩
        have s7 := same_new (o := .tup [.str "clash", .str (idF (F j) true)]) hp2
        refine ⟨_, _, dp_head (.inl (s7 _ _ hp5)), dp_head (.inl upd_same), shaped_head ok_words.1 hid.1, shaped_head ok_words.1 hid.1, _, rfl, ifF (fun z => ?_) ?_⟩
        · rw [eqv_head, decide_eq_true rfl] at z
          cases z
        have f7 := f6.trans (FrL.same s7)
        have hdt7 := s7 _ _ hdt6
        have htb7 := s7 _ _ htb6
        refine ⟨.ref tb, rfl, tb, rfl, .inl ⟨_, .inl htb7⟩, .str (idF (F j) true), rfl, .ref us[j].1, rfl, kT t, .inr (idF (F j) true), htb7, rfl, small_lt (by rw [len_kT]; omega), fun v hv2 => ?_, fun hn => ?_⟩
        · rw [valV_kT, hv] at hv2
          cases hv2
          refine ⟨.ref S, rfl, .str (idF (F j) true), rfl, S, dx, _, rfl, (SS _ f7), S, dx, dt, true, t, idF (F j) true, .ref us[i].1, rfl, (SS _ f7), hdt7, by rw [hid.2]; decide, hid.1, hv, ?_⟩
          refine ⟨.ref tb, rfl, .str (idF (F j) true), rfl, tb, .ref us[i].1, rfl, by rw [← hv]; exact dget_kT (.inl htb7) _, ?_⟩
          refine ⟨us[i].1, us[i].1, us[i].2, us[i].2, F i, F i, rfl, rfl, OB _ f7 i (by omega), OB _ f7 i (by omega), ok i (by omega), ok i (by omega), fun H8 s8 => ⟨_, rfl, ifF (fun z => ?_) ?_⟩⟩
          · have z : (!decide (F i = F i)) = true := z
            rw [decide_eq_true rfl] at z
            cases z
          refine ⟨.ref S, rfl, S, dx, _, rfl, s8 _ _ (SS _ f7), S, dx, dt, true, t, rfl, s8 _ _ (SS _ f7), s8 _ _ hdt7, _, rfl, by skip; omega, .ref tb, rfl, tb, _, rfl, s8 _ _ htb7, rfl, _, rfl, ifF (fun z => ?_) ?_⟩
          · rw [len_kT, decide_eq_true rfl] at z
            cases z
          exact ⟨_, _, t, rfl, f7.trans (FrL.same s8), s8 _ _ hdt7, s8 _ _ htb7, by omega, fun x v z => by obtain ⟨i2, h1, h2, h3⟩ := inv x v z; exact ⟨i2, h1, by omega, h3⟩⟩
        · rw [valV_kT, hv] at hn
          cases hn
      · have f6 := f4.trans (f5.mono fun b hb => by rw [List.mem_singleton.mp hb]; exact List.mem_cons_self)
        have htb6 := f5 _ _ (fun z => ntb (List.mem_singleton.mp z).symm) htb4
        refine ⟨.str (idF (F j) true), rfl, .ref tb, rfl, tb, _, rfl, dget_kT (.inl htb6) _, _, rfl, ?_⟩
        rw [hv]
        refine iteF ⟨.str (idF (F j) true), rfl, (by show 2 ≤ sizeLine; decide), fun p2 hp2 => ?_⟩
        have s7 := same_new (o := .tup [.str "put", .str (idF (F j) true)]) hp2
        refine ⟨_, _, dp_head (.inl (s7 _ _ hp5)), dp_head (.inl upd_same), shaped_head ok_words.2 hid.1, shaped_head ok_words.2 hid.1, _, rfl, ifF (fun z => ?_) ?_⟩
        · rw [eqv_head, decide_eq_true rfl] at z
          cases z
        have f7 := f6.trans (FrL.same s7)
        have hdt7 := s7 _ _ hdt5
        have htb7 := s7 _ _ htb6
        refine ⟨.ref tb, rfl, tb, rfl, .inl ⟨_, .inl htb7⟩, .str (idF (F j) true), rfl, .ref us[j].1, rfl, kT t, .inr (idF (F j) true), htb7, rfl, small_lt (by rw [len_kT]; omega), fun v hv2 => ?_, fun hn => ?_⟩
        · rw [valV_kT, hv] at hv2
          cases hv2
        · rw [putK_kT]
          have lp := len_put t (idF (F j) true) (.ref us[j].1)
          have hvv : valV (putK t (idF (F j) true) (.ref us[j].1)) (idF (F j) true) = some (.ref us[j].1) := by rw [valV_put, if_pos rfl]
          have f8 := f7.trans (FrL.at (a := tb) (L := [dt, tb]) (o := .dK (kT (putK t (idF (F j) true) (.ref us[j].1)))) (List.mem_cons_of_mem _ (List.mem_singleton_self _)))
          have hdt8 : (upd (upd H5 p2 (.tup [.str "put", .str (idF (F j) true)])) tb (.dK (kT (putK t (idF (F j) true) (.ref us[j].1))))) dt = some (.dK (kT (putK t (idF (F j) true) (.ref us[j].1)))) := by rw [upd_ne ntb]; exact hdt7
          have htb8 : (upd (upd H5 p2 (.tup [.str "put", .str (idF (F j) true)])) tb (.dK (kT (putK t (idF (F j) true) (.ref us[j].1))))) tb = some (.dK (kT (putK t (idF (F j) true) (.ref us[j].1)))) := upd_same
          generalize upd (upd H5 p2 (.tup [.str "put", .str (idF (F j) true)])) tb (.dK (kT (putK t (idF (F j) true) (.ref us[j].1)))) = H7 at f8 hdt8 htb8 ⊢
          have inv8 : ∀ x v, valV (putK t (idF (F j) true) (.ref us[j].1)) x = some v → ∃ i, ∃ hi : i < us.length, i < j + 1 ∧ v = .ref us[i].1 ∧ x = idF (F i) true := fun x v z => by
            rw [valV_put] at z
            split at z
            · next e => exact ⟨j, hj, by omega, (Option.some.inj z).symm, e⟩
            · obtain ⟨i2, h1, h2, h3⟩ := inv x v z
              exact ⟨i2, h1, by omega, h3⟩
          refine ⟨.ref S, rfl, .str (idF (F j) true), rfl, S, dx, _, rfl, (SS _ f8), S, dx, dt, true, (putK t (idF (F j) true) (.ref us[j].1)), idF (F j) true, .ref us[j].1, rfl, (SS _ f8), hdt8, by rw [hid.2]; decide, hid.1, hvv, ?_⟩
          refine ⟨.ref tb, rfl, .str (idF (F j) true), rfl, tb, .ref us[j].1, rfl, by rw [← hvv]; exact dget_kT (.inl htb8) _, ?_⟩
          refine ⟨us[j].1, us[j].1, us[j].2, us[j].2, F j, F j, rfl, rfl, OB _ f8 j (by omega), OB _ f8 j (by omega), ok j (by omega), ok j (by omega), fun H8 s8 => ⟨_, rfl, ifF (fun z => ?_) ?_⟩⟩
          · have z : (!decide (F j = F j)) = true := z
            rw [decide_eq_true rfl] at z
            cases z
          refine ⟨.ref S, rfl, S, dx, _, rfl, s8 _ _ (SS _ f8), S, dx, dt, true, (putK t (idF (F j) true) (.ref us[j].1)), rfl, s8 _ _ (SS _ f8), s8 _ _ hdt8, _, rfl, by skip; omega, .ref tb, rfl, tb, _, rfl, s8 _ _ htb8, rfl, _, rfl, ifF (fun z => ?_) ?_⟩
          · rw [len_kT, decide_eq_true rfl] at z
            cases z
          exact ⟨_, _, (putK t (idF (F j) true) (.ref us[j].1)), rfl, f8.trans (FrL.same s8), s8 _ _ hdt8, s8 _ _ htb8, by omega, inv8⟩
    · obtain ⟨_, _, _, _, f, _⟩ := I
      exact q H' fun b o n e => f.out (f3 _ _ n (s12 _ _ e)) (fun y hy z => by
        rw [z] at e
        rcases List.mem_cons.mp hy with hy | hy
        · rw [hy, hdt] at e; cases e
        · rw [List.mem_singleton.mp hy, htbH] at e; cases e)
end

end Fk

set_option maxHeartbeats 4000000
namespace Fk
open PySem PySem.Spec PyProof.Rows L2
section
variable {P : Program} {w : World} {K : PySem.W.Frag} {mg : Str → Option Value} {base : Heap} {c : C4} {CS cX iX ek pd : Addr}
def spLaw (K : PySem.W.Frag) : Sp := fun vs H Q _ => ∃ (a : Addr) (ns : List Int), vs = [.ref a] ∧ SqL K H a (ns.map V.int) ∧ ns.length ≤ 63 ∧ ∀ H', Q (.bl true) H'
theorem cells_int {v : Int} {ns : List Int} {lo hi : Option Int} {x : V} (h : x ∈ [V.int v] ++ cutV (ns.map V.int) lo hi) : ∃ n, x = .int n := by
  rcases List.mem_append.mp h with h | h
  · exact ⟨v, List.mem_singleton.mp h⟩
  · obtain ⟨m, e⟩ := cutV_map ns V.int lo hi
    rw [e] at h
    obtain ⟨n, _, rfl⟩ := List.mem_map.mp h
    exact ⟨n, rfl⟩
theorem ok_law (T : TopO K mg c CS cX iX ek pd) {f : Addr} {fd : FuncData} (F : C8.Fun K "law" "law" s_law f fd) : FnOk P w K mg base C8.CX0 10 f fd ["_law_script"] (spLaw K) := by
  refine C8.fn0 F sc_law (fun vs H Q E h => ?_) (fun cdv A outer s H vs Q E hr h => ?_)
  · obtain ⟨a, zs, rfl, _⟩ := h
    rfl
  · obtain ⟨a, zs, rfl, hS, hlen, q⟩ := h
    refine ⟨_, (pss_cons (ps_for PassesOwn.never rfl (pi_list (pe_op op_cat (pe_lst (pa_cons (C8.pe_c (c_l_cell_at T.toTop) hr (by decide) (by rfl) (pa_cons (pv 0) (pa_cons pe_int pa_nil))) pa_nil)) (pe_slice sl_list (pv 0) (po_some pe_int) (po_some pe_int)))) (pg_name (i := 1) sc_law.nd rfl (Or.inl rfl))
      (pss_cons (ps_set (i := 2) sc_law.nd rfl (Or.inl rfl) (C8.pe_c (c_l_well T.toTop) hr (by decide) (by rfl) (pa_cons (pv 1) pa_nil)))
      (pss_cons (ps_set (i := 3) sc_law.nd rfl (Or.inl rfl) (pe_op op_cat (C8.pe_c (c_l_trees T) hr (by decide) (by rfl) (pa_cons (pv 2) pa_nil)) (C8.pe_c (c_l_commits T) hr (by decide) (by rfl) (pa_cons (pv 2) pa_nil))))
      (pss_cons (ps_for PassesOwn.never rfl (pi_list (pe_op op_cat (pv 3) (C8.pe_c (c_l_rest T) hr (by decide) (by rfl) (pa_cons (pv 2) pa_nil)))) (pg_tup rfl (pgs_cons (pg_name (i := 4) sc_law.nd rfl (Or.inl rfl)) (pgs_cons (pg_name (i := 5) sc_law.nd rfl (Or.inl rfl)) pgs_nil)))
      (pss_one (ps_if (PW.pt (pw_or (pt_cmpR (op_obEq T (hr.mono (by decide))) (pv 4) (pv 5) (nomark _)) (pw_or (pt_cmpR (op_obEq T (hr.mono (by decide))) (pv 5) (pv 4) (nomark _)) (pw_or (pt_not (pt_cmpR (op_obEq T (hr.mono (by decide))) (pv 4) (C8.pe_c (c_l_copy T) hr (by decide) (by rfl) (pa_cons (pv 4) pa_nil)) (nomark _))) (pw_or1 (pt_not (pt_cmpR (op_obEq T (hr.mono (by decide))) (C8.pe_c (c_l_copy T) hr (by decide) (by rfl) (pa_cons (pv 5) pa_nil)) (pv 5) (nomark _))))))))
      (pss_one (ps_ret pe_bl))
      pss_nil)))
      (pss_one (ps_if (pt_not (pt_val (C8.pe_c (c_l_kin_right T) hr (by decide) (by rfl) (pa_cons (pv 2) pa_nil))))
      (pss_one (ps_ret pe_bl))
      pss_nil))))))
      (pss_one (ps_ret pe_bl))), ?_⟩
    refine ⟨.ref a, rfl, a, zs, 0, rfl, hS, fun v => ⟨(by show 1 ≤ sizeLine; decide), fun p1 n1 => ?_⟩⟩
    have s2 := same_new (o := .lst [V.int v]) n1
    have h1 : (upd H p1 (.lst [V.int v])) p1 = some (.lst [V.int v]) := upd_same
    generalize upd H p1 (.lst [V.int v]) = H2 at s2 h1 ⊢
    refine ⟨.ref a, rfl, 1, rfl, 5, rfl, a, zs.map V.int, rfl, s2.seq hS, fun p2 n2 => ?_⟩
    have s3 := same_new (o := .lst (cutV (zs.map V.int) (some 1) (some 5))) n2
    have h2 : (upd H2 p2 (.lst (cutV (zs.map V.int) (some 1) (some 5)))) p2 = some (.lst (cutV (zs.map V.int) (some 1) (some 5))) := upd_same
    generalize upd H2 p2 (.lst (cutV (zs.map V.int) (some 1) (some 5))) = H3 at s3 h2 ⊢
    refine ⟨p1, p2, _, _, rfl, rfl, s3 _ _ h1, h2, ?_, fun L nLL => ?_⟩
    · have := cutV_length (zs.map V.int) (some 1) (some 5)
      rw [List.length_map] at this
      exact small_line (by simp only [List.length_cons, List.length_nil]; omega)
    have h4 : (upd H3 L (.lst ([V.int v] ++ cutV (zs.map V.int) (some 1) (some 5)))) L = some (.lst ([V.int v] ++ cutV (zs.map V.int) (some 1) (some 5))) := upd_same
    generalize upd H3 L (.lst ([V.int v] ++ cutV (zs.map V.int) (some 1) (some 5))) = H4 at h4 ⊢
    refine ⟨L, rfl, ⟨_, SqL.of h4⟩, ?_⟩
    refine forG (items := [V.int v] ++ cutV (zs.map V.int) (some 1) (some 5)) yields_list (fun i σ H' => Same H4 H' ∧ ∃ z1 z2 z3 z4 z5, σ = [some (.ref a), z1, z2, z3, z4, z5])
      ⟨Same.refl _, none, none, none, none, none, rfl⟩ (fun i σ H' I => SqL.of (I.1 _ _ h4)) (fun i x σ H' hi I => ?_) (fun σ H' I => ?_)
    · obtain ⟨s5, z1, z2, z3, z4, z5, rfl⟩ := I
      obtain ⟨n, rfl⟩ := cells_int (List.mem_of_getElem? hi)
      refine ⟨.int n, rfl, n, rfl, fun H5 W nW s6 w5 => ?_⟩
      have s45 := s5.trans s6
      have nW4 : H4 W = none := s5.free nW
      refine ⟨.ref W, rfl, W, 0, rfl, w5, by decide, fun r1 xs1 lx1 H6 k6 f6 w6 c1 c2 e1 g1 ps1 => ⟨.ref W, rfl, W, k6, rfl, w6, by omega, fun r2 xs2 lx2 H7 k7 f7 w7 c3 c4 e2 g2 ps2 => ⟨r1, r2, xs1, xs2, rfl, rfl, f7 _ _ e1 g1, g2, small_line (by omega), fun r3 hr3 => ?_⟩⟩⟩
      have s8 := same_new (o := .lst (xs1 ++ xs2)) hr3
      have ps8 : ∀ v ∈ xs1 ++ xs2, PairAt K c (upd H7 r3 (.lst (xs1 ++ xs2))) v := fun v hv => by
        rcases List.mem_append.mp hv with z | z
        · exact ((ps1 v z).kp (Kp.wl w6 f7)).kp (Kp.same s8)
        · exact (ps2 v z).kp (Kp.same s8)
      have g8 : (upd H7 r3 (.lst (xs1 ++ xs2))) r3 = some (.lst (xs1 ++ xs2)) := upd_same
      have w8 := w7.same s8
      have e3 := w7.ne hr3
      have s48 := (Same.of_fr nW4 s45 (f6.trans f7)).trans s8
      have lx : (xs1 ++ xs2).length ≤ 40 := by rw [List.length_append]; omega
      generalize xs1 ++ xs2 = xs at ps8 g8 w8 s48 lx ⊢
      generalize upd H7 r3 (.lst xs) = H8 at ps8 g8 w8 s48 ⊢
      refine ⟨.ref r3, rfl, .ref W, rfl, W, k7, rfl, w8, by omega, fun r4 xs4 lx4 H9 k9 f9 w9 c5 c6 e4 g4 ps4 => ⟨r3, r4, xs, xs4, rfl, rfl, f9 _ _ e3 g8, g4, small_line (by omega), fun r5 hr5 => ?_⟩⟩
      have s10 := same_new (o := .lst (xs ++ xs4)) hr5
      have ps10 : ∀ v ∈ xs ++ xs4, PairAt K c (upd H9 r5 (.lst (xs ++ xs4))) v := fun v hv => by
        rcases List.mem_append.mp hv with z | z
        · exact ((ps8 v z).kp (Kp.wl w8 f9)).kp (Kp.same s10)
        · exact (ps4 v z).kp (Kp.same s10)
      have g10 : (upd H9 r5 (.lst (xs ++ xs4))) r5 = some (.lst (xs ++ xs4)) := upd_same
      have w10 := w9.same s10
      have s410 := (Same.of_fr nW4 s48 f9).trans s10
      generalize xs ++ xs4 = ys at ps10 g10 w10 s410 ⊢
      generalize upd H9 r5 (.lst ys) = H10 at ps10 g10 w10 s410 ⊢
      refine ⟨r5, rfl, ⟨_, SqL.of g10⟩, ?_⟩
      refine forG (items := ys) yields_list (fun i σ H' => Same H10 H' ∧ ∃ y4 y5, σ = [some (.ref a), some (.int n), some (.ref W), some (.ref r3), y4, y5]) ⟨Same.refl _, _, _, rfl⟩ (fun i σ H' I => SqL.of (I.1 _ _ g10)) (fun i v σ H' hi I => ?_) (fun σ H' I => ?_)
      · obtain ⟨s11, y4, y5, rfl⟩ := I
        obtain ⟨p, a1, d1, a2, d2, o1, o2, rfl, hp, b1, b2, k1, k2', ne⟩ := (ps10 v (List.mem_of_getElem? hi)).kp (Kp.same s11)
        have no : ∀ {x y : Ob}, x ≠ y → ¬ (decide (x = y)) = true := fun h z => h (of_decide_eq_true z)
        have yes : ∀ {x : Ob}, ¬ (!decide (x = x)) = true := fun z => by rw [decide_eq_true rfl] at z; cases z
        refine ⟨p, _, rfl, SqT.of hp, rfl, .ref a1, _, rfl, .ref a2, _, rfl, rfl, ?_⟩
        refine ⟨.ref a1, rfl, .ref a2, rfl, a1, a2, d1, d2, o1, o2, rfl, rfl, b1, b2, k1, k2', fun J1 t1 => ⟨_, rfl, ifF (no ne) ?_⟩⟩
        have b1 := b1.same t1
        have b2 := b2.same t1
        refine ⟨.ref a2, rfl, .ref a1, rfl, a2, a1, d2, d1, o2, o1, rfl, rfl, b2, b1, k2', k1, fun J2 t2 => ⟨_, rfl, ifF (no ne.symm) ?_⟩⟩
        have b1 := b1.same t2
        have b2 := b2.same t2
        refine ⟨.ref a1, rfl, .ref a1, rfl, a1, d1, o1, rfl, b1, k1, fun b d J3 t3 o3 => ⟨a1, b, d1, d, o1, o1, rfl, rfl, b1.same t3, o3, k1, k1, fun J4 t4 => ⟨_, rfl, ifF yes ?_⟩⟩⟩
        have b2 := (b2.same t3).same t4
        refine ⟨.ref a2, rfl, a2, d2, o2, rfl, b2, k2', fun b d J5 t5 o5 => ⟨.ref a2, rfl, b, a2, d, d2, o2, o2, rfl, rfl, o5, b2.same t5, k2', k2', fun J6 t6 => ⟨_, rfl, ifF yes ?_⟩⟩⟩
        exact ⟨s11.trans (t1.trans (t2.trans (t3.trans (t4.trans (t5.trans t6))))), _, _, rfl⟩
      · obtain ⟨s11, y4, y5, rfl⟩ := I
        refine ⟨.ref W, rfl, W, k9, rfl, w10.same s11, by omega, fun J fJ => ⟨true, rfl, ifF (fun z => by cases z) ?_⟩⟩
        exact ⟨Same.of_fr nW4 (s410.trans s11) fJ, _, _, _, _, _, rfl⟩
    · exact q H'
end

end Fk

set_option maxHeartbeats 4000000
namespace Fk
open PySem PySem.Spec PyProof.Rows L2
section
variable {P : Program} {w : World} {K : PySem.W.Frag} {mg : Str → Option Value} {base : Heap}
theorem ini_Clash {f : Addr} {fd : FuncData} (F : C8.Fun K "__init__" "Clash.__init__" s_Clash_init f fd) : FnOk P w K mg base C8.CX0 1 f fd ["self", "name"] (spErr K "name") := by
  refine C8.fn0 F sc_Clash_init (fun vs H Q E h => ?_) (fun cdv A outer s H vs Q E hr h => ?_)
  · obtain ⟨a, C, fI, y, rfl, _⟩ := h
    rfl
  · obtain ⟨a, C, fI, y, rfl, T, hno, ea, q⟩ := h
    refine ⟨_, pss_one (ps_osv (pv 0) (pv 1)), ?_⟩
    exact ⟨y, rfl, .ref a, rfl, a, C, fI, rfl, T, hno, ea, q⟩
end
theorem all_mk {l : PySem.W.OpenLaw} {w : World} {K : PySem.W.Frag} {h : Heap} {mg : Str → Option Value} {fa : Addr} (X : K.In h) (G : h.Ns mainGlobals mg) (hfa : mg "law" = some (.ref fa))
    {f1 f2 f3 f4 f5 f6 f7 f8 f9 f10 f11 f12 f13 f14 f15 f16 f17 f18 f19 f20 f21 f22 f23 f24 f25 f26 f27 f28 f29 f30 f31 f32 : Addr} {od1 an1 od2 an2 od3 an3 od4 an4 od5 an5 od6 an6 od7 an7 od8 an8 od9 an9 od10 an10 od11 an11 od12 an12 od13 an13 od14 an14 od15 an15 od16 an16 od17 an17 od18 an18 od19 an19 od20 an20 od21 an21 od22 an22 od23 an23 od24 an24 od25 an25 od26 an26 od27 an27 od28 an28 od29 an29 od30 an30 od31 an31 od32 an32 : Option Addr} {sl1 sl2 sl3 sl4 sl5 sl6 sl7 sl8 sl9 sl10 sl11 sl12 sl13 sl14 sl15 sl16 sl17 sl18 sl19 sl20 sl21 sl22 sl23 sl24 sl25 sl26 sl27 sl28 sl29 sl30 sl31 sl32 : Array (Option Value)} {oc1 kV1 dc1 pm1 cd1 ct1 oc2 kV2 dc2 pm2 cd2 ct2 oc3 kV3 dc3 pm3 cd3 ct3 oc4 kV4 dc4 pm4 cd4 ct4 oc5 kV5 dc5 pm5 cd5 ct5 oc6 kV6 dc6 pm6 cd6 ct6 oc7 kV7 dc7 pm7 cd7 ct7 oc8 kV8 dc8 pm8 cd8 ct8 oc9 kV9 dc9 pm9 cd9 ct9 oc10 kV10 dc10 pm10 cd10 ct10 oc11 kV11 dc11 pm11 cd11 ct11 oc12 kV12 dc12 pm12 cd12 ct12 oc13 kV13 dc13 pm13 cd13 ct13 oc14 kV14 dc14 pm14 cd14 ct14 oc15 kV15 dc15 pm15 cd15 ct15 oc16 kV16 dc16 pm16 cd16 ct16 oc17 kV17 dc17 pm17 cd17 ct17 oc18 kV18 dc18 pm18 cd18 ct18 oc19 kV19 dc19 pm19 cd19 ct19 oc20 kV20 dc20 pm20 cd20 ct20 oc21 kV21 dc21 pm21 cd21 ct21 oc22 kV22 dc22 pm22 cd22 ct22 oc23 kV23 dc23 pm23 cd23 ct23 oc24 kV24 dc24 pm24 cd24 ct24 oc25 kV25 dc25 pm25 cd25 ct25 oc26 kV26 dc26 pm26 cd26 ct26 oc27 kV27 dc27 pm27 cd27 ct27 oc28 kV28 dc28 pm28 cd28 ct28 oc29 kV29 dc29 pm29 cd29 ct29 oc30 kV30 dc30 pm30 cd30 ct30 oc31 kV31 dc31 pm31 cd31 ct31 oc32 kV32 dc32 pm32 cd32 ct32 : Value} {t_HEX_DIGITS : Tok} {t_LETTERS : Tok} {t_SEGMENT_SIGNS : Tok} {t_LONGEST_WORD : Tok} {t_LONGEST_TEXT : Tok} {t_LONGEST_MESSAGE : Tok} {t_LATEST : Tok} {t_MOST_ENTRIES : Tok} {t_MOST_PARENTS : Tok} {t_LONG_MODULUS : Tok} {t_SHORT_MODULUS : Tok} {t_FACTOR : Tok} {t_FACTOR_2 : Tok} {t_FACTOR_4 : Tok} {t_FACTOR_8 : Tok} {t_ONES_8 : Tok} {t_BLOCK : Tok}
    (a1 : PySem.W.nsIn K mainGlobals "is_id" = some (some (.ref f1))) (l1 : K.lookup f1 = some ⟨oc1, od1, .func (PySem.W.fnOf "is_id" "is_id" (C8.fnArgs s_is_id) (C8.fnBody s_is_id) (C8.fnScope s_is_id) .none kV1 dc1 pm1 an1 cd1 ct1), sl1⟩) (c1 : PySem.W.codeIn K cd1 "is_id" = true) (k1 : PySem.W.keepIn K (.ref f1) = true)
    (a2 : PySem.W.nsIn K mainGlobals "is_segment" = some (some (.ref f2))) (l2 : K.lookup f2 = some ⟨oc2, od2, .func (PySem.W.fnOf "is_segment" "is_segment" (C8.fnArgs s_is_segment) (C8.fnBody s_is_segment) (C8.fnScope s_is_segment) .none kV2 dc2 pm2 an2 cd2 ct2), sl2⟩) (c2 : PySem.W.codeIn K cd2 "is_segment" = true) (k2 : PySem.W.keepIn K (.ref f2) = true)
    (a3 : PySem.W.nsIn K mainGlobals "is_author" = some (some (.ref f3))) (l3 : K.lookup f3 = some ⟨oc3, od3, .func (PySem.W.fnOf "is_author" "is_author" (C8.fnArgs s_is_author) (C8.fnBody s_is_author) (C8.fnScope s_is_author) .none kV3 dc3 pm3 an3 cd3 ct3), sl3⟩) (c3 : PySem.W.codeIn K cd3 "is_author" = true) (k3 : PySem.W.keepIn K (.ref f3) = true)
    (a4 : PySem.W.nsIn K mainGlobals "is_text" = some (some (.ref f4))) (l4 : K.lookup f4 = some ⟨oc4, od4, .func (PySem.W.fnOf "is_text" "is_text" (C8.fnArgs s_is_text) (C8.fnBody s_is_text) (C8.fnScope s_is_text) .none kV4 dc4 pm4 an4 cd4 ct4), sl4⟩) (c4 : PySem.W.codeIn K cd4 "is_text" = true) (k4 : PySem.W.keepIn K (.ref f4) = true)
    (a5 : PySem.W.nsIn K mainGlobals "is_message" = some (some (.ref f5))) (l5 : K.lookup f5 = some ⟨oc5, od5, .func (PySem.W.fnOf "is_message" "is_message" (C8.fnArgs s_is_message) (C8.fnBody s_is_message) (C8.fnScope s_is_message) .none kV5 dc5 pm5 an5 cd5 ct5), sl5⟩) (c5 : PySem.W.codeIn K cd5 "is_message" = true) (k5 : PySem.W.keepIn K (.ref f5) = true)
    (a6 : PySem.W.nsIn K mainGlobals "is_time" = some (some (.ref f6))) (l6 : K.lookup f6 = some ⟨oc6, od6, .func (PySem.W.fnOf "is_time" "is_time" (C8.fnArgs s_is_time) (C8.fnBody s_is_time) (C8.fnScope s_is_time) .none kV6 dc6 pm6 an6 cd6 ct6), sl6⟩) (c6 : PySem.W.codeIn K cd6 "is_time" = true) (k6 : PySem.W.keepIn K (.ref f6) = true)
    (a7 : PySem.W.nsIn K mainGlobals "is_count" = some (some (.ref f7))) (l7 : K.lookup f7 = some ⟨oc7, od7, .func (PySem.W.fnOf "is_count" "is_count" (C8.fnArgs s_is_count) (C8.fnBody s_is_count) (C8.fnScope s_is_count) .none kV7 dc7 pm7 an7 cd7 ct7), sl7⟩) (c7 : PySem.W.codeIn K cd7 "is_count" = true) (k7 : PySem.W.keepIn K (.ref f7) = true)
    (a8 : PySem.W.nsIn K mainGlobals "are_ids" = some (some (.ref f8))) (l8 : K.lookup f8 = some ⟨oc8, od8, .func (PySem.W.fnOf "are_ids" "are_ids" (C8.fnArgs s_are_ids) (C8.fnBody s_are_ids) (C8.fnScope s_are_ids) .none kV8 dc8 pm8 an8 cd8 ct8), sl8⟩) (c8 : PySem.W.codeIn K cd8 "are_ids" = true) (k8 : PySem.W.keepIn K (.ref f8) = true)
    (a9 : PySem.W.nsIn K mainGlobals "ascending" = some (some (.ref f9))) (l9 : K.lookup f9 = some ⟨oc9, od9, .func (PySem.W.fnOf "ascending" "ascending" (C8.fnArgs s_ascending) (C8.fnBody s_ascending) (C8.fnScope s_ascending) .none kV9 dc9 pm9 an9 cd9 ct9), sl9⟩) (c9 : PySem.W.codeIn K cd9 "ascending" = true) (k9 : PySem.W.keepIn K (.ref f9) = true)
    (a10 : PySem.W.nsIn K mainGlobals "_is_word" = some (some (.ref f10))) (l10 : K.lookup f10 = some ⟨oc10, od10, .func (PySem.W.fnOf "_is_word" "_is_word" (C8.fnArgs s__is_word) (C8.fnBody s__is_word) (C8.fnScope s__is_word) .none kV10 dc10 pm10 an10 cd10 ct10), sl10⟩) (c10 : PySem.W.codeIn K cd10 "_is_word" = true) (k10 : PySem.W.keepIn K (.ref f10) = true)
    (a11 : PySem.W.nsIn K mainGlobals "is_value" = some (some (.ref f11))) (l11 : K.lookup f11 = some ⟨oc11, od11, .func (PySem.W.fnOf "is_value" "is_value" (C8.fnArgs s_is_value) (C8.fnBody s_is_value) (C8.fnScope s_is_value) .none kV11 dc11 pm11 an11 cd11 ct11), sl11⟩) (c11 : PySem.W.codeIn K cd11 "is_value" = true) (k11 : PySem.W.keepIn K (.ref f11) = true)
    (a12 : PySem.W.nsIn K mainGlobals "encode" = some (some (.ref f12))) (l12 : K.lookup f12 = some ⟨oc12, od12, .func (PySem.W.fnOf "encode" "encode" (C8.fnArgs s_encode) (C8.fnBody s_encode) (C8.fnScope s_encode) .none kV12 dc12 pm12 an12 cd12 ct12), sl12⟩) (c12 : PySem.W.codeIn K cd12 "encode" = true) (k12 : PySem.W.keepIn K (.ref f12) = true)
    (a13 : PySem.W.nsIn K mainGlobals "sum_of" = some (some (.ref f13))) (l13 : K.lookup f13 = some ⟨oc13, od13, .func (PySem.W.fnOf "sum_of" "sum_of" (C8.fnArgs s_sum_of) (C8.fnBody s_sum_of) (C8.fnScope s_sum_of) .none kV13 dc13 pm13 an13 cd13 ct13), sl13⟩) (c13 : PySem.W.codeIn K cd13 "sum_of" = true) (k13 : PySem.W.keepIn K (.ref f13) = true)
    (a14 : PySem.W.nsIn K mainGlobals "id_of" = some (some (.ref f14))) (l14 : K.lookup f14 = some ⟨oc14, od14, .func (PySem.W.fnOf "id_of" "id_of" (C8.fnArgs s_id_of) (C8.fnBody s_id_of) (C8.fnScope s_id_of) .none kV14 dc14 pm14 an14 cd14 ct14), sl14⟩) (c14 : PySem.W.codeIn K cd14 "id_of" = true) (k14 : PySem.W.keepIn K (.ref f14) = true)
    (a15 : PySem.W.nsIn K mainGlobals "_number_behind" = some (some (.ref f15))) (l15 : K.lookup f15 = some ⟨oc15, od15, .func (PySem.W.fnOf "_number_behind" "_number_behind" (C8.fnArgs s__number_behind) (C8.fnBody s__number_behind) (C8.fnScope s__number_behind) .none kV15 dc15 pm15 an15 cd15 ct15), sl15⟩) (c15 : PySem.W.codeIn K cd15 "_number_behind" = true) (k15 : PySem.W.keepIn K (.ref f15) = true)
    (a16 : PySem.W.nsIn K mainGlobals "_law_cell_at" = some (some (.ref f16))) (l16 : K.lookup f16 = some ⟨oc16, od16, .func (PySem.W.fnOf "_law_cell_at" "_law_cell_at" (C8.fnArgs s_l_cell_at) (C8.fnBody s_l_cell_at) (C8.fnScope s_l_cell_at) .none kV16 dc16 pm16 an16 cd16 ct16), sl16⟩) (c16 : PySem.W.codeIn K cd16 "_law_cell_at" = true) (k16 : PySem.W.keepIn K (.ref f16) = true)
    (a17 : PySem.W.nsIn K mainGlobals "_law_well" = some (some (.ref f17))) (l17 : K.lookup f17 = some ⟨oc17, od17, .func (PySem.W.fnOf "_law_well" "_law_well" (C8.fnArgs s_l_well) (C8.fnBody s_l_well) (C8.fnScope s_l_well) .none kV17 dc17 pm17 an17 cd17 ct17), sl17⟩) (c17 : PySem.W.codeIn K cd17 "_law_well" = true) (k17 : PySem.W.keepIn K (.ref f17) = true)
    (a18 : PySem.W.nsIn K mainGlobals "_law_draw" = some (some (.ref f18))) (l18 : K.lookup f18 = some ⟨oc18, od18, .func (PySem.W.fnOf "_law_draw" "_law_draw" (C8.fnArgs s_l_draw) (C8.fnBody s_l_draw) (C8.fnScope s_l_draw) .none kV18 dc18 pm18 an18 cd18 ct18), sl18⟩) (c18 : PySem.W.codeIn K cd18 "_law_draw" = true) (k18 : PySem.W.keepIn K (.ref f18) = true)
    (a19 : PySem.W.nsIn K mainGlobals "_law_pick" = some (some (.ref f19))) (l19 : K.lookup f19 = some ⟨oc19, od19, .func (PySem.W.fnOf "_law_pick" "_law_pick" (C8.fnArgs s_l_pick) (C8.fnBody s_l_pick) (C8.fnScope s_l_pick) .none kV19 dc19 pm19 an19 cd19 ct19), sl19⟩) (c19 : PySem.W.codeIn K cd19 "_law_pick" = true) (k19 : PySem.W.keepIn K (.ref f19) = true)
    (a20 : PySem.W.nsIn K mainGlobals "_law_word" = some (some (.ref f20))) (l20 : K.lookup f20 = some ⟨oc20, od20, .func (PySem.W.fnOf "_law_word" "_law_word" (C8.fnArgs s_l_word) (C8.fnBody s_l_word) (C8.fnScope s_l_word) .none kV20 dc20 pm20 an20 cd20 ct20), sl20⟩) (c20 : PySem.W.codeIn K cd20 "_law_word" = true) (k20 : PySem.W.keepIn K (.ref f20) = true)
    (a21 : PySem.W.nsIn K mainGlobals "_law_bent" = some (some (.ref f21))) (l21 : K.lookup f21 = some ⟨oc21, od21, .func (PySem.W.fnOf "_law_bent" "_law_bent" (C8.fnArgs s_l_bent) (C8.fnBody s_l_bent) (C8.fnScope s_l_bent) .none kV21 dc21 pm21 an21 cd21 ct21), sl21⟩) (c21 : PySem.W.codeIn K cd21 "_law_bent" = true) (k21 : PySem.W.keepIn K (.ref f21) = true)
    (a22 : PySem.W.nsIn K mainGlobals "_law_hex" = some (some (.ref f22))) (l22 : K.lookup f22 = some ⟨oc22, od22, .func (PySem.W.fnOf "_law_hex" "_law_hex" (C8.fnArgs s_l_hex) (C8.fnBody s_l_hex) (C8.fnScope s_l_hex) .none kV22 dc22 pm22 an22 cd22 ct22), sl22⟩) (c22 : PySem.W.codeIn K cd22 "_law_hex" = true) (k22 : PySem.W.keepIn K (.ref f22) = true)
    (a23 : PySem.W.nsIn K mainGlobals "_law_small" = some (some (.ref f23))) (l23 : K.lookup f23 = some ⟨oc23, od23, .func (PySem.W.fnOf "_law_small" "_law_small" (C8.fnArgs s_l_small) (C8.fnBody s_l_small) (C8.fnScope s_l_small) .none kV23 dc23 pm23 an23 cd23 ct23), sl23⟩) (c23 : PySem.W.codeIn K cd23 "_law_small" = true) (k23 : PySem.W.keepIn K (.ref f23) = true)
    (a24 : PySem.W.nsIn K mainGlobals "_law_trees" = some (some (.ref f24))) (l24 : K.lookup f24 = some ⟨oc24, od24, .func (PySem.W.fnOf "_law_trees" "_law_trees" (C8.fnArgs s_l_trees) (C8.fnBody s_l_trees) (C8.fnScope s_l_trees) .none kV24 dc24 pm24 an24 cd24 ct24), sl24⟩) (c24 : PySem.W.codeIn K cd24 "_law_trees" = true) (k24 : PySem.W.keepIn K (.ref f24) = true)
    (a25 : PySem.W.nsIn K mainGlobals "_law_commit" = some (some (.ref f25))) (l25 : K.lookup f25 = some ⟨oc25, od25, .func (PySem.W.fnOf "_law_commit" "_law_commit" (C8.fnArgs s_l_commit) (C8.fnBody s_l_commit) (C8.fnScope s_l_commit) .none kV25 dc25 pm25 an25 cd25 ct25), sl25⟩) (c25 : PySem.W.codeIn K cd25 "_law_commit" = true) (k25 : PySem.W.keepIn K (.ref f25) = true)
    (a26 : PySem.W.nsIn K mainGlobals "_law_commits" = some (some (.ref f26))) (l26 : K.lookup f26 = some ⟨oc26, od26, .func (PySem.W.fnOf "_law_commits" "_law_commits" (C8.fnArgs s_l_commits) (C8.fnBody s_l_commits) (C8.fnScope s_l_commits) .none kV26 dc26 pm26 an26 cd26 ct26), sl26⟩) (c26 : PySem.W.codeIn K cd26 "_law_commits" = true) (k26 : PySem.W.keepIn K (.ref f26) = true)
    (a27 : PySem.W.nsIn K mainGlobals "_law_rest" = some (some (.ref f27))) (l27 : K.lookup f27 = some ⟨oc27, od27, .func (PySem.W.fnOf "_law_rest" "_law_rest" (C8.fnArgs s_l_rest) (C8.fnBody s_l_rest) (C8.fnScope s_l_rest) .none kV27 dc27 pm27 an27 cd27 ct27), sl27⟩) (c27 : PySem.W.codeIn K cd27 "_law_rest" = true) (k27 : PySem.W.keepIn K (.ref f27) = true)
    (a28 : PySem.W.nsIn K mainGlobals "_law_copy" = some (some (.ref f28))) (l28 : K.lookup f28 = some ⟨oc28, od28, .func (PySem.W.fnOf "_law_copy" "_law_copy" (C8.fnArgs s_l_copy) (C8.fnBody s_l_copy) (C8.fnScope s_l_copy) .none kV28 dc28 pm28 an28 cd28 ct28), sl28⟩) (c28 : PySem.W.codeIn K cd28 "_law_copy" = true) (k28 : PySem.W.keepIn K (.ref f28) = true)
    (a29 : PySem.W.nsIn K mainGlobals "_law_kin" = some (some (.ref f29))) (l29 : K.lookup f29 = some ⟨oc29, od29, .func (PySem.W.fnOf "_law_kin" "_law_kin" (C8.fnArgs s_l_kin) (C8.fnBody s_l_kin) (C8.fnScope s_l_kin) .none kV29 dc29 pm29 an29 cd29 ct29), sl29⟩) (c29 : PySem.W.codeIn K cd29 "_law_kin" = true) (k29 : PySem.W.keepIn K (.ref f29) = true)
    (a30 : PySem.W.nsIn K mainGlobals "_law_told" = some (some (.ref f30))) (l30 : K.lookup f30 = some ⟨oc30, od30, .func (PySem.W.fnOf "_law_told" "_law_told" (C8.fnArgs s_l_told) (C8.fnBody s_l_told) (C8.fnScope s_l_told) .none kV30 dc30 pm30 an30 cd30 ct30), sl30⟩) (c30 : PySem.W.codeIn K cd30 "_law_told" = true) (k30 : PySem.W.keepIn K (.ref f30) = true)
    (a31 : PySem.W.nsIn K mainGlobals "_law_kin_right" = some (some (.ref f31))) (l31 : K.lookup f31 = some ⟨oc31, od31, .func (PySem.W.fnOf "_law_kin_right" "_law_kin_right" (C8.fnArgs s_l_kin_right) (C8.fnBody s_l_kin_right) (C8.fnScope s_l_kin_right) .none kV31 dc31 pm31 an31 cd31 ct31), sl31⟩) (c31 : PySem.W.codeIn K cd31 "_law_kin_right" = true) (k31 : PySem.W.keepIn K (.ref f31) = true)
    (a32 : PySem.W.nsIn K mainGlobals "law" = some (some (.ref f32))) (l32 : K.lookup f32 = some ⟨oc32, od32, .func (PySem.W.fnOf "law" "law" (C8.fnArgs s_law) (C8.fnBody s_law) (C8.fnScope s_law) .none kV32 dc32 pm32 an32 cd32 ct32), sl32⟩) (c32 : PySem.W.codeIn K cd32 "law" = true) (k32 : PySem.W.keepIn K (.ref f32) = true)
    (z_KeyError : PySem.W.nsIn K mainGlobals "KeyError" = some none)
    (z_TypeError : PySem.W.nsIn K mainGlobals "TypeError" = some none)
    (z_ValueError : PySem.W.nsIn K mainGlobals "ValueError" = some none)
    (z_all : PySem.W.nsIn K mainGlobals "all" = some none)
    (z_bool : PySem.W.nsIn K mainGlobals "bool" = some none)
    (z_bytes : PySem.W.nsIn K mainGlobals "bytes" = some none)
    (z_dict : PySem.W.nsIn K mainGlobals "dict" = some none)
    (z_int : PySem.W.nsIn K mainGlobals "int" = some none)
    (z_isinstance : PySem.W.nsIn K mainGlobals "isinstance" = some none)
    (z_iter : PySem.W.nsIn K mainGlobals "iter" = some none)
    (z_len : PySem.W.nsIn K mainGlobals "len" = some none)
    (z_list : PySem.W.nsIn K mainGlobals "list" = some none)
    (z_range : PySem.W.nsIn K mainGlobals "range" = some none)
    (z_set : PySem.W.nsIn K mainGlobals "set" = some none)
    (z_sorted : PySem.W.nsIn K mainGlobals "sorted" = some none)
    (z_str : PySem.W.nsIn K mainGlobals "str" = some none)
    (z_tuple : PySem.W.nsIn K mainGlobals "tuple" = some none)
    (z_zip : PySem.W.nsIn K mainGlobals "zip" = some none)
    (g_HEX_DIGITS : PySem.W.nsIn K mainGlobals "HEX_DIGITS" = some (some (.str (Str.ofString "0123456789abcdef") t_HEX_DIGITS)))
    (g_LETTERS : PySem.W.nsIn K mainGlobals "LETTERS" = some (some (.str (Str.ofString "abcdefghijklmnopqrstuvwxyz") t_LETTERS)))
    (g_SEGMENT_SIGNS : PySem.W.nsIn K mainGlobals "SEGMENT_SIGNS" = some (some (.str (Str.ofString "abcdefghijklmnopqrstuvwxyz0123456789._-") t_SEGMENT_SIGNS)))
    (g_LONGEST_WORD : PySem.W.nsIn K mainGlobals "LONGEST_WORD" = some (some (.int 12 t_LONGEST_WORD)))
    (g_LONGEST_TEXT : PySem.W.nsIn K mainGlobals "LONGEST_TEXT" = some (some (.int 2000 t_LONGEST_TEXT)))
    (g_LONGEST_MESSAGE : PySem.W.nsIn K mainGlobals "LONGEST_MESSAGE" = some (some (.int 200 t_LONGEST_MESSAGE)))
    (g_LATEST : PySem.W.nsIn K mainGlobals "LATEST" = some (some (.int 1000000000000 t_LATEST)))
    (g_MOST_ENTRIES : PySem.W.nsIn K mainGlobals "MOST_ENTRIES" = some (some (.int 30 t_MOST_ENTRIES)))
    (g_MOST_PARENTS : PySem.W.nsIn K mainGlobals "MOST_PARENTS" = some (some (.int 6 t_MOST_PARENTS)))
    (g_LONG_MODULUS : PySem.W.nsIn K mainGlobals "LONG_MODULUS" = some (some (.int 2305843009213693951 t_LONG_MODULUS)))
    (g_SHORT_MODULUS : PySem.W.nsIn K mainGlobals "SHORT_MODULUS" = some (some (.int 251 t_SHORT_MODULUS)))
    (g_FACTOR : PySem.W.nsIn K mainGlobals "FACTOR" = some (some (.int 1000003 t_FACTOR)))
    (g_FACTOR_2 : PySem.W.nsIn K mainGlobals "FACTOR_2" = some (some (.int 1000006000009 t_FACTOR_2)))
    (g_FACTOR_4 : PySem.W.nsIn K mainGlobals "FACTOR_4" = some (some (.int 1000012000054000108000081 t_FACTOR_4)))
    (g_FACTOR_8 : PySem.W.nsIn K mainGlobals "FACTOR_8" = some (some (.int 1000024000252001512005670013608020412017496006561 t_FACTOR_8)))
    (g_ONES_8 : PySem.W.nsIn K mainGlobals "ONES_8" = some (some (.int 1000022000208001096003478006652007108003280 t_ONES_8)))
    (g_BLOCK : PySem.W.nsIn K mainGlobals "BLOCK" = some (some (.int 256 t_BLOCK)))
    {CB CT CC CG CS cF cX iX ek pdA dC kdC kdG kdS kdI kdU : Addr}
    {fmBlob_init : Addr}
    {odmBlob_init anmBlob_init : Option Addr} {slmBlob_init : Array (Option Value)} {ocmBlob_init kVmBlob_init dcmBlob_init pmmBlob_init cdmBlob_init ctmBlob_init : Value}
    {fmTree_init : Addr}
    {odmTree_init anmTree_init : Option Addr} {slmTree_init : Array (Option Value)} {ocmTree_init kVmTree_init dcmTree_init pmmTree_init cdmTree_init ctmTree_init : Value}
    {fmCommit_init : Addr}
    {odmCommit_init anmCommit_init : Option Addr} {slmCommit_init : Array (Option Value)} {ocmCommit_init dcmCommit_init pmmCommit_init cdmCommit_init ctmCommit_init : Value}
    {fmTag_init : Addr}
    {odmTag_init anmTag_init : Option Addr} {slmTag_init : Array (Option Value)} {ocmTag_init dcmTag_init pmmTag_init cdmTag_init ctmTag_init : Value}
    {fmStore_init : Addr}
    {odmStore_init anmStore_init : Option Addr} {slmStore_init : Array (Option Value)} {ocmStore_init dcmStore_init pmmStore_init cdmStore_init ctmStore_init : Value}
    {fmBlob_eq : Addr}
    {odmBlob_eq anmBlob_eq : Option Addr} {slmBlob_eq : Array (Option Value)} {ocmBlob_eq kVmBlob_eq dcmBlob_eq pmmBlob_eq cdmBlob_eq ctmBlob_eq : Value}
    {fmTree_eq : Addr}
    {odmTree_eq anmTree_eq : Option Addr} {slmTree_eq : Array (Option Value)} {ocmTree_eq kVmTree_eq dcmTree_eq pmmTree_eq cdmTree_eq ctmTree_eq : Value}
    {fmCommit_eq : Addr}
    {odmCommit_eq anmCommit_eq : Option Addr} {slmCommit_eq : Array (Option Value)} {ocmCommit_eq kVmCommit_eq dcmCommit_eq pmmCommit_eq cdmCommit_eq ctmCommit_eq : Value}
    {fmTag_eq : Addr}
    {odmTag_eq anmTag_eq : Option Addr} {slmTag_eq : Array (Option Value)} {ocmTag_eq kVmTag_eq dcmTag_eq pmmTag_eq cdmTag_eq ctmTag_eq : Value}
    {fmStore_put : Addr}
    {odmStore_put anmStore_put : Option Addr} {slmStore_put : Array (Option Value)} {ocmStore_put kVmStore_put dcmStore_put pmmStore_put cdmStore_put ctmStore_put : Value}
    {fmStore_getitem : Addr}
    {odmStore_getitem anmStore_getitem : Option Addr} {slmStore_getitem : Array (Option Value)} {ocmStore_getitem kVmStore_getitem dcmStore_getitem pmmStore_getitem cdmStore_getitem ctmStore_getitem : Value}
    {fmStore_contains : Addr}
    {odmStore_contains anmStore_contains : Option Addr} {slmStore_contains : Array (Option Value)} {ocmStore_contains kVmStore_contains dcmStore_contains pmmStore_contains cdmStore_contains ctmStore_contains : Value}
    {fmStore_len : Addr}
    {odmStore_len anmStore_len : Option Addr} {slmStore_len : Array (Option Value)} {ocmStore_len kVmStore_len dcmStore_len pmmStore_len cdmStore_len ctmStore_len : Value}
    {fpBlob_text qpBlob_text : Addr} {rpBlob_text : List Value}
    {odpBlob_text anpBlob_text : Option Addr} {slpBlob_text : Array (Option Value)} {ocpBlob_text kVpBlob_text dcpBlob_text pmpBlob_text cdpBlob_text ctpBlob_text : Value}
    {fpTree_entries qpTree_entries : Addr} {rpTree_entries : List Value}
    {odpTree_entries anpTree_entries : Option Addr} {slpTree_entries : Array (Option Value)} {ocpTree_entries kVpTree_entries dcpTree_entries pmpTree_entries cdpTree_entries ctpTree_entries : Value}
    {fpCommit_tree qpCommit_tree : Addr} {rpCommit_tree : List Value}
    {odpCommit_tree anpCommit_tree : Option Addr} {slpCommit_tree : Array (Option Value)} {ocpCommit_tree kVpCommit_tree dcpCommit_tree pmpCommit_tree cdpCommit_tree ctpCommit_tree : Value}
    {fpCommit_parents qpCommit_parents : Addr} {rpCommit_parents : List Value}
    {odpCommit_parents anpCommit_parents : Option Addr} {slpCommit_parents : Array (Option Value)} {ocpCommit_parents kVpCommit_parents dcpCommit_parents pmpCommit_parents cdpCommit_parents ctpCommit_parents : Value}
    {fpCommit_author qpCommit_author : Addr} {rpCommit_author : List Value}
    {odpCommit_author anpCommit_author : Option Addr} {slpCommit_author : Array (Option Value)} {ocpCommit_author kVpCommit_author dcpCommit_author pmpCommit_author cdpCommit_author ctpCommit_author : Value}
    {fpCommit_time qpCommit_time : Addr} {rpCommit_time : List Value}
    {odpCommit_time anpCommit_time : Option Addr} {slpCommit_time : Array (Option Value)} {ocpCommit_time kVpCommit_time dcpCommit_time pmpCommit_time cdpCommit_time ctpCommit_time : Value}
    {fpCommit_message qpCommit_message : Addr} {rpCommit_message : List Value}
    {odpCommit_message anpCommit_message : Option Addr} {slpCommit_message : Array (Option Value)} {ocpCommit_message kVpCommit_message dcpCommit_message pmpCommit_message cdpCommit_message ctpCommit_message : Value}
    {fpTag_target qpTag_target : Addr} {rpTag_target : List Value}
    {odpTag_target anpTag_target : Option Addr} {slpTag_target : Array (Option Value)} {ocpTag_target kVpTag_target dcpTag_target pmpTag_target cdpTag_target ctpTag_target : Value}
    {fpTag_label qpTag_label : Addr} {rpTag_label : List Value}
    {odpTag_label anpTag_label : Option Addr} {slpTag_label : Array (Option Value)} {ocpTag_label kVpTag_label dcpTag_label pmpTag_label cdpTag_label ctpTag_label : Value}
    {fpTag_message qpTag_message : Addr} {rpTag_message : List Value}
    {odpTag_message anpTag_message : Option Addr} {slpTag_message : Array (Option Value)} {ocpTag_message kVpTag_message dcpTag_message pmpTag_message cdpTag_message ctpTag_message : Value}
    {fdId : Addr}
    {oddId andId : Option Addr} {sldId : Array (Option Value)} {ocdId dcdId pmdId cddId ctdId : Value}
    {fdSum : Addr}
    {oddSum andSum : Option Addr} {sldSum : Array (Option Value)} {ocdSum dcdSum pmdSum cddSum ctdSum : Value}
    {tkC tkG : Tok}
    {tcd : Value} {tod pdo eko : Option Addr} {tn pdn ekn : Nat} {tsl pdl ekl : Array (Option Value)} {tk1 tk2 tk3 : Tok}
    {qF : Str} {NF : Addr} {bsF subF : List Value} {snF : List Str} {abF : Bool} {colF : Option Bool} {ddF : Option Addr} {mF_0 mF_1 mF_2 mF_3 mF_5 : Option Value}
    {qX : Str} {NX : Addr} {bsX subX : List Value} {snX : List Str} {abX : Bool} {colX : Option Bool} {ddX : Option Addr} {mX_0 mX_1 mX_2 mX_3 mX_5 : Option Value}
    {odiX aniX : Option Addr} {sliX : Array (Option Value)} {ociX kViX dciX pmiX cdiX ctiX : Value}
    (eB_mg : PySem.W.nsIn K mainGlobals "Blob" = some (some (.ref CB)))
    (eT_mg : PySem.W.nsIn K mainGlobals "Tree" = some (some (.ref CT)))
    (eC_mg : PySem.W.nsIn K mainGlobals "Commit" = some (some (.ref CC)))
    (eG_mg : PySem.W.nsIn K mainGlobals "Tag" = some (some (.ref CG)))
    (eS_mg : PySem.W.nsIn K mainGlobals "Store" = some (some (.ref CS)))
    (eF_mg : PySem.W.nsIn K mainGlobals "ForkError" = some (some (.ref cF)))
    (eX_mg : PySem.W.nsIn K mainGlobals "Clash" = some (some (.ref cX)))
    (CB_pg : PySem.W.plainGet K CB Str.empty = true)
    (CB_hd : PySem.W.hasDictIn K CB = true)
    (CB_po : PySem.W.plainOver K CB = true)
    (CB_sa : PySem.W.findIn K (.ref CB) "__setattr__" = some (some (.builtin "object.__setattr__")))
    (CB_mk : PySem.W.makesIn K CB = true)
    (CB_kc : PySem.W.keepIn K (.ref CB) = true)
    (CB_ha : PySem.W.findIn K (.ref CB) "__class__" = some (some (.builtin "object.__class__")))
    (CB_hm : PySem.W.mroIn K CB (.type "object") = some true)
    (CB_ne : PySem.W.findIn K (.ref CB) "__ne__" = some (some (.builtin "object.__ne__")))
    (CT_pg : PySem.W.plainGet K CT Str.empty = true)
    (CT_hd : PySem.W.hasDictIn K CT = true)
    (CT_po : PySem.W.plainOver K CT = true)
    (CT_sa : PySem.W.findIn K (.ref CT) "__setattr__" = some (some (.builtin "object.__setattr__")))
    (CT_mk : PySem.W.makesIn K CT = true)
    (CT_kc : PySem.W.keepIn K (.ref CT) = true)
    (CT_ha : PySem.W.findIn K (.ref CT) "__class__" = some (some (.builtin "object.__class__")))
    (CT_hm : PySem.W.mroIn K CT (.type "object") = some true)
    (CT_ne : PySem.W.findIn K (.ref CT) "__ne__" = some (some (.builtin "object.__ne__")))
    (CC_pg : PySem.W.plainGet K CC Str.empty = true)
    (CC_hd : PySem.W.hasDictIn K CC = true)
    (CC_po : PySem.W.plainOver K CC = true)
    (CC_sa : PySem.W.findIn K (.ref CC) "__setattr__" = some (some (.builtin "object.__setattr__")))
    (CC_mk : PySem.W.makesIn K CC = true)
    (CC_kc : PySem.W.keepIn K (.ref CC) = true)
    (CC_ha : PySem.W.findIn K (.ref CC) "__class__" = some (some (.builtin "object.__class__")))
    (CC_hm : PySem.W.mroIn K CC (.type "object") = some true)
    (CC_ne : PySem.W.findIn K (.ref CC) "__ne__" = some (some (.builtin "object.__ne__")))
    (CG_pg : PySem.W.plainGet K CG Str.empty = true)
    (CG_hd : PySem.W.hasDictIn K CG = true)
    (CG_po : PySem.W.plainOver K CG = true)
    (CG_sa : PySem.W.findIn K (.ref CG) "__setattr__" = some (some (.builtin "object.__setattr__")))
    (CG_mk : PySem.W.makesIn K CG = true)
    (CG_kc : PySem.W.keepIn K (.ref CG) = true)
    (CG_ha : PySem.W.findIn K (.ref CG) "__class__" = some (some (.builtin "object.__class__")))
    (CG_hm : PySem.W.mroIn K CG (.type "object") = some true)
    (CG_ne : PySem.W.findIn K (.ref CG) "__ne__" = some (some (.builtin "object.__ne__")))
    (CS_pg : PySem.W.plainGet K CS Str.empty = true)
    (CS_hd : PySem.W.hasDictIn K CS = true)
    (CS_po : PySem.W.plainOver K CS = true)
    (CS_sa : PySem.W.findIn K (.ref CS) "__setattr__" = some (some (.builtin "object.__setattr__")))
    (CS_mk : PySem.W.makesIn K CS = true)
    (CS_kc : PySem.W.keepIn K (.ref CS) = true)
    (kBT : PySem.W.kitOne K (.ref CB) (.ref CT) = some false)
    (kBC : PySem.W.kitOne K (.ref CB) (.ref CC) = some false)
    (kBG : PySem.W.kitOne K (.ref CB) (.ref CG) = some false)
    (kTB : PySem.W.kitOne K (.ref CT) (.ref CB) = some false)
    (kTC : PySem.W.kitOne K (.ref CT) (.ref CC) = some false)
    (kTG : PySem.W.kitOne K (.ref CT) (.ref CG) = some false)
    (kCB : PySem.W.kitOne K (.ref CC) (.ref CB) = some false)
    (kCT : PySem.W.kitOne K (.ref CC) (.ref CT) = some false)
    (kCG : PySem.W.kitOne K (.ref CC) (.ref CG) = some false)
    (kGB : PySem.W.kitOne K (.ref CG) (.ref CB) = some false)
    (kGT : PySem.W.kitOne K (.ref CG) (.ref CT) = some false)
    (kGC : PySem.W.kitOne K (.ref CG) (.ref CC) = some false)
    (e_hn : PySem.W.specialIn K (.builtin "object.__class__") "__get__" = some (some (.builtin "getset_descriptor.__get__")))
    (e_ht : PySem.W.takesIn K (.builtin "object.__class__") = some true)
    (amBlob_init : PySem.W.findIn K (.ref CB) "__init__" = some (some (.ref fmBlob_init)))
    (imBlob_init : PySem.W.isFn K (.ref fmBlob_init) = true)
    (lmBlob_init : K.lookup fmBlob_init = some ⟨ocmBlob_init, odmBlob_init, .func (PySem.W.fnOf "__init__" "Blob.__init__" (C8.fnArgs s_Blob_init) (C8.fnBody s_Blob_init) (C8.fnScope s_Blob_init) .none kVmBlob_init dcmBlob_init pmmBlob_init anmBlob_init cdmBlob_init ctmBlob_init), slmBlob_init⟩)
    (cmBlob_init : PySem.W.codeIn K cdmBlob_init "Blob.__init__" = true)
    (kmBlob_init : PySem.W.keepIn K (.ref fmBlob_init) = true)
    (amTree_init : PySem.W.findIn K (.ref CT) "__init__" = some (some (.ref fmTree_init)))
    (imTree_init : PySem.W.isFn K (.ref fmTree_init) = true)
    (lmTree_init : K.lookup fmTree_init = some ⟨ocmTree_init, odmTree_init, .func (PySem.W.fnOf "__init__" "Tree.__init__" (C8.fnArgs s_Tree_init) (C8.fnBody s_Tree_init) (C8.fnScope s_Tree_init) .none kVmTree_init dcmTree_init pmmTree_init anmTree_init cdmTree_init ctmTree_init), slmTree_init⟩)
    (cmTree_init : PySem.W.codeIn K cdmTree_init "Tree.__init__" = true)
    (kmTree_init : PySem.W.keepIn K (.ref fmTree_init) = true)
    (amCommit_init : PySem.W.findIn K (.ref CC) "__init__" = some (some (.ref fmCommit_init)))
    (imCommit_init : PySem.W.isFn K (.ref fmCommit_init) = true)
    (lmCommit_init : K.lookup fmCommit_init = some ⟨ocmCommit_init, odmCommit_init, .func (PySem.W.fnOf "__init__" "Commit.__init__" (C8.fnArgs s_Commit_init) (C8.fnBody s_Commit_init) (C8.fnScope s_Commit_init) (.ref dC) (.ref kdC) dcmCommit_init pmmCommit_init anmCommit_init cdmCommit_init ctmCommit_init), slmCommit_init⟩)
    (cmCommit_init : PySem.W.codeIn K cdmCommit_init "Commit.__init__" = true)
    (kmCommit_init : PySem.W.keepIn K (.ref fmCommit_init) = true)
    (amTag_init : PySem.W.findIn K (.ref CG) "__init__" = some (some (.ref fmTag_init)))
    (imTag_init : PySem.W.isFn K (.ref fmTag_init) = true)
    (lmTag_init : K.lookup fmTag_init = some ⟨ocmTag_init, odmTag_init, .func (PySem.W.fnOf "__init__" "Tag.__init__" (C8.fnArgs s_Tag_init) (C8.fnBody s_Tag_init) (C8.fnScope s_Tag_init) .none (.ref kdG) dcmTag_init pmmTag_init anmTag_init cdmTag_init ctmTag_init), slmTag_init⟩)
    (cmTag_init : PySem.W.codeIn K cdmTag_init "Tag.__init__" = true)
    (kmTag_init : PySem.W.keepIn K (.ref fmTag_init) = true)
    (amStore_init : PySem.W.findIn K (.ref CS) "__init__" = some (some (.ref fmStore_init)))
    (imStore_init : PySem.W.isFn K (.ref fmStore_init) = true)
    (lmStore_init : K.lookup fmStore_init = some ⟨ocmStore_init, odmStore_init, .func (PySem.W.fnOf "__init__" "Store.__init__" (C8.fnArgs s_Store_init) (C8.fnBody s_Store_init) (C8.fnScope s_Store_init) .none (.ref kdS) dcmStore_init pmmStore_init anmStore_init cdmStore_init ctmStore_init), slmStore_init⟩)
    (cmStore_init : PySem.W.codeIn K cdmStore_init "Store.__init__" = true)
    (kmStore_init : PySem.W.keepIn K (.ref fmStore_init) = true)
    (amBlob_eq : PySem.W.findIn K (.ref CB) "__eq__" = some (some (.ref fmBlob_eq)))
    (imBlob_eq : PySem.W.isFn K (.ref fmBlob_eq) = true)
    (lmBlob_eq : K.lookup fmBlob_eq = some ⟨ocmBlob_eq, odmBlob_eq, .func (PySem.W.fnOf "__eq__" "Blob.__eq__" (C8.fnArgs s_Blob_eq) (C8.fnBody s_Blob_eq) (C8.fnScope s_Blob_eq) .none kVmBlob_eq dcmBlob_eq pmmBlob_eq anmBlob_eq cdmBlob_eq ctmBlob_eq), slmBlob_eq⟩)
    (cmBlob_eq : PySem.W.codeIn K cdmBlob_eq "Blob.__eq__" = true)
    (kmBlob_eq : PySem.W.keepIn K (.ref fmBlob_eq) = true)
    (amTree_eq : PySem.W.findIn K (.ref CT) "__eq__" = some (some (.ref fmTree_eq)))
    (imTree_eq : PySem.W.isFn K (.ref fmTree_eq) = true)
    (lmTree_eq : K.lookup fmTree_eq = some ⟨ocmTree_eq, odmTree_eq, .func (PySem.W.fnOf "__eq__" "Tree.__eq__" (C8.fnArgs s_Tree_eq) (C8.fnBody s_Tree_eq) (C8.fnScope s_Tree_eq) .none kVmTree_eq dcmTree_eq pmmTree_eq anmTree_eq cdmTree_eq ctmTree_eq), slmTree_eq⟩)
    (cmTree_eq : PySem.W.codeIn K cdmTree_eq "Tree.__eq__" = true)
    (kmTree_eq : PySem.W.keepIn K (.ref fmTree_eq) = true)
    (amCommit_eq : PySem.W.findIn K (.ref CC) "__eq__" = some (some (.ref fmCommit_eq)))
    (imCommit_eq : PySem.W.isFn K (.ref fmCommit_eq) = true)
    (lmCommit_eq : K.lookup fmCommit_eq = some ⟨ocmCommit_eq, odmCommit_eq, .func (PySem.W.fnOf "__eq__" "Commit.__eq__" (C8.fnArgs s_Commit_eq) (C8.fnBody s_Commit_eq) (C8.fnScope s_Commit_eq) .none kVmCommit_eq dcmCommit_eq pmmCommit_eq anmCommit_eq cdmCommit_eq ctmCommit_eq), slmCommit_eq⟩)
    (cmCommit_eq : PySem.W.codeIn K cdmCommit_eq "Commit.__eq__" = true)
    (kmCommit_eq : PySem.W.keepIn K (.ref fmCommit_eq) = true)
    (amTag_eq : PySem.W.findIn K (.ref CG) "__eq__" = some (some (.ref fmTag_eq)))
    (imTag_eq : PySem.W.isFn K (.ref fmTag_eq) = true)
    (lmTag_eq : K.lookup fmTag_eq = some ⟨ocmTag_eq, odmTag_eq, .func (PySem.W.fnOf "__eq__" "Tag.__eq__" (C8.fnArgs s_Tag_eq) (C8.fnBody s_Tag_eq) (C8.fnScope s_Tag_eq) .none kVmTag_eq dcmTag_eq pmmTag_eq anmTag_eq cdmTag_eq ctmTag_eq), slmTag_eq⟩)
    (cmTag_eq : PySem.W.codeIn K cdmTag_eq "Tag.__eq__" = true)
    (kmTag_eq : PySem.W.keepIn K (.ref fmTag_eq) = true)
    (amStore_put : PySem.W.findIn K (.ref CS) "put" = some (some (.ref fmStore_put)))
    (imStore_put : PySem.W.isFn K (.ref fmStore_put) = true)
    (lmStore_put : K.lookup fmStore_put = some ⟨ocmStore_put, odmStore_put, .func (PySem.W.fnOf "put" "Store.put" (C8.fnArgs s_Store_put) (C8.fnBody s_Store_put) (C8.fnScope s_Store_put) .none kVmStore_put dcmStore_put pmmStore_put anmStore_put cdmStore_put ctmStore_put), slmStore_put⟩)
    (cmStore_put : PySem.W.codeIn K cdmStore_put "Store.put" = true)
    (kmStore_put : PySem.W.keepIn K (.ref fmStore_put) = true)
    (amStore_getitem : PySem.W.findIn K (.ref CS) "__getitem__" = some (some (.ref fmStore_getitem)))
    (imStore_getitem : PySem.W.isFn K (.ref fmStore_getitem) = true)
    (lmStore_getitem : K.lookup fmStore_getitem = some ⟨ocmStore_getitem, odmStore_getitem, .func (PySem.W.fnOf "__getitem__" "Store.__getitem__" (C8.fnArgs s_Store_getitem) (C8.fnBody s_Store_getitem) (C8.fnScope s_Store_getitem) .none kVmStore_getitem dcmStore_getitem pmmStore_getitem anmStore_getitem cdmStore_getitem ctmStore_getitem), slmStore_getitem⟩)
    (cmStore_getitem : PySem.W.codeIn K cdmStore_getitem "Store.__getitem__" = true)
    (kmStore_getitem : PySem.W.keepIn K (.ref fmStore_getitem) = true)
    (amStore_contains : PySem.W.findIn K (.ref CS) "__contains__" = some (some (.ref fmStore_contains)))
    (imStore_contains : PySem.W.isFn K (.ref fmStore_contains) = true)
    (lmStore_contains : K.lookup fmStore_contains = some ⟨ocmStore_contains, odmStore_contains, .func (PySem.W.fnOf "__contains__" "Store.__contains__" (C8.fnArgs s_Store_contains) (C8.fnBody s_Store_contains) (C8.fnScope s_Store_contains) .none kVmStore_contains dcmStore_contains pmmStore_contains anmStore_contains cdmStore_contains ctmStore_contains), slmStore_contains⟩)
    (cmStore_contains : PySem.W.codeIn K cdmStore_contains "Store.__contains__" = true)
    (kmStore_contains : PySem.W.keepIn K (.ref fmStore_contains) = true)
    (amStore_len : PySem.W.findIn K (.ref CS) "__len__" = some (some (.ref fmStore_len)))
    (imStore_len : PySem.W.isFn K (.ref fmStore_len) = true)
    (lmStore_len : K.lookup fmStore_len = some ⟨ocmStore_len, odmStore_len, .func (PySem.W.fnOf "__len__" "Store.__len__" (C8.fnArgs s_Store_len) (C8.fnBody s_Store_len) (C8.fnScope s_Store_len) .none kVmStore_len dcmStore_len pmmStore_len anmStore_len cdmStore_len ctmStore_len), slmStore_len⟩)
    (cmStore_len : PySem.W.codeIn K cdmStore_len "Store.__len__" = true)
    (kmStore_len : PySem.W.keepIn K (.ref fmStore_len) = true)
    (apBlob_text : PySem.W.findIn K (.ref CB) "text" = some (some (.ref qpBlob_text)))
    (gpBlob_text : PySem.W.specialIn K (.ref qpBlob_text) "__get__" = some (some (.builtin "property.__get__")))
    (tpBlob_text : PySem.W.takesIn K (.ref qpBlob_text) = some true)
    (rpBlob_text_ : PySem.W.recIn K qpBlob_text "property" = some (.ref fpBlob_text :: rpBlob_text))
    (lpBlob_text : K.lookup fpBlob_text = some ⟨ocpBlob_text, odpBlob_text, .func (PySem.W.fnOf "text" "Blob.text" (C8.fnArgs s_Blob_text) (C8.fnBody s_Blob_text) (C8.fnScope s_Blob_text) .none kVpBlob_text dcpBlob_text pmpBlob_text anpBlob_text cdpBlob_text ctpBlob_text), slpBlob_text⟩)
    (cpBlob_text : PySem.W.codeIn K cdpBlob_text "Blob.text" = true)
    (nB_text : PySem.W.findIn K (.ref CB) "_text" = some none)
    (apTree_entries : PySem.W.findIn K (.ref CT) "entries" = some (some (.ref qpTree_entries)))
    (gpTree_entries : PySem.W.specialIn K (.ref qpTree_entries) "__get__" = some (some (.builtin "property.__get__")))
    (tpTree_entries : PySem.W.takesIn K (.ref qpTree_entries) = some true)
    (rpTree_entries_ : PySem.W.recIn K qpTree_entries "property" = some (.ref fpTree_entries :: rpTree_entries))
    (lpTree_entries : K.lookup fpTree_entries = some ⟨ocpTree_entries, odpTree_entries, .func (PySem.W.fnOf "entries" "Tree.entries" (C8.fnArgs s_Tree_entries) (C8.fnBody s_Tree_entries) (C8.fnScope s_Tree_entries) .none kVpTree_entries dcpTree_entries pmpTree_entries anpTree_entries cdpTree_entries ctpTree_entries), slpTree_entries⟩)
    (cpTree_entries : PySem.W.codeIn K cdpTree_entries "Tree.entries" = true)
    (nT_entries : PySem.W.findIn K (.ref CT) "_entries" = some none)
    (apCommit_tree : PySem.W.findIn K (.ref CC) "tree" = some (some (.ref qpCommit_tree)))
    (gpCommit_tree : PySem.W.specialIn K (.ref qpCommit_tree) "__get__" = some (some (.builtin "property.__get__")))
    (tpCommit_tree : PySem.W.takesIn K (.ref qpCommit_tree) = some true)
    (rpCommit_tree_ : PySem.W.recIn K qpCommit_tree "property" = some (.ref fpCommit_tree :: rpCommit_tree))
    (lpCommit_tree : K.lookup fpCommit_tree = some ⟨ocpCommit_tree, odpCommit_tree, .func (PySem.W.fnOf "tree" "Commit.tree" (C8.fnArgs s_Commit_tree) (C8.fnBody s_Commit_tree) (C8.fnScope s_Commit_tree) .none kVpCommit_tree dcpCommit_tree pmpCommit_tree anpCommit_tree cdpCommit_tree ctpCommit_tree), slpCommit_tree⟩)
    (cpCommit_tree : PySem.W.codeIn K cdpCommit_tree "Commit.tree" = true)
    (nC_tree : PySem.W.findIn K (.ref CC) "_tree" = some none)
    (apCommit_parents : PySem.W.findIn K (.ref CC) "parents" = some (some (.ref qpCommit_parents)))
    (gpCommit_parents : PySem.W.specialIn K (.ref qpCommit_parents) "__get__" = some (some (.builtin "property.__get__")))
    (tpCommit_parents : PySem.W.takesIn K (.ref qpCommit_parents) = some true)
    (rpCommit_parents_ : PySem.W.recIn K qpCommit_parents "property" = some (.ref fpCommit_parents :: rpCommit_parents))
    (lpCommit_parents : K.lookup fpCommit_parents = some ⟨ocpCommit_parents, odpCommit_parents, .func (PySem.W.fnOf "parents" "Commit.parents" (C8.fnArgs s_Commit_parents) (C8.fnBody s_Commit_parents) (C8.fnScope s_Commit_parents) .none kVpCommit_parents dcpCommit_parents pmpCommit_parents anpCommit_parents cdpCommit_parents ctpCommit_parents), slpCommit_parents⟩)
    (cpCommit_parents : PySem.W.codeIn K cdpCommit_parents "Commit.parents" = true)
    (nC_parents : PySem.W.findIn K (.ref CC) "_parents" = some none)
    (apCommit_author : PySem.W.findIn K (.ref CC) "author" = some (some (.ref qpCommit_author)))
    (gpCommit_author : PySem.W.specialIn K (.ref qpCommit_author) "__get__" = some (some (.builtin "property.__get__")))
    (tpCommit_author : PySem.W.takesIn K (.ref qpCommit_author) = some true)
    (rpCommit_author_ : PySem.W.recIn K qpCommit_author "property" = some (.ref fpCommit_author :: rpCommit_author))
    (lpCommit_author : K.lookup fpCommit_author = some ⟨ocpCommit_author, odpCommit_author, .func (PySem.W.fnOf "author" "Commit.author" (C8.fnArgs s_Commit_author) (C8.fnBody s_Commit_author) (C8.fnScope s_Commit_author) .none kVpCommit_author dcpCommit_author pmpCommit_author anpCommit_author cdpCommit_author ctpCommit_author), slpCommit_author⟩)
    (cpCommit_author : PySem.W.codeIn K cdpCommit_author "Commit.author" = true)
    (nC_author : PySem.W.findIn K (.ref CC) "_author" = some none)
    (apCommit_time : PySem.W.findIn K (.ref CC) "time" = some (some (.ref qpCommit_time)))
    (gpCommit_time : PySem.W.specialIn K (.ref qpCommit_time) "__get__" = some (some (.builtin "property.__get__")))
    (tpCommit_time : PySem.W.takesIn K (.ref qpCommit_time) = some true)
    (rpCommit_time_ : PySem.W.recIn K qpCommit_time "property" = some (.ref fpCommit_time :: rpCommit_time))
    (lpCommit_time : K.lookup fpCommit_time = some ⟨ocpCommit_time, odpCommit_time, .func (PySem.W.fnOf "time" "Commit.time" (C8.fnArgs s_Commit_time) (C8.fnBody s_Commit_time) (C8.fnScope s_Commit_time) .none kVpCommit_time dcpCommit_time pmpCommit_time anpCommit_time cdpCommit_time ctpCommit_time), slpCommit_time⟩)
    (cpCommit_time : PySem.W.codeIn K cdpCommit_time "Commit.time" = true)
    (nC_time : PySem.W.findIn K (.ref CC) "_time" = some none)
    (apCommit_message : PySem.W.findIn K (.ref CC) "message" = some (some (.ref qpCommit_message)))
    (gpCommit_message : PySem.W.specialIn K (.ref qpCommit_message) "__get__" = some (some (.builtin "property.__get__")))
    (tpCommit_message : PySem.W.takesIn K (.ref qpCommit_message) = some true)
    (rpCommit_message_ : PySem.W.recIn K qpCommit_message "property" = some (.ref fpCommit_message :: rpCommit_message))
    (lpCommit_message : K.lookup fpCommit_message = some ⟨ocpCommit_message, odpCommit_message, .func (PySem.W.fnOf "message" "Commit.message" (C8.fnArgs s_Commit_message) (C8.fnBody s_Commit_message) (C8.fnScope s_Commit_message) .none kVpCommit_message dcpCommit_message pmpCommit_message anpCommit_message cdpCommit_message ctpCommit_message), slpCommit_message⟩)
    (cpCommit_message : PySem.W.codeIn K cdpCommit_message "Commit.message" = true)
    (nC_message : PySem.W.findIn K (.ref CC) "_message" = some none)
    (apTag_target : PySem.W.findIn K (.ref CG) "target" = some (some (.ref qpTag_target)))
    (gpTag_target : PySem.W.specialIn K (.ref qpTag_target) "__get__" = some (some (.builtin "property.__get__")))
    (tpTag_target : PySem.W.takesIn K (.ref qpTag_target) = some true)
    (rpTag_target_ : PySem.W.recIn K qpTag_target "property" = some (.ref fpTag_target :: rpTag_target))
    (lpTag_target : K.lookup fpTag_target = some ⟨ocpTag_target, odpTag_target, .func (PySem.W.fnOf "target" "Tag.target" (C8.fnArgs s_Tag_target) (C8.fnBody s_Tag_target) (C8.fnScope s_Tag_target) .none kVpTag_target dcpTag_target pmpTag_target anpTag_target cdpTag_target ctpTag_target), slpTag_target⟩)
    (cpTag_target : PySem.W.codeIn K cdpTag_target "Tag.target" = true)
    (nG_target : PySem.W.findIn K (.ref CG) "_target" = some none)
    (apTag_label : PySem.W.findIn K (.ref CG) "label" = some (some (.ref qpTag_label)))
    (gpTag_label : PySem.W.specialIn K (.ref qpTag_label) "__get__" = some (some (.builtin "property.__get__")))
    (tpTag_label : PySem.W.takesIn K (.ref qpTag_label) = some true)
    (rpTag_label_ : PySem.W.recIn K qpTag_label "property" = some (.ref fpTag_label :: rpTag_label))
    (lpTag_label : K.lookup fpTag_label = some ⟨ocpTag_label, odpTag_label, .func (PySem.W.fnOf "label" "Tag.label" (C8.fnArgs s_Tag_label) (C8.fnBody s_Tag_label) (C8.fnScope s_Tag_label) .none kVpTag_label dcpTag_label pmpTag_label anpTag_label cdpTag_label ctpTag_label), slpTag_label⟩)
    (cpTag_label : PySem.W.codeIn K cdpTag_label "Tag.label" = true)
    (nG_label : PySem.W.findIn K (.ref CG) "_label" = some none)
    (apTag_message : PySem.W.findIn K (.ref CG) "message" = some (some (.ref qpTag_message)))
    (gpTag_message : PySem.W.specialIn K (.ref qpTag_message) "__get__" = some (some (.builtin "property.__get__")))
    (tpTag_message : PySem.W.takesIn K (.ref qpTag_message) = some true)
    (rpTag_message_ : PySem.W.recIn K qpTag_message "property" = some (.ref fpTag_message :: rpTag_message))
    (lpTag_message : K.lookup fpTag_message = some ⟨ocpTag_message, odpTag_message, .func (PySem.W.fnOf "message" "Tag.message" (C8.fnArgs s_Tag_message) (C8.fnBody s_Tag_message) (C8.fnScope s_Tag_message) .none kVpTag_message dcpTag_message pmpTag_message anpTag_message cdpTag_message ctpTag_message), slpTag_message⟩)
    (cpTag_message : PySem.W.codeIn K cdpTag_message "Tag.message" = true)
    (nG_message : PySem.W.findIn K (.ref CG) "_message" = some none)
    (nS_short : PySem.W.findIn K (.ref CS) "_short" = some none)
    (nS_things : PySem.W.findIn K (.ref CS) "_things" = some none)
    (adId : PySem.W.nsIn K mainGlobals "id_of" = some (some (.ref fdId)))
    (ldId : K.lookup fdId = some ⟨ocdId, oddId, .func (PySem.W.fnOf "id_of" "id_of" (C8.fnArgs s_id_of) (C8.fnBody s_id_of) (C8.fnScope s_id_of) .none (.ref kdI) dcdId pmdId andId cddId ctdId), sldId⟩)
    (cdId : PySem.W.codeIn K cddId "id_of" = true)
    (kdId : PySem.W.keepIn K (.ref fdId) = true)
    (adSum : PySem.W.nsIn K mainGlobals "sum_of" = some (some (.ref fdSum)))
    (ldSum : K.lookup fdSum = some ⟨ocdSum, oddSum, .func (PySem.W.fnOf "sum_of" "sum_of" (C8.fnArgs s_sum_of) (C8.fnBody s_sum_of) (C8.fnScope s_sum_of) .none (.ref kdU) dcdSum pmdSum andSum cddSum ctdSum), sldSum⟩)
    (cdSum : PySem.W.codeIn K cddSum "sum_of" = true)
    (kdSum : PySem.W.keepIn K (.ref fdSum) = true)
    (e_kdC : PySem.W.nsIn K kdC "message" = some (some (.str (Str.ofString "") tkC)))
    (e_kdG : PySem.W.nsIn K kdG "message" = some (some (.str (Str.ofString "") tkG)))
    (e_kdS : PySem.W.nsIn K kdS "short" = some (some (.bool false)))
    (e_kdI : PySem.W.nsIn K kdI "short" = some (some (.bool false)))
    (e_kdU : PySem.W.nsIn K kdU "short" = some (some (.bool false)))
    (e_dC : K.lookup dC = some ⟨tcd, tod, .seq #[.ref pdA] tn, tsl⟩)
    (t_pd : K.lookup pdA = some ⟨.type "tuple", pdo, .seq #[] pdn, pdl⟩)
    (g_EK : PySem.W.nsIn K mainGlobals "ENTRY_KINDS" = some (some (.ref ek)))
    (t_ek : K.lookup ek = some ⟨.type "tuple", eko, .seq #[.str (Str.ofString "file") tk1, .str (Str.ofString "exec") tk2, .str (Str.ofString "dir") tk3] ekn, ekl⟩)
    (xF : K.lookup cF = some (excClassObj "ForkError" qF cF NF bsF [.type "ValueError", .type "Exception", .type "BaseException", .type "object"] true snF subF abF colF ddF mF_0 mF_1 mF_2 mF_3 mF_5 "ValueError.__new__"))
    (xX : K.lookup cX = some (excClassObj "Clash" qX cX NX bsX [.ref cF, .type "ValueError", .type "Exception", .type "BaseException", .type "object"] true snX subX abX colX ddX mX_0 mX_1 mX_2 mX_3 mX_5 "ValueError.__new__"))
    (saX : PySem.W.findIn K (.ref cX) "__setattr__" = some (some (.builtin "object.__setattr__")))
    (kCX : PySem.W.keepIn K (.ref cX) = true)
    (iCX : PySem.W.findIn K (.ref cX) "__init__" = some (some (.ref iX)))
    (gaX : PySem.W.findIn K (.ref cX) "__getattribute__" = some (some (.builtin "BaseException.__getattribute__")))
    (ggX : PySem.W.findIn K (.ref cX) "__getattr__" = some none)
    (haX : PySem.W.findIn K (.ref cX) "__class__" = some (some (.builtin "object.__class__")))
    (nfX : PySem.W.findIn K (.ref cX) "name" = some none)
    (tiX : PySem.W.typeIn K (.ref iX) = some (.type "function"))
    (liX : K.lookup iX = some ⟨ociX, odiX, .func (PySem.W.fnOf "__init__" "Clash.__init__" (C8.fnArgs s_Clash_init) (C8.fnBody s_Clash_init) (C8.fnScope s_Clash_init) .none kViX dciX pmiX aniX cdiX ctiX), sliX⟩)
    (ciX : PySem.W.codeIn K cdiX "Clash.__init__" = true)
    : ∃ fd : FuncData, (∀ (s : Shared) (v : Value), BindsTo s fd ⟨[v], []⟩ [("_law_script", v)]) ∧ ∀ base : Heap, K.In base → base.Ns mainGlobals mg → FnOk l.prog w K mg base C8.CX0 10 fa fd ["_law_script"] (spLaw K) := by
  have e := hfa.symm.trans (PySem.W.mg_of X G a32)
  cases e
  have T : Top K mg := {
    d_is_id := ⟨_, _, ⟨⟨⟨_, _, _, _, _, _, _, _, _, _, rfl, l1, c1⟩⟩, PySem.W.mg_of X G a1, k1⟩, rfl⟩
    d_is_segment := ⟨_, _, ⟨⟨⟨_, _, _, _, _, _, _, _, _, _, rfl, l2, c2⟩⟩, PySem.W.mg_of X G a2, k2⟩, rfl⟩
    d_is_author := ⟨_, _, ⟨⟨⟨_, _, _, _, _, _, _, _, _, _, rfl, l3, c3⟩⟩, PySem.W.mg_of X G a3, k3⟩, rfl⟩
    d_is_text := ⟨_, _, ⟨⟨⟨_, _, _, _, _, _, _, _, _, _, rfl, l4, c4⟩⟩, PySem.W.mg_of X G a4, k4⟩, rfl⟩
    d_is_message := ⟨_, _, ⟨⟨⟨_, _, _, _, _, _, _, _, _, _, rfl, l5, c5⟩⟩, PySem.W.mg_of X G a5, k5⟩, rfl⟩
    d_is_time := ⟨_, _, ⟨⟨⟨_, _, _, _, _, _, _, _, _, _, rfl, l6, c6⟩⟩, PySem.W.mg_of X G a6, k6⟩, rfl⟩
    d_is_count := ⟨_, _, ⟨⟨⟨_, _, _, _, _, _, _, _, _, _, rfl, l7, c7⟩⟩, PySem.W.mg_of X G a7, k7⟩, rfl⟩
    d_are_ids := ⟨_, _, ⟨⟨⟨_, _, _, _, _, _, _, _, _, _, rfl, l8, c8⟩⟩, PySem.W.mg_of X G a8, k8⟩, rfl⟩
    d_ascending := ⟨_, _, ⟨⟨⟨_, _, _, _, _, _, _, _, _, _, rfl, l9, c9⟩⟩, PySem.W.mg_of X G a9, k9⟩, rfl⟩
    d__is_word := ⟨_, _, ⟨⟨⟨_, _, _, _, _, _, _, _, _, _, rfl, l10, c10⟩⟩, PySem.W.mg_of X G a10, k10⟩, rfl⟩
    d_is_value := ⟨_, _, ⟨⟨⟨_, _, _, _, _, _, _, _, _, _, rfl, l11, c11⟩⟩, PySem.W.mg_of X G a11, k11⟩, rfl⟩
    d_encode := ⟨_, _, ⟨⟨⟨_, _, _, _, _, _, _, _, _, _, rfl, l12, c12⟩⟩, PySem.W.mg_of X G a12, k12⟩, rfl⟩
    d_sum_of := ⟨_, _, ⟨⟨⟨_, _, _, _, _, _, _, _, _, _, rfl, l13, c13⟩⟩, PySem.W.mg_of X G a13, k13⟩, rfl⟩
    d_id_of := ⟨_, _, ⟨⟨⟨_, _, _, _, _, _, _, _, _, _, rfl, l14, c14⟩⟩, PySem.W.mg_of X G a14, k14⟩, rfl⟩
    d__number_behind := ⟨_, _, ⟨⟨⟨_, _, _, _, _, _, _, _, _, _, rfl, l15, c15⟩⟩, PySem.W.mg_of X G a15, k15⟩, rfl⟩
    d_l_cell_at := ⟨_, _, ⟨⟨⟨_, _, _, _, _, _, _, _, _, _, rfl, l16, c16⟩⟩, PySem.W.mg_of X G a16, k16⟩, rfl⟩
    d_l_well := ⟨_, _, ⟨⟨⟨_, _, _, _, _, _, _, _, _, _, rfl, l17, c17⟩⟩, PySem.W.mg_of X G a17, k17⟩, rfl⟩
    d_l_draw := ⟨_, _, ⟨⟨⟨_, _, _, _, _, _, _, _, _, _, rfl, l18, c18⟩⟩, PySem.W.mg_of X G a18, k18⟩, rfl⟩
    d_l_pick := ⟨_, _, ⟨⟨⟨_, _, _, _, _, _, _, _, _, _, rfl, l19, c19⟩⟩, PySem.W.mg_of X G a19, k19⟩, rfl⟩
    d_l_word := ⟨_, _, ⟨⟨⟨_, _, _, _, _, _, _, _, _, _, rfl, l20, c20⟩⟩, PySem.W.mg_of X G a20, k20⟩, rfl⟩
    d_l_bent := ⟨_, _, ⟨⟨⟨_, _, _, _, _, _, _, _, _, _, rfl, l21, c21⟩⟩, PySem.W.mg_of X G a21, k21⟩, rfl⟩
    d_l_hex := ⟨_, _, ⟨⟨⟨_, _, _, _, _, _, _, _, _, _, rfl, l22, c22⟩⟩, PySem.W.mg_of X G a22, k22⟩, rfl⟩
    d_l_small := ⟨_, _, ⟨⟨⟨_, _, _, _, _, _, _, _, _, _, rfl, l23, c23⟩⟩, PySem.W.mg_of X G a23, k23⟩, rfl⟩
    d_l_trees := ⟨_, _, ⟨⟨⟨_, _, _, _, _, _, _, _, _, _, rfl, l24, c24⟩⟩, PySem.W.mg_of X G a24, k24⟩, rfl⟩
    d_l_commit := ⟨_, _, ⟨⟨⟨_, _, _, _, _, _, _, _, _, _, rfl, l25, c25⟩⟩, PySem.W.mg_of X G a25, k25⟩, rfl⟩
    d_l_commits := ⟨_, _, ⟨⟨⟨_, _, _, _, _, _, _, _, _, _, rfl, l26, c26⟩⟩, PySem.W.mg_of X G a26, k26⟩, rfl⟩
    d_l_rest := ⟨_, _, ⟨⟨⟨_, _, _, _, _, _, _, _, _, _, rfl, l27, c27⟩⟩, PySem.W.mg_of X G a27, k27⟩, rfl⟩
    d_l_copy := ⟨_, _, ⟨⟨⟨_, _, _, _, _, _, _, _, _, _, rfl, l28, c28⟩⟩, PySem.W.mg_of X G a28, k28⟩, rfl⟩
    d_l_kin := ⟨_, _, ⟨⟨⟨_, _, _, _, _, _, _, _, _, _, rfl, l29, c29⟩⟩, PySem.W.mg_of X G a29, k29⟩, rfl⟩
    d_l_told := ⟨_, _, ⟨⟨⟨_, _, _, _, _, _, _, _, _, _, rfl, l30, c30⟩⟩, PySem.W.mg_of X G a30, k30⟩, rfl⟩
    d_l_kin_right := ⟨_, _, ⟨⟨⟨_, _, _, _, _, _, _, _, _, _, rfl, l31, c31⟩⟩, PySem.W.mg_of X G a31, k31⟩, rfl⟩
    d_law := ⟨_, _, ⟨⟨⟨_, _, _, _, _, _, _, _, _, _, rfl, l32, c32⟩⟩, PySem.W.mg_of X G a32, k32⟩, rfl⟩
    z_KeyError := PySem.W.mg_none_of X G z_KeyError
    z_TypeError := PySem.W.mg_none_of X G z_TypeError
    z_ValueError := PySem.W.mg_none_of X G z_ValueError
    z_all := PySem.W.mg_none_of X G z_all
    z_bool := PySem.W.mg_none_of X G z_bool
    z_bytes := PySem.W.mg_none_of X G z_bytes
    z_dict := PySem.W.mg_none_of X G z_dict
    z_int := PySem.W.mg_none_of X G z_int
    z_isinstance := PySem.W.mg_none_of X G z_isinstance
    z_iter := PySem.W.mg_none_of X G z_iter
    z_len := PySem.W.mg_none_of X G z_len
    z_list := PySem.W.mg_none_of X G z_list
    z_range := PySem.W.mg_none_of X G z_range
    z_set := PySem.W.mg_none_of X G z_set
    z_sorted := PySem.W.mg_none_of X G z_sorted
    z_str := PySem.W.mg_none_of X G z_str
    z_tuple := PySem.W.mg_none_of X G z_tuple
    z_zip := PySem.W.mg_none_of X G z_zip
    g_HEX_DIGITS := ⟨_, PySem.W.mg_of X G g_HEX_DIGITS, ⟨_, rfl⟩⟩
    g_LETTERS := ⟨_, PySem.W.mg_of X G g_LETTERS, ⟨_, rfl⟩⟩
    g_SEGMENT_SIGNS := ⟨_, PySem.W.mg_of X G g_SEGMENT_SIGNS, ⟨_, rfl⟩⟩
    g_LONGEST_WORD := ⟨_, PySem.W.mg_of X G g_LONGEST_WORD, ⟨_, rfl⟩⟩
    g_LONGEST_TEXT := ⟨_, PySem.W.mg_of X G g_LONGEST_TEXT, ⟨_, rfl⟩⟩
    g_LONGEST_MESSAGE := ⟨_, PySem.W.mg_of X G g_LONGEST_MESSAGE, ⟨_, rfl⟩⟩
    g_LATEST := ⟨_, PySem.W.mg_of X G g_LATEST, ⟨_, rfl⟩⟩
    g_MOST_ENTRIES := ⟨_, PySem.W.mg_of X G g_MOST_ENTRIES, ⟨_, rfl⟩⟩
    g_MOST_PARENTS := ⟨_, PySem.W.mg_of X G g_MOST_PARENTS, ⟨_, rfl⟩⟩
    g_LONG_MODULUS := ⟨_, PySem.W.mg_of X G g_LONG_MODULUS, ⟨_, rfl⟩⟩
    g_SHORT_MODULUS := ⟨_, PySem.W.mg_of X G g_SHORT_MODULUS, ⟨_, rfl⟩⟩
    g_FACTOR := ⟨_, PySem.W.mg_of X G g_FACTOR, ⟨_, rfl⟩⟩
    g_FACTOR_2 := ⟨_, PySem.W.mg_of X G g_FACTOR_2, ⟨_, rfl⟩⟩
    g_FACTOR_4 := ⟨_, PySem.W.mg_of X G g_FACTOR_4, ⟨_, rfl⟩⟩
    g_FACTOR_8 := ⟨_, PySem.W.mg_of X G g_FACTOR_8, ⟨_, rfl⟩⟩
    g_ONES_8 := ⟨_, PySem.W.mg_of X G g_ONES_8, ⟨_, rfl⟩⟩
    g_BLOCK := ⟨_, PySem.W.mg_of X G g_BLOCK, ⟨_, rfl⟩⟩ }
  have cfF : CF K "ForkError" "ValueError.__new__" VE cF := ⟨_, _, _, _, _, _, _, _, _, _, _, _, _, xF⟩
  have cfX : CF K "Clash" "ValueError.__new__" (.ref cF :: VE) cX := ⟨_, _, _, _, _, _, _, _, _, _, _, _, _, xX⟩
  have hbE : ((Value.ref cF :: VE).contains (.type "BaseException")) = true := rfl
  have hbO : ((Value.ref cF :: VE).contains (.type "object")) = true := rfl
  have FX : C8.Fun K "__init__" "Clash.__init__" s_Clash_init iX (PySem.W.fnOf "__init__" "Clash.__init__" (C8.fnArgs s_Clash_init) (C8.fnBody s_Clash_init) (C8.fnScope s_Clash_init) .none kViX dciX pmiX aniX cdiX ctiX) := ⟨⟨_, _, _, _, _, _, _, _, _, _, rfl, liX, ciX⟩⟩
  have eX : ErrC K mg "Clash" "name" cX iX := ⟨PySem.W.mg_of X G eX_mg, cfX.oex (by show PySem.HandSPX.refsVE VE = true; decide +kernel) saX kCX hbE,
    cfX.xc PySem.F.excBase_ValueError (rve_ok _) (rve_pass _) hbO hbE saX kCX iCX tiX gaX ggX haX e_hn e_ht, nfX, _, fun P w base => ini_Clash FX, FX.binds rfl (fun _ _ _ _ _ _ us hl => match us, hl with | [_, _], _ => rfl)⟩
  have FC : FunD K "__init__" "Commit.__init__" (C8.fnArgs s_Commit_init) (C8.fnBody s_Commit_init) (C8.fnScope s_Commit_init) [V.ref pdA] [("message", V.str "")] fmCommit_init (PySem.W.fnOf "__init__" "Commit.__init__" (C8.fnArgs s_Commit_init) (C8.fnBody s_Commit_init) (C8.fnScope s_Commit_init) (.ref dC) (.ref kdC) dcmCommit_init pmmCommit_init anmCommit_init cdmCommit_init ctmCommit_init) :=
    ⟨⟨_, _, _, _, _, _, _, _, _, _, rfl, lmCommit_init, cmCommit_init, .inr ⟨(fun z => by cases z), dC, _, [.ref pdA], tn, rfl, e_dC, rfl, .cons rfl .nil⟩, .inr ⟨kdC, rfl, fun q hq => by rw [List.mem_singleton.mp hq]; exact ⟨_, e_kdC, ⟨_, rfl⟩⟩⟩⟩, kmCommit_init⟩
  have FG : FunD K "__init__" "Tag.__init__" (C8.fnArgs s_Tag_init) (C8.fnBody s_Tag_init) (C8.fnScope s_Tag_init) [] [("message", V.str "")] fmTag_init (PySem.W.fnOf "__init__" "Tag.__init__" (C8.fnArgs s_Tag_init) (C8.fnBody s_Tag_init) (C8.fnScope s_Tag_init) .none (.ref kdG) dcmTag_init pmmTag_init anmTag_init cdmTag_init ctmTag_init) :=
    ⟨⟨_, _, _, _, _, _, _, _, _, _, rfl, lmTag_init, cmTag_init, .inl ⟨rfl, rfl⟩, .inr ⟨kdG, rfl, fun q hq => by rw [List.mem_singleton.mp hq]; exact ⟨_, e_kdG, ⟨_, rfl⟩⟩⟩⟩, kmTag_init⟩
  have FSt : FunD K "__init__" "Store.__init__" (C8.fnArgs s_Store_init) (C8.fnBody s_Store_init) (C8.fnScope s_Store_init) [] [("short", V.bl false)] fmStore_init (PySem.W.fnOf "__init__" "Store.__init__" (C8.fnArgs s_Store_init) (C8.fnBody s_Store_init) (C8.fnScope s_Store_init) .none (.ref kdS) dcmStore_init pmmStore_init anmStore_init cdmStore_init ctmStore_init) :=
    ⟨⟨_, _, _, _, _, _, _, _, _, _, rfl, lmStore_init, cmStore_init, .inl ⟨rfl, rfl⟩, .inr ⟨kdS, rfl, fun q hq => by rw [List.mem_singleton.mp hq]; exact ⟨_, e_kdS, rfl⟩⟩⟩, kmStore_init⟩
  have FI : FunD K "id_of" "id_of" (C8.fnArgs s_id_of) (C8.fnBody s_id_of) (C8.fnScope s_id_of) [] [("short", V.bl false)] fdId (PySem.W.fnOf "id_of" "id_of" (C8.fnArgs s_id_of) (C8.fnBody s_id_of) (C8.fnScope s_id_of) .none (.ref kdI) dcdId pmdId andId cddId ctdId) :=
    ⟨⟨_, _, _, _, _, _, _, _, _, _, rfl, ldId, cdId, .inl ⟨rfl, rfl⟩, .inr ⟨kdI, rfl, fun q hq => by rw [List.mem_singleton.mp hq]; exact ⟨_, e_kdI, rfl⟩⟩⟩, kdId⟩
  have FU : FunD K "sum_of" "sum_of" (C8.fnArgs s_sum_of) (C8.fnBody s_sum_of) (C8.fnScope s_sum_of) [] [("short", V.bl false)] fdSum (PySem.W.fnOf "sum_of" "sum_of" (C8.fnArgs s_sum_of) (C8.fnBody s_sum_of) (C8.fnScope s_sum_of) .none (.ref kdU) dcdSum pmdSum andSum cddSum ctdSum) :=
    ⟨⟨_, _, _, _, _, _, _, _, _, _, rfl, ldSum, cdSum, .inl ⟨rfl, rfl⟩, .inr ⟨kdU, rfl, fun q hq => by rw [List.mem_singleton.mp hq]; exact ⟨_, e_kdU, rfl⟩⟩⟩, kdSum⟩
  have kC3f : IniK K CC "Commit.__init__" s_Commit_init ["self", "tree", "parents", "author", "time", "message"] 3 ["author", "time", "message"] (fun vs zs => vs ++ zs) := by
    obtain ⟨its, mv, b⟩ := FC.kbinds (ps := ["self", "tree", "parents", "author", "time", "message"]) 3 ["author", "time", "message"] [] (fun us its mv ws => us ++ ws) (fun z => by cases z) (fun z => by cases z) (fun q hq => by cases hq) (fun r1 r2 r3 r4 => r1.append r4)
      (fun T D doc pm an cdv ct us its mv ws h1 h2 h3 h4 => match us, its, mv, ws, h1, h2, h3, h4 with | [_, _, _], [_], [], [_, _, _], _, _, _, _ => ⟨_, rfl, rfl⟩)
    exact ⟨_, _, _, ⟨CC_mk, amCommit_init, imCommit_init, CC_kc⟩, ⟨⟨_, _, _, _, _, _, _, _, _, _, rfl, lmCommit_init, cmCommit_init⟩⟩, b⟩
  have kC3 : IniK K CC "Commit.__init__" s_Commit_init ["self", "tree", "parents", "author", "time", "message"] 3 ["author", "time"] (fun vs zs => vs ++ (zs ++ [.str ""])) := by
    obtain ⟨its, mv, b⟩ := FC.kbinds (ps := ["self", "tree", "parents", "author", "time", "message"]) 3 ["author", "time"] [("message", V.str "")] (fun us its mv ws => us ++ (ws ++ mv)) (fun z => by cases z) (fun z => by cases z) (fun q hq => hq) (fun r1 r2 r3 r4 => r1.append (r4.append r3))
      (fun T D doc pm an cdv ct us its mv ws h1 h2 h3 h4 => match us, its, mv, ws, h1, h2, h3, h4 with | [_, _, _], [_], [_], [_, _], _, _, _, _ => ⟨_, rfl, ⟨_, _, _, _, _, _, rfl, rfl, rfl⟩⟩)
    exact ⟨_, _, _, ⟨CC_mk, amCommit_init, imCommit_init, CC_kc⟩, ⟨⟨_, _, _, _, _, _, _, _, _, _, rfl, lmCommit_init, cmCommit_init⟩⟩, b⟩
  have kC2f : IniK K CC "Commit.__init__" s_Commit_init ["self", "tree", "parents", "author", "time", "message"] 2 ["author", "time", "message"] (fun vs zs => vs ++ (.ref pdA :: zs)) := by
    obtain ⟨its, mv, b⟩ := FC.kbinds (ps := ["self", "tree", "parents", "author", "time", "message"]) 2 ["author", "time", "message"] [] (fun us its mv ws => us ++ (its ++ ws)) (fun z => by cases z) (fun z => by cases z) (fun q hq => by cases hq) (fun r1 r2 r3 r4 => r1.append (r2.append r4))
      (fun T D doc pm an cdv ct us its mv ws h1 h2 h3 h4 => match us, its, mv, ws, h1, h2, h3, h4 with | [_, _], [_], [], [_, _, _], _, _, _, _ => ⟨_, rfl, rfl⟩)
    exact ⟨_, _, _, ⟨CC_mk, amCommit_init, imCommit_init, CC_kc⟩, ⟨⟨_, _, _, _, _, _, _, _, _, _, rfl, lmCommit_init, cmCommit_init⟩⟩, b⟩
  have kC2 : IniK K CC "Commit.__init__" s_Commit_init ["self", "tree", "parents", "author", "time", "message"] 2 ["author", "time"] (fun vs zs => vs ++ (.ref pdA :: (zs ++ [.str ""]))) := by
    obtain ⟨its, mv, b⟩ := FC.kbinds (ps := ["self", "tree", "parents", "author", "time", "message"]) 2 ["author", "time"] [("message", V.str "")] (fun us its mv ws => us ++ (its ++ (ws ++ mv))) (fun z => by cases z) (fun z => by cases z) (fun q hq => hq) (fun r1 r2 r3 r4 => r1.append (r2.append (r4.append r3)))
      (fun T D doc pm an cdv ct us its mv ws h1 h2 h3 h4 => match us, its, mv, ws, h1, h2, h3, h4 with | [_, _], [_], [_], [_, _], _, _, _, _ => ⟨_, rfl, ⟨_, _, _, _, _, _, rfl, rfl, rfl⟩⟩)
    exact ⟨_, _, _, ⟨CC_mk, amCommit_init, imCommit_init, CC_kc⟩, ⟨⟨_, _, _, _, _, _, _, _, _, _, rfl, lmCommit_init, cmCommit_init⟩⟩, b⟩
  have kG2 : IniK K CG "Tag.__init__" s_Tag_init ["self", "target", "label", "message"] 2 ["label", "message"] (fun vs zs => vs ++ zs) := by
    obtain ⟨mv, b⟩ := FG.kbinds0 (ps := ["self", "target", "label", "message"]) 2 ["label", "message"] [] (fun us mv ws => us ++ ws) (fun z => by cases z) (fun q hq => by cases hq) (fun r1 r3 r4 => r1.append r4)
      (fun D doc pm an cdv ct us mv ws h1 h3 h4 => match us, mv, ws, h1, h3, h4 with | [_, _], [], [_, _], _, _, _ => rfl)
    exact ⟨_, _, _, ⟨CG_mk, amTag_init, imTag_init, CG_kc⟩, ⟨⟨_, _, _, _, _, _, _, _, _, _, rfl, lmTag_init, cmTag_init⟩⟩, b⟩
  have kG1 : IniK K CG "Tag.__init__" s_Tag_init ["self", "target", "label", "message"] 2 ["label"] (fun vs zs => vs ++ (zs ++ [.str ""])) := by
    obtain ⟨mv, b⟩ := FG.kbinds0 (ps := ["self", "target", "label", "message"]) 2 ["label"] [("message", V.str "")] (fun us mv ws => us ++ (ws ++ mv)) (fun z => by cases z) (fun q hq => hq) (fun r1 r3 r4 => r1.append (r4.append r3))
      (fun D doc pm an cdv ct us mv ws h1 h3 h4 => match us, mv, ws, h1, h3, h4 with | [_, _], [_], [_], _, _, _ => ⟨_, _, _, _, _, _, rfl, rfl, rfl⟩)
    exact ⟨_, _, _, ⟨CG_mk, amTag_init, imTag_init, CG_kc⟩, ⟨⟨_, _, _, _, _, _, _, _, _, _, rfl, lmTag_init, cmTag_init⟩⟩, b⟩
  have kS1 : IniK K CS "Store.__init__" s_Store_init ["self", "short"] 1 ["short"] (fun vs zs => vs ++ zs) := by
    obtain ⟨mv, b⟩ := FSt.kbinds0 (ps := ["self", "short"]) 1 ["short"] [] (fun us mv ws => us ++ ws) (fun z => by cases z) (fun q hq => by cases hq) (fun r1 r3 r4 => r1.append r4)
      (fun D doc pm an cdv ct us mv ws h1 h3 h4 => match us, mv, ws, h1, h3, h4 with | [_], [], [_], _, _, _ => rfl)
    exact ⟨_, _, _, ⟨CS_mk, amStore_init, imStore_init, CS_kc⟩, ⟨⟨_, _, _, _, _, _, _, _, _, _, rfl, lmStore_init, cmStore_init⟩⟩, b⟩
  have dId : DefK K mg "id_of" s_id_of ["thing", "short"] 1 ["short"] (fun vs zs => vs ++ zs) := by
    obtain ⟨mv, b⟩ := FI.kbinds0 (ps := ["thing", "short"]) 1 ["short"] [] (fun us mv ws => us ++ ws) (fun z => by cases z) (fun q hq => by cases hq) (fun r1 r3 r4 => r1.append r4)
      (fun D doc pm an cdv ct us mv ws h1 h3 h4 => match us, mv, ws, h1, h3, h4 with | [_], [], [_], _, _, _ => rfl)
    exact ⟨_, _, _, ⟨⟨_, _, _, _, _, _, _, _, _, _, rfl, ldId, cdId⟩⟩, PySem.W.mg_of X G adId, kdId, b⟩
  have dSum : DefK K mg "sum_of" s_sum_of ["data", "short"] 1 ["short"] (fun vs zs => vs ++ zs) := by
    obtain ⟨mv, b⟩ := FU.kbinds0 (ps := ["data", "short"]) 1 ["short"] [] (fun us mv ws => us ++ ws) (fun z => by cases z) (fun q hq => by cases hq) (fun r1 r3 r4 => r1.append r4)
      (fun D doc pm an cdv ct us mv ws h1 h3 h4 => match us, mv, ws, h1, h3, h4 with | [_], [], [_], _, _, _ => rfl)
    exact ⟨_, _, _, ⟨⟨_, _, _, _, _, _, _, _, _, _, rfl, ldSum, cdSum⟩⟩, PySem.W.mg_of X G adSum, kdSum, b⟩
  have kBB : PySem.W.kitOne K (.ref CB) (.ref CB) = some true := by unfold PySem.W.kitOne; rw [if_pos (beq_self_eq_true _)]
  have inB : C8.InsC K CB := ⟨⟨CB_pg, CB_hd, CB_po, CB_sa⟩, CB_ha, e_hn, e_ht, CB_hm, kBB⟩
  have kTT : PySem.W.kitOne K (.ref CT) (.ref CT) = some true := by unfold PySem.W.kitOne; rw [if_pos (beq_self_eq_true _)]
  have inT : C8.InsC K CT := ⟨⟨CT_pg, CT_hd, CT_po, CT_sa⟩, CT_ha, e_hn, e_ht, CT_hm, kTT⟩
  have kCC : PySem.W.kitOne K (.ref CC) (.ref CC) = some true := by unfold PySem.W.kitOne; rw [if_pos (beq_self_eq_true _)]
  have inC : C8.InsC K CC := ⟨⟨CC_pg, CC_hd, CC_po, CC_sa⟩, CC_ha, e_hn, e_ht, CC_hm, kCC⟩
  have kGG : PySem.W.kitOne K (.ref CG) (.ref CG) = some true := by unfold PySem.W.kitOne; rw [if_pos (beq_self_eq_true _)]
  have inG : C8.InsC K CG := ⟨⟨CG_pg, CG_hd, CG_po, CG_sa⟩, CG_ha, e_hn, e_ht, CG_hm, kGG⟩
  have TO : TopO K mg ⟨CB, CT, CC, CG⟩ CS cX iX ek pdA := { T with
    ins := fun i hi => match i, hi with
      | 0, _ => inB
      | 1, _ => inT
      | 2, _ => inC
      | 3, _ => inG
      | n + 4, h => absurd h (by omega)
    kk := fun i j hi hj => match i, j, hi, hj with
      | 0, 0, _, _ => kBB
      | 0, 1, _, _ => kBT
      | 0, 2, _, _ => kBC
      | 0, 3, _, _ => kBG
      | 0, n + 4, _, h => absurd h (by omega)
      | 1, 0, _, _ => kTB
      | 1, 1, _, _ => kTT
      | 1, 2, _, _ => kTC
      | 1, 3, _, _ => kTG
      | 1, n + 4, _, h => absurd h (by omega)
      | 2, 0, _, _ => kCB
      | 2, 1, _, _ => kCT
      | 2, 2, _, _ => kCC
      | 2, 3, _, _ => kCG
      | 2, n + 4, _, h => absurd h (by omega)
      | 3, 0, _, _ => kGB
      | 3, 1, _, _ => kGT
      | 3, 2, _, _ => kGC
      | 3, 3, _, _ => kGG
      | 3, n + 4, _, h => absurd h (by omega)
      | n + 4, _, h, _ => absurd h (by omega)
    ne := fun i hi => match i, hi with
      | 0, _ => CB_ne
      | 1, _ => CT_ne
      | 2, _ => CC_ne
      | 3, _ => CG_ne
      | n + 4, h => absurd h (by omega)
    cS := ⟨CS_pg, CS_hd, CS_po, CS_sa⟩
    mgB := PySem.W.mg_of X G eB_mg
    mgT := PySem.W.mg_of X G eT_mg
    mgC := PySem.W.mg_of X G eC_mg
    mgG := PySem.W.mg_of X G eG_mg
    mgS := PySem.W.mg_of X G eS_mg
    g_ENTRY_KINDS := ⟨_, PySem.W.mg_of X G g_EK, rfl⟩
    kE := ⟨_, _, _, t_ek, rfl, rfl, (by show 3 ≤ sizeLine; decide), .cons ⟨_, rfl⟩ (.cons ⟨_, rfl⟩ (.cons ⟨_, rfl⟩ .nil))⟩
    kP := ⟨_, _, _, t_pd, rfl, rfl, (by show 0 ≤ sizeLine; decide), .nil⟩
    iniB := ⟨_, _, ⟨CB_mk, amBlob_init, imBlob_init, CB_kc⟩, ⟨⟨_, _, _, _, _, _, _, _, _, _, rfl, lmBlob_init, cmBlob_init⟩⟩, rfl⟩
    iniT := ⟨_, _, ⟨CT_mk, amTree_init, imTree_init, CT_kc⟩, ⟨⟨_, _, _, _, _, _, _, _, _, _, rfl, lmTree_init, cmTree_init⟩⟩, rfl⟩
    kC3f := kC3f
    kC3 := kC3
    kC2f := kC2f
    kC2 := kC2
    kG2 := kG2
    kG1 := kG1
    kS1 := kS1
    dId := dId
    dSum := dSum
    eqB := ⟨_, _, ⟨⟨_, _, _, _, _, _, _, _, _, _, rfl, lmBlob_eq, cmBlob_eq⟩⟩, ⟨amBlob_eq, imBlob_eq, kmBlob_eq⟩, rfl⟩
    eqT := ⟨_, _, ⟨⟨_, _, _, _, _, _, _, _, _, _, rfl, lmTree_eq, cmTree_eq⟩⟩, ⟨amTree_eq, imTree_eq, kmTree_eq⟩, rfl⟩
    eqC := ⟨_, _, ⟨⟨_, _, _, _, _, _, _, _, _, _, rfl, lmCommit_eq, cmCommit_eq⟩⟩, ⟨amCommit_eq, imCommit_eq, kmCommit_eq⟩, rfl⟩
    eqG := ⟨_, _, ⟨⟨_, _, _, _, _, _, _, _, _, _, rfl, lmTag_eq, cmTag_eq⟩⟩, ⟨amTag_eq, imTag_eq, kmTag_eq⟩, rfl⟩
    pBtext := ⟨_, _, _, ⟨apBlob_text, gpBlob_text, tpBlob_text, _, rpBlob_text_⟩, ⟨⟨_, _, _, _, _, _, _, _, _, _, rfl, lpBlob_text, cpBlob_text⟩⟩, rfl⟩
    nB_text := nB_text
    pTentries := ⟨_, _, _, ⟨apTree_entries, gpTree_entries, tpTree_entries, _, rpTree_entries_⟩, ⟨⟨_, _, _, _, _, _, _, _, _, _, rfl, lpTree_entries, cpTree_entries⟩⟩, rfl⟩
    nT_entries := nT_entries
    pCtree := ⟨_, _, _, ⟨apCommit_tree, gpCommit_tree, tpCommit_tree, _, rpCommit_tree_⟩, ⟨⟨_, _, _, _, _, _, _, _, _, _, rfl, lpCommit_tree, cpCommit_tree⟩⟩, rfl⟩
    nC_tree := nC_tree
    pCparents := ⟨_, _, _, ⟨apCommit_parents, gpCommit_parents, tpCommit_parents, _, rpCommit_parents_⟩, ⟨⟨_, _, _, _, _, _, _, _, _, _, rfl, lpCommit_parents, cpCommit_parents⟩⟩, rfl⟩
    nC_parents := nC_parents
    pCauthor := ⟨_, _, _, ⟨apCommit_author, gpCommit_author, tpCommit_author, _, rpCommit_author_⟩, ⟨⟨_, _, _, _, _, _, _, _, _, _, rfl, lpCommit_author, cpCommit_author⟩⟩, rfl⟩
    nC_author := nC_author
    pCtime := ⟨_, _, _, ⟨apCommit_time, gpCommit_time, tpCommit_time, _, rpCommit_time_⟩, ⟨⟨_, _, _, _, _, _, _, _, _, _, rfl, lpCommit_time, cpCommit_time⟩⟩, rfl⟩
    nC_time := nC_time
    pCmessage := ⟨_, _, _, ⟨apCommit_message, gpCommit_message, tpCommit_message, _, rpCommit_message_⟩, ⟨⟨_, _, _, _, _, _, _, _, _, _, rfl, lpCommit_message, cpCommit_message⟩⟩, rfl⟩
    nC_message := nC_message
    pGtarget := ⟨_, _, _, ⟨apTag_target, gpTag_target, tpTag_target, _, rpTag_target_⟩, ⟨⟨_, _, _, _, _, _, _, _, _, _, rfl, lpTag_target, cpTag_target⟩⟩, rfl⟩
    nG_target := nG_target
    pGlabel := ⟨_, _, _, ⟨apTag_label, gpTag_label, tpTag_label, _, rpTag_label_⟩, ⟨⟨_, _, _, _, _, _, _, _, _, _, rfl, lpTag_label, cpTag_label⟩⟩, rfl⟩
    nG_label := nG_label
    pGmessage := ⟨_, _, _, ⟨apTag_message, gpTag_message, tpTag_message, _, rpTag_message_⟩, ⟨⟨_, _, _, _, _, _, _, _, _, _, rfl, lpTag_message, cpTag_message⟩⟩, rfl⟩
    nG_message := nG_message
    nS_short := nS_short
    nS_things := nS_things
    mSput := ⟨_, _, ⟨⟨_, _, _, _, _, _, _, _, _, _, rfl, lmStore_put, cmStore_put⟩⟩, ⟨amStore_put, imStore_put, kmStore_put⟩, rfl⟩
    mSgetitem := ⟨_, _, ⟨⟨_, _, _, _, _, _, _, _, _, _, rfl, lmStore_getitem, cmStore_getitem⟩⟩, ⟨amStore_getitem, imStore_getitem, kmStore_getitem⟩, rfl⟩
    mScontains := ⟨_, _, ⟨⟨_, _, _, _, _, _, _, _, _, _, rfl, lmStore_contains, cmStore_contains⟩⟩, ⟨amStore_contains, imStore_contains, kmStore_contains⟩, rfl⟩
    mSlen := ⟨_, _, ⟨⟨_, _, _, _, _, _, _, _, _, _, rfl, lmStore_len, cmStore_len⟩⟩, ⟨amStore_len, imStore_len, kmStore_len⟩, rfl⟩
    eX := eX
    exX := cfX.exm cfX hbE (by rw [List.contains_cons, beq_self_eq_true]; rfl) }
  exact ⟨PySem.W.fnOf "law" "law" (C8.fnArgs s_law) (C8.fnBody s_law) (C8.fnScope s_law) .none kV32 dc32 pm32 an32 cd32 ct32, fun s v => .of_eq rfl, fun base _ _ => ok_law TO ⟨⟨_, _, _, _, _, _, _, _, _, _, rfl, l32, c32⟩⟩⟩
end Fk
open PySem PySem.W PyProof.Rows
set_option maxHeartbeats 0 in
theorem PySem.Challenge.cw_forkhaul_k46_one_field_alone_holds : PySem.Challenge.rw_forkhaul_k46_one_field_alone.Holds := by
  w_on; o_law; k_head; (case hw => w_witness2)
  k_fill
  refine L2.walk_of (l := PySem.Challenge.rw_forkhaul_k46_one_field_alone) (n := 63) (k := 10) (x := "_law_script") (CX := fun _ => C8.CX0) (sp := fun w => Fk.spLaw _) rfl (by decide) rfl ⟨rfl, by decide, by decide⟩ (fun w h Y => PySem.W.kIn_of Y) ?F (fun _ _ a ns hl _ hS => ⟨a, ns, rfl, hS, hl, fun _ => rfl⟩) (fun _ _ _ _ _ h => h)
  case F =>
    intro w mg fa h KX G hmg
    refine' Fk.all_mk KX G hmg ?a1 ?l1 ?c1 ?k1 ?a2 ?l2 ?c2 ?k2 ?a3 ?l3 ?c3 ?k3 ?a4 ?l4 ?c4 ?k4 ?a5 ?l5 ?c5 ?k5 ?a6 ?l6 ?c6 ?k6 ?a7 ?l7 ?c7 ?k7 ?a8 ?l8 ?c8 ?k8 ?a9 ?l9 ?c9 ?k9 ?a10 ?l10 ?c10 ?k10 ?a11 ?l11 ?c11 ?k11 ?a12 ?l12 ?c12 ?k12 ?a13 ?l13 ?c13 ?k13 ?a14 ?l14 ?c14 ?k14 ?a15 ?l15 ?c15 ?k15 ?a16 ?l16 ?c16 ?k16 ?a17 ?l17 ?c17 ?k17 ?a18 ?l18 ?c18 ?k18 ?a19 ?l19 ?c19 ?k19 ?a20 ?l20 ?c20 ?k20 ?a21 ?l21 ?c21 ?k21 ?a22 ?l22 ?c22 ?k22 ?a23 ?l23 ?c23 ?k23 ?a24 ?l24 ?c24 ?k24 ?a25 ?l25 ?c25 ?k25 ?a26 ?l26 ?c26 ?k26 ?a27 ?l27 ?c27 ?k27 ?a28 ?l28 ?c28 ?k28 ?a29 ?l29 ?c29 ?k29 ?a30 ?l30 ?c30 ?k30 ?a31 ?l31 ?c31 ?k31 ?a32 ?l32 ?c32 ?k32 ?z_KeyError ?z_TypeError ?z_ValueError ?z_all ?z_bool ?z_bytes ?z_dict ?z_int ?z_isinstance ?z_iter ?z_len ?z_list ?z_range ?z_set ?z_sorted ?z_str ?z_tuple ?z_zip ?g_HEX_DIGITS ?g_LETTERS ?g_SEGMENT_SIGNS ?g_LONGEST_WORD ?g_LONGEST_TEXT ?g_LONGEST_MESSAGE ?g_LATEST ?g_MOST_ENTRIES ?g_MOST_PARENTS ?g_LONG_MODULUS ?g_SHORT_MODULUS ?g_FACTOR ?g_FACTOR_2 ?g_FACTOR_4 ?g_FACTOR_8 ?g_ONES_8 ?g_BLOCK ?eB_mg ?eT_mg ?eC_mg ?eG_mg ?eS_mg ?eF_mg ?eX_mg ?CB_pg ?CB_hd ?CB_po ?CB_sa ?CB_mk ?CB_kc ?CB_ha ?CB_hm ?CB_ne ?CT_pg ?CT_hd ?CT_po ?CT_sa ?CT_mk ?CT_kc ?CT_ha ?CT_hm ?CT_ne ?CC_pg ?CC_hd ?CC_po ?CC_sa ?CC_mk ?CC_kc ?CC_ha ?CC_hm ?CC_ne ?CG_pg ?CG_hd ?CG_po ?CG_sa ?CG_mk ?CG_kc ?CG_ha ?CG_hm ?CG_ne ?CS_pg ?CS_hd ?CS_po ?CS_sa ?CS_mk ?CS_kc ?kBT ?kBC ?kBG ?kTB ?kTC ?kTG ?kCB ?kCT ?kCG ?kGB ?kGT ?kGC ?e_hn ?e_ht ?amBlob_init ?imBlob_init ?lmBlob_init ?cmBlob_init ?kmBlob_init ?amTree_init ?imTree_init ?lmTree_init ?cmTree_init ?kmTree_init ?amCommit_init ?imCommit_init ?lmCommit_init ?cmCommit_init ?kmCommit_init ?amTag_init ?imTag_init ?lmTag_init ?cmTag_init ?kmTag_init ?amStore_init ?imStore_init ?lmStore_init ?cmStore_init ?kmStore_init ?amBlob_eq ?imBlob_eq ?lmBlob_eq ?cmBlob_eq ?kmBlob_eq ?amTree_eq ?imTree_eq ?lmTree_eq ?cmTree_eq ?kmTree_eq ?amCommit_eq ?imCommit_eq ?lmCommit_eq ?cmCommit_eq ?kmCommit_eq ?amTag_eq ?imTag_eq ?lmTag_eq ?cmTag_eq ?kmTag_eq ?amStore_put ?imStore_put ?lmStore_put ?cmStore_put ?kmStore_put ?amStore_getitem ?imStore_getitem ?lmStore_getitem ?cmStore_getitem ?kmStore_getitem ?amStore_contains ?imStore_contains ?lmStore_contains ?cmStore_contains ?kmStore_contains ?amStore_len ?imStore_len ?lmStore_len ?cmStore_len ?kmStore_len ?apBlob_text ?gpBlob_text ?tpBlob_text ?rpBlob_text_ ?lpBlob_text ?cpBlob_text ?nB_text ?apTree_entries ?gpTree_entries ?tpTree_entries ?rpTree_entries_ ?lpTree_entries ?cpTree_entries ?nT_entries ?apCommit_tree ?gpCommit_tree ?tpCommit_tree ?rpCommit_tree_ ?lpCommit_tree ?cpCommit_tree ?nC_tree ?apCommit_parents ?gpCommit_parents ?tpCommit_parents ?rpCommit_parents_ ?lpCommit_parents ?cpCommit_parents ?nC_parents ?apCommit_author ?gpCommit_author ?tpCommit_author ?rpCommit_author_ ?lpCommit_author ?cpCommit_author ?nC_author ?apCommit_time ?gpCommit_time ?tpCommit_time ?rpCommit_time_ ?lpCommit_time ?cpCommit_time ?nC_time ?apCommit_message ?gpCommit_message ?tpCommit_message ?rpCommit_message_ ?lpCommit_message ?cpCommit_message ?nC_message ?apTag_target ?gpTag_target ?tpTag_target ?rpTag_target_ ?lpTag_target ?cpTag_target ?nG_target ?apTag_label ?gpTag_label ?tpTag_label ?rpTag_label_ ?lpTag_label ?cpTag_label ?nG_label ?apTag_message ?gpTag_message ?tpTag_message ?rpTag_message_ ?lpTag_message ?cpTag_message ?nG_message ?nS_short ?nS_things ?adId ?ldId ?cdId ?kdId ?adSum ?ldSum ?cdSum ?kdSum ?e_kdC ?e_kdG ?e_kdS ?e_kdI ?e_kdU ?e_dC ?t_pd ?g_EK ?t_ek ?xF ?xX ?saX ?kCX ?iCX ?gaX ?ggX ?haX ?nfX ?tiX ?liX ?ciX
    (case a1 => k_is); (case l1 => k_is); (case c1 => k_is); (case k1 => k_is); (case a2 => k_is); (case l2 => k_is); (case c2 => k_is); (case k2 => k_is); (case a3 => k_is); (case l3 => k_is); (case c3 => k_is); (case k3 => k_is); (case a4 => k_is); (case l4 => k_is); (case c4 => k_is); (case k4 => k_is); (case a5 => k_is); (case l5 => k_is); (case c5 => k_is); (case k5 => k_is); (case a6 => k_is); (case l6 => k_is); (case c6 => k_is); (case k6 => k_is); (case a7 => k_is); (case l7 => k_is); (case c7 => k_is); (case k7 => k_is); (case a8 => k_is); (case l8 => k_is); (case c8 => k_is); (case k8 => k_is); (case a9 => k_is); (case l9 => k_is); (case c9 => k_is); (case k9 => k_is); (case a10 => k_is); (case l10 => k_is); (case c10 => k_is); (case k10 => k_is); (case a11 => k_is); (case l11 => k_is); (case c11 => k_is); (case k11 => k_is); (case a12 => k_is); (case l12 => k_is); (case c12 => k_is); (case k12 => k_is); (case a13 => k_is); (case l13 => k_is); (case c13 => k_is); (case k13 => k_is); (case a14 => k_is); (case l14 => k_is); (case c14 => k_is); (case k14 => k_is); (case a15 => k_is); (case l15 => k_is); (case c15 => k_is); (case k15 => k_is); (case a16 => k_is); (case l16 => k_is); (case c16 => k_is); (case k16 => k_is); (case a17 => k_is); (case l17 => k_is); (case c17 => k_is); (case k17 => k_is); (case a18 => k_is); (case l18 => k_is); (case c18 => k_is); (case k18 => k_is); (case a19 => k_is); (case l19 => k_is); (case c19 => k_is); (case k19 => k_is); (case a20 => k_is); (case l20 => k_is); (case c20 => k_is); (case k20 => k_is); (case a21 => k_is); (case l21 => k_is); (case c21 => k_is); (case k21 => k_is); (case a22 => k_is); (case l22 => k_is); (case c22 => k_is); (case k22 => k_is); (case a23 => k_is); (case l23 => k_is); (case c23 => k_is); (case k23 => k_is); (case a24 => k_is); (case l24 => k_is); (case c24 => k_is); (case k24 => k_is); (case a25 => k_is); (case l25 => k_is); (case c25 => k_is); (case k25 => k_is); (case a26 => k_is); (case l26 => k_is); (case c26 => k_is); (case k26 => k_is); (case a27 => k_is); (case l27 => k_is); (case c27 => k_is); (case k27 => k_is); (case a28 => k_is); (case l28 => k_is); (case c28 => k_is); (case k28 => k_is); (case a29 => k_is); (case l29 => k_is); (case c29 => k_is); (case k29 => k_is); (case a30 => k_is); (case l30 => k_is); (case c30 => k_is); (case k30 => k_is); (case a31 => k_is); (case l31 => k_is); (case c31 => k_is); (case k31 => k_is); (case a32 => k_is); (case l32 => k_is); (case c32 => k_is); (case k32 => k_is); (case z_KeyError => k_is); (case z_TypeError => k_is); (case z_ValueError => k_is); (case z_all => k_is); (case z_bool => k_is); (case z_bytes => k_is); (case z_dict => k_is); (case z_int => k_is); (case z_isinstance => k_is); (case z_iter => k_is); (case z_len => k_is); (case z_list => k_is); (case z_range => k_is); (case z_set => k_is); (case z_sorted => k_is); (case z_str => k_is); (case z_tuple => k_is); (case z_zip => k_is); (case g_HEX_DIGITS => k_is); (case g_LETTERS => k_is); (case g_SEGMENT_SIGNS => k_is); (case g_LONGEST_WORD => k_is); (case g_LONGEST_TEXT => k_is); (case g_LONGEST_MESSAGE => k_is); (case g_LATEST => k_is); (case g_MOST_ENTRIES => k_is); (case g_MOST_PARENTS => k_is); (case g_LONG_MODULUS => k_is); (case g_SHORT_MODULUS => k_is); (case g_FACTOR => k_is); (case g_FACTOR_2 => k_is); (case g_FACTOR_4 => k_is); (case g_FACTOR_8 => k_is); (case g_ONES_8 => k_is); (case g_BLOCK => k_is); (case eB_mg => k_is); (case eT_mg => k_is); (case eC_mg => k_is); (case eG_mg => k_is); (case eS_mg => k_is); (case eF_mg => k_is); (case eX_mg => k_is); (case CB_pg => k_is); (case CB_hd => k_is); (case CB_po => k_is); (case CB_sa => k_is); (case CB_mk => k_is); (case CB_kc => k_is); (case CB_ha => k_is); (case CB_hm => k_is); (case CB_ne => k_is); (case CT_pg => k_is); (case CT_hd => k_is); (case CT_po => k_is); (case CT_sa => k_is); (case CT_mk => k_is); (case CT_kc => k_is); (case CT_ha => k_is); (case CT_hm => k_is); (case CT_ne => k_is); (case CC_pg => k_is); (case CC_hd => k_is); (case CC_po => k_is); (case CC_sa => k_is); (case CC_mk => k_is); (case CC_kc => k_is); (case CC_ha => k_is); (case CC_hm => k_is); (case CC_ne => k_is); (case CG_pg => k_is); (case CG_hd => k_is); (case CG_po => k_is); (case CG_sa => k_is); (case CG_mk => k_is); (case CG_kc => k_is); (case CG_ha => k_is); (case CG_hm => k_is); (case CG_ne => k_is); (case CS_pg => k_is); (case CS_hd => k_is); (case CS_po => k_is); (case CS_sa => k_is); (case CS_mk => k_is); (case CS_kc => k_is); (case kBT => kit_is); (case kBC => kit_is); (case kBG => kit_is); (case kTB => kit_is); (case kTC => kit_is); (case kTG => kit_is); (case kCB => kit_is); (case kCT => kit_is); (case kCG => kit_is); (case kGB => kit_is); (case kGT => kit_is); (case kGC => kit_is); (case e_hn => k_is); (case e_ht => k_is); (case amBlob_init => k_is); (case imBlob_init => k_is); (case lmBlob_init => k_is); (case cmBlob_init => k_is); (case kmBlob_init => k_is); (case amTree_init => k_is); (case imTree_init => k_is); (case lmTree_init => k_is); (case cmTree_init => k_is); (case kmTree_init => k_is); (case amCommit_init => k_is); (case imCommit_init => k_is); (case lmCommit_init => k_is); (case cmCommit_init => k_is); (case kmCommit_init => k_is); (case amTag_init => k_is); (case imTag_init => k_is); (case lmTag_init => k_is); (case cmTag_init => k_is); (case kmTag_init => k_is); (case amStore_init => k_is); (case imStore_init => k_is); (case lmStore_init => k_is); (case cmStore_init => k_is); (case kmStore_init => k_is); (case amBlob_eq => k_is); (case imBlob_eq => k_is); (case lmBlob_eq => k_is); (case cmBlob_eq => k_is); (case kmBlob_eq => k_is); (case amTree_eq => k_is); (case imTree_eq => k_is); (case lmTree_eq => k_is); (case cmTree_eq => k_is); (case kmTree_eq => k_is); (case amCommit_eq => k_is); (case imCommit_eq => k_is); (case lmCommit_eq => k_is); (case cmCommit_eq => k_is); (case kmCommit_eq => k_is); (case amTag_eq => k_is); (case imTag_eq => k_is); (case lmTag_eq => k_is); (case cmTag_eq => k_is); (case kmTag_eq => k_is); (case amStore_put => k_is); (case imStore_put => k_is); (case lmStore_put => k_is); (case cmStore_put => k_is); (case kmStore_put => k_is); (case amStore_getitem => k_is); (case imStore_getitem => k_is); (case lmStore_getitem => k_is); (case cmStore_getitem => k_is); (case kmStore_getitem => k_is); (case amStore_contains => k_is); (case imStore_contains => k_is); (case lmStore_contains => k_is); (case cmStore_contains => k_is); (case kmStore_contains => k_is); (case amStore_len => k_is); (case imStore_len => k_is); (case lmStore_len => k_is); (case cmStore_len => k_is); (case kmStore_len => k_is); (case apBlob_text => k_is); (case gpBlob_text => k_is); (case tpBlob_text => k_is); (case rpBlob_text_ => k_is); (case lpBlob_text => k_is); (case cpBlob_text => k_is); (case nB_text => k_is); (case apTree_entries => k_is); (case gpTree_entries => k_is); (case tpTree_entries => k_is); (case rpTree_entries_ => k_is); (case lpTree_entries => k_is); (case cpTree_entries => k_is); (case nT_entries => k_is); (case apCommit_tree => k_is); (case gpCommit_tree => k_is); (case tpCommit_tree => k_is); (case rpCommit_tree_ => k_is); (case lpCommit_tree => k_is); (case cpCommit_tree => k_is); (case nC_tree => k_is); (case apCommit_parents => k_is); (case gpCommit_parents => k_is); (case tpCommit_parents => k_is); (case rpCommit_parents_ => k_is); (case lpCommit_parents => k_is); (case cpCommit_parents => k_is); (case nC_parents => k_is); (case apCommit_author => k_is); (case gpCommit_author => k_is); (case tpCommit_author => k_is); (case rpCommit_author_ => k_is); (case lpCommit_author => k_is); (case cpCommit_author => k_is); (case nC_author => k_is); (case apCommit_time => k_is); (case gpCommit_time => k_is); (case tpCommit_time => k_is); (case rpCommit_time_ => k_is); (case lpCommit_time => k_is); (case cpCommit_time => k_is); (case nC_time => k_is); (case apCommit_message => k_is); (case gpCommit_message => k_is); (case tpCommit_message => k_is); (case rpCommit_message_ => k_is); (case lpCommit_message => k_is); (case cpCommit_message => k_is); (case nC_message => k_is); (case apTag_target => k_is); (case gpTag_target => k_is); (case tpTag_target => k_is); (case rpTag_target_ => k_is); (case lpTag_target => k_is); (case cpTag_target => k_is); (case nG_target => k_is); (case apTag_label => k_is); (case gpTag_label => k_is); (case tpTag_label => k_is); (case rpTag_label_ => k_is); (case lpTag_label => k_is); (case cpTag_label => k_is); (case nG_label => k_is); (case apTag_message => k_is); (case gpTag_message => k_is); (case tpTag_message => k_is); (case rpTag_message_ => k_is); (case lpTag_message => k_is); (case cpTag_message => k_is); (case nG_message => k_is); (case nS_short => k_is); (case nS_things => k_is); (case adId => k_is); (case ldId => k_is); (case cdId => k_is); (case kdId => k_is); (case adSum => k_is); (case ldSum => k_is); (case cdSum => k_is); (case kdSum => k_is); (case e_kdC => k_is); (case e_kdG => k_is); (case e_kdS => k_is); (case e_kdI => k_is); (case e_kdU => k_is); (case e_dC => k_is); (case t_pd => k_is); (case g_EK => k_is); (case t_ek => k_is); (case xF => k_is); (case xX => k_is); (case saX => k_is); (case kCX => k_is); (case iCX => k_is); (case gaX => k_is); (case ggX => k_is); (case haX => k_is); (case nfX => k_is); (case tiX => k_is); (case liX => k_is); (case ciX => k_is)


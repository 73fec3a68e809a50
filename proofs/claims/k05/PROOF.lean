import PyProof.Rows.All
import Wide.All
import OpenK.AllK
import Wide.FinOn
import HandS.ForMost
import HandS.Codes
import HandS.IsInst
import HandS.Wide
import HandS.CallLocal
import HandS.StrMore
import HandS.Replace
import HandS.ReplaceDef
import HandS.ReplaceLit
import HandS.ReplaceList
import Wide.Txt
import HandS.Exc
import HandS.ExcInit
import HandS.Defaults
import HandS.MakeKw
import HandS.TryOnly
import HandS.ExcField
import KE.KExcIs
import KE.KExcInit
import PyProof.P3Eq
import HandS.ExcIs
import HandS.OwnEq
import HandS.Property
import HandS.ExcOwn
import HandS.NamedTupSort
import KE.KOpsOwn
import PyProof.InstNe
import HandS.MakeKwOnly
import PyProof.InstEq
import PyProof.DictUpdate
import PyProof.DictDisplay
import HandS.DictComp
import KE.KEqDict
import HandS.More
import HandS.TryMany
import HandS.WordsDict
import PyProof.Rows.StrMeet
import HandS.RaiseMore
import HandS.TupAny
import KE.KRevSl
import PyProof.SliceList
import HandS.Bytes
import KE.KStrBytes
import HandS.FStr
import KE.KxField
import PyProof.FString3
import HandS.Zip
import KE.KBytesWalk
import HandS.IterVal
import PyProof.ZipIter
import HandS.Iter
import HandS.List
import HandS.Conv
import PyProof.ListStr
import HandS.SetTxt0
import HandS.SetFor
import HandS.TupSets
import HandS.Strs
import KE.KBytesFind
import KE.KxDecode
import KE.KBytesDec
import HandS.Text
import HandS.BytesMake
import PySem.Challenge.RW_forkhaul_k05_bytes_that_are_none
import HandS.Style
set_option Elab.async false
set_option linter.all false
set_option maxRecDepth 100000
set_option maxHeartbeats 4000000
/-! The base of the proofs: repetition of texts, defs by their names, comprehensions by an invariant, frames. -/
namespace Fk
open PySem PySem.Spec PyProof.Rows L2

/-! ### a text repeated -/
theorem fold_cps (x : Array Nat) : ∀ (n : Nat) (acc : Array Nat), ((List.replicate n x).foldl (· ++ ·) acc).toList = acc.toList ++ (List.replicate n x.toList).flatten
  | 0, acc => by simp
  | n + 1, acc => by
    rw [List.replicate_succ, List.foldl_cons, fold_cps x n (acc ++ x), List.replicate_succ, List.flatten_cons, Array.toList_append, List.append_assoc]
def repS (x : Str) (n : Nat) : Str := ⟨(List.replicate n x.cps.toList).flatten.toArray⟩
theorem tl_rep (x : Str) (n : Nat) : TL.tl (repS x n) = (List.replicate n (TL.tl x)).flatten := rfl
theorem rep_len (x : Str) (n : Nat) : (repS x n).length = n * x.length := by
  rw [TL.len_tl, tl_rep, TL.len_tl]
  induction n with
  | zero => simp
  | succ n ih => rw [List.replicate_succ, List.flatten_cons, List.length_append, ih, Nat.succ_mul, Nat.add_comm]
theorem tooLong_no {n : Nat} (h : n ≤ 16777216) : Builtin.Str.tooLong n = false := by
  unfold Builtin.Str.tooLong
  have e : (16777216 : Nat) = sizeLine ∨ 16777216 ≤ sizeLine := by right; decide
  have h2 : 16777216 ≤ sizeLine := by rcases e with e | e <;> omega
  simp
  omega
def rMulSI : R2 := fun x y H Q => ∃ (z : Str) (k : Int), x = .str z ∧ y = .int k ∧ 0 ≤ k ∧ k ≤ 10000 ∧ z.length * k.toNat ≤ 1000000 ∧ Q (.str (repS z k.toNat)) H
theorem op_mul_si {X : Cx} : OpR X (binaryOp .Mult) rMulSI := by
  intro pins s σ H x y v u Q I rx ry h
  obtain ⟨z, k, rfl, rfl, h0, h1, h2, q⟩ := h
  obtain ⟨t, rfl⟩ := rx
  obtain ⟨t', rfl⟩ := ry
  refine PySem.P.mul_str ?_ (fun h3 h4 => ?_) (fun h3 h4 => ?_) ?_
  · have e1 : ¬ k < -(2 ^ 63 : Int) := by omega
    have e2 : ¬ k ≥ 2 ^ 63 := by omega
    rw [decide_eq_false e1, decide_eq_false e2]
    rfl
  · have hk : 1 ≤ k := by omega
    have hz : z.length ≤ 1000000 := by
      have h5 : z.length * 1 ≤ z.length * k.toNat := Nat.mul_le_mul_left _ (by omega)
      omega
    have h6 : (10 ^ 14 : Int) ≤ (2 ^ 63 - 1) / k := by
      refine Int.le_ediv_of_mul_le (by omega) ?_
      have h7 : (10 ^ 14 : Int) * k ≤ 10 ^ 14 * 10000 := Int.mul_le_mul_of_nonneg_left h1 (by decide)
      have h8 : ((10 ^ 14 : Int) * 10000) ≤ 2 ^ 63 - 1 := by decide
      omega
    have h9 : ((z.length : Nat) : Int) ≤ 1000000 := by omega
    have h10 : (1000000 : Int) < 10 ^ 14 := by decide
    omega
  · exact tooLong_no (by omega)
  · by_cases h3 : k < 1
    · rw [if_pos h3]
      have e : k.toNat = 0 := by omega
      rw [e] at q
      have ez : repS z 0 = Str.empty := TL.ext_tl rfl
      rw [ez] at q
      exact ⟨by decide, V.str Str.empty, H, I.tok _, ⟨_, rfl⟩, q⟩
    · rw [if_neg h3]
      by_cases h4 : (k == 1 || z.length == 0) = true
      · rw [if_pos h4]
        have ez : repS z k.toNat = z := by
          apply TL.ext_tl
          rw [tl_rep]
          rcases Bool.or_eq_true_iff.mp h4 with h5 | h5
          · have e : k.toNat = 1 := by
              have := eq_of_beq h5
              omega
            rw [e]
            simp
          · have e : TL.tl z = [] := by
              have := eq_of_beq h5
              rw [TL.len_tl] at this
              exact List.length_eq_zero_iff.mp this
            rw [e]
            simp
        rw [ez] at q
        exact ⟨V.str z, H, I, ⟨_, rfl⟩, q⟩
      · rw [if_neg h4]
        have ez : (⟨(List.replicate k.toNat z.cps).foldl (· ++ ·) #[]⟩ : Str) = repS z k.toNat := by
          apply TL.ext_tl
          show ((List.replicate k.toNat z.cps).foldl (· ++ ·) #[]).toList = _
          rw [fold_cps]
          rfl
        have hl : (repS z k.toNat).length ≤ sizeLine := by
          rw [rep_len, Nat.mul_comm]
          exact Nat.le_trans h2 (by decide)
        rw [← ez] at q hl
        exact ⟨hl, V.str _, H, I.tok _, ⟨_, rfl⟩, q⟩

section
variable {P : Program} {w : World} {K : PySem.W.Frag} {mg : Str → Option Value} {base : Heap}
/-! ### defs by their names -/
/-- a def of the module whose parameters have no defaults -/
def IsDef (K : PySem.W.Frag) (mg : Str → Option Value) (x : Str) (st : Stmt) : Prop := ∃ f fd, C8.Def K mg x st f fd ∧ fd.defaults = .none
theorem cal_of {x : Str} {st : Stmt} {N ps : List Str} {k : Nat} {sp : Sp} (D : IsDef K mg x st) (S : FnScope N ps (C8.fnScope st))
    (hb : ∀ (kV doc pm : Value) (an : Option Addr) (cdv ct : Value) (us : List Value), us.length = ps.length → bindArgs (PySem.W.fnOf x x (C8.fnArgs st) (C8.fnBody st) (C8.fnScope st) .none kV doc pm an cdv ct) ⟨us, []⟩ = pure (ps.zip us))
    (len : ∀ vs H Q E, sp vs H Q E → vs.length = ps.length)
    (hbody : ∀ (f : Addr) (cdv : Value) (A : Around) (outer : List Env) (s : Shared) (H : Hp) (vs : List V) (Q : VK) (E : XK), Room k (A.deeper (envOfC x (C8.fnScope st) s.heap.objs.size f cdv)) → sp vs H Q E →
      ∃ t, PSs (cxOf C8.CX0 P w K mg base N x (C8.fnScope st) f cdv A outer s H E).nox (C8.fnBody st) t ∧ t { nx := fun _ H' => Q .non H', rt := Q } (start N vs) H) : C8.Cal P w K mg base (k + 1) x sp [] := by
  obtain ⟨f, fd, D, df⟩ := D
  exact C8.cal0 D (D.fn.binds df hb) .nil S len (hbody f)
theorem pe_c0 {X : Cx} {k j : Nat} {x : Str} {sp : Sp} {dvs : List V} {p pos : Pos} (c : C8.Cal X.prog X.w X.K X.mg X.base k x sp dvs) (hr : Room j X.A) (hk : k ≤ j) (hg : Gl X x)
    (hdb : (x == ("__debug__" : Str)) = false := by decide) : PE X (.Call (.Name x p) [] [] pos) (tCall sp dvs C8.E0 tNil) := by
  obtain ⟨f, fd, ps, ds, F, hm, kp, b, d⟩ := c.ex
  exact pe_call0 F (hr.mono hk) hg hm kp b d C8.pass0 hdb
/-- a def's address as a value, with its promise -/
theorem held_of {k : Nat} {x : Str} {sp : Sp} {f : Addr} (c : C8.Cal P w K mg base k x sp []) (h : mg x = some (.ref f)) : Held P w K mg base k f sp := by
  obtain ⟨f', fd, ps, ds, F, hm, kp, b, d⟩ := c.ex
  rw [h] at hm
  cases hm
  cases d
  exact ⟨fd, ps, F, kp, b⟩
end

/-! ### heaps -/
/-- all that was tracked is as it was, but what stands at a -/
def Fr (a : Addr) (H H' : Hp) : Prop := ∀ b o, b ≠ a → H b = some o → H' b = some o
theorem Fr.refl (a : Addr) (H : Hp) : Fr a H H := fun _ _ _ h => h
theorem Fr.trans {a : Addr} {H H1 H2 : Hp} (x : Fr a H H1) (y : Fr a H1 H2) : Fr a H H2 := fun b o n h => y b o n (x b o n h)
theorem Fr.at {a : Addr} {H : Hp} {o : HO} : Fr a H (upd H a o) := fun b u n h => by
  rw [upd_ne n]
  exact h
theorem Fr.new {a p : Addr} {H : Hp} {o : HO} (h : H p = none) : Fr a H (upd H p o) := fun b u _ e => by
  rw [upd_ne (ne_of_none e h)]
  exact e
/-- what came later may change -/
theorem Fr.mut {a p : Addr} {H H' : Hp} {o : HO} (x : Fr a H H') (h : H p = none) : Fr a H (upd H' p o) := fun b u n e => by
  rw [upd_ne (ne_of_none e h)]
  exact x b u n e
theorem Fr.same {a : Addr} {H H' : Hp} (h : Same H H') : Fr a H H' := fun b o _ e => h b o e
theorem Fr.free {a p : Addr} {H H' : Hp} (x : Fr a H H') (n : p ≠ a) (h : H' p = none) : H p = none := by
  cases q : H p with
  | none => rfl
  | some o =>
    rw [x p o n q] at h
    cases h
theorem same_new {H : Hp} {p : Addr} {o : HO} (h : H p = none) : Same H (upd H p o) := fun b u e => by
  rw [upd_ne (ne_of_none e h)]
  exact e
theorem same_mut {H H' : Hp} {p : Addr} {o : HO} (x : Same H H') (h : H p = none) : Same H (upd H' p o) := fun b u e => by
  rw [upd_ne (ne_of_none e h)]
  exact x b u e
theorem small_line {n : Nat} (h : n ≤ 1000000) : n ≤ sizeLine := Nat.le_trans h (by decide)
theorem small_lt {n : Nat} (h : n ≤ 1000000) : n < sizeLine := Nat.lt_of_le_of_lt h (by decide)

/-! ### comprehensions -/
theorem set_set {σ : L2.St} {i : Nat} {x y : Option V} : (σ.set i x).set i y = σ.set i y := by
  rw [List.set_set]
/-- what an iterator yields while the list at D grows: the items of a list -/
structure Yields (J : It) (items : List V) (G : Hp → Prop) : Prop where
  go : ∀ k H, G H → k < items.length → J.go k H
  stop : ∀ H, G H → J.stop items.length H
  yld : ∀ k H x H', k < items.length → G H → J.yld k H x H' → H' = H ∧ items[k]? = some x
theorem yields_str (x : Str) : Yields (Its x) (x.cps.toList.map fun c => V.str ⟨#[c]⟩) (fun _ => True) where
  go := fun k H _ h => by
    rw [List.length_map] at h
    exact (by simpa using h : k < x.cps.size)
  stop := fun H _ => by
    show x.cps.size ≤ _
    simp
  yld := fun k H v H' _ _ h => by
    obtain ⟨e, c, hc, hv⟩ := h
    refine ⟨e, ?_⟩
    rw [List.getElem?_map, Array.getElem?_toList, hc, hv]
    rfl
theorem yields_list {K : PySem.W.Frag} {a : Addr} {xs : List V} : Yields (Itl K a) xs (fun H => SqL K H a xs) where
  go := fun k H g h => ⟨xs, xs[k], g, List.getElem?_eq_getElem h⟩
  stop := fun H g => ⟨xs, g, Nat.le_refl _⟩
  yld := fun k H x H' _ g h => ⟨h.1, h.2 xs g⟩
theorem yields_range {lo : Int} {n : Nat} : Yields (Itr lo n) ((List.range n).map fun (i : Nat) => V.int (lo + (i : Int))) (fun _ => True) where
  go := fun k H _ h => by
    rw [List.length_map, List.length_range] at h
    exact h
  stop := fun H _ => by
    show n ≤ _
    rw [List.length_map, List.length_range]
    exact Nat.le_refl _
  yld := fun k H x H' hk _ h => by
    obtain ⟨e, hx⟩ := h
    rw [List.length_map, List.length_range] at hk
    refine ⟨e, ?_⟩
    rw [List.getElem?_map, List.getElem?_range hk, hx]
    rfl
/-- behind k turns of a comprehension: the list at D holds acc, of which I speaks -/
def LcN (I : Nat → List V → Hp → Prop) (D : Addr) (k : Nat) (H : Hp) : Prop := ∃ acc, H D = some (.lst acc) ∧ acc.length ≤ k ∧ I k acc H
theorem lc_take {I : Nat → List V → Hp → Prop} {D : Addr} {k : Nat} {H4 : Hp} {y : V} {acc : List V} (h : H4 D = some (.lst acc)) (l : acc.length ≤ k) (hk : k < 1000000) (q : I (k + 1) (acc ++ [y]) (upd H4 D (.lst (acc ++ [y])))) :
    ∃ acc, H4 D = some (.lst acc) ∧ acc.length < sizeLine ∧ LcN I D (k + 1) (upd H4 D (.lst (acc ++ [y]))) :=
  ⟨acc, h, small_lt (by omega), acc ++ [y], upd_same, by rw [List.length_append, List.length_singleton]; omega, q⟩
theorem lc_skip {I : Nat → List V → Hp → Prop} {D : Addr} {k : Nat} {H4 : Hp} {acc : List V} (h : H4 D = some (.lst acc)) (l : acc.length ≤ k) (q : I (k + 1) acc H4) : LcN I D (k + 1) H4 := ⟨acc, h, by omega, q⟩
/-- a comprehension by an invariant I over (turns, what the new list holds, the heap) -/
theorem lc_inv {J : It} {items : List V} {G : Hp → Prop} {H1 : Hp} {D : Addr} {σ : L2.St} {i : Nat} {tt : TT} {te : TE} {Q : Hp → Prop} (Y : Yields J items G) (I : Nat → List V → Hp → Prop)
    (hG : ∀ k acc H, I k acc H → H D = some (.lst acc) → G H) (h0 : I 0 [] (upd H1 D (.lst [])))
    (hs : ∀ k acc H x, I k acc H → H D = some (.lst acc) → items[k]? = some x → acc.length ≤ k → k < 1000000 → tt (σ.set i (some x)) H fun b H3 =>
      if b = true then te (σ.set i (some x)) H3 fun y H4 => ∃ acc, H4 D = some (.lst acc) ∧ acc.length < sizeLine ∧ LcN I D (k + 1) (upd H4 D (.lst (acc ++ [y]))) else LcN I D (k + 1) H3)
    (hl : items.length ≤ 1000000) (hd : ∀ acc H, I items.length acc H → H D = some (.lst acc) → acc.length ≤ items.length → Q H) :
    ∃ W : Nat → Nat → Hp → Prop, (∃ m, W 0 m (upd H1 D (.lst []))) ∧ ∀ k m H, W k m H →
      (J.stop k H ∧ Q H) ∨ (J.go k H ∧ ∃ Nx : Hp → Prop, (∀ H', Nx H' → ∃ m', m' < m ∧ W (k + 1) m' H') ∧ ∀ x H', J.yld k H x H' → gName i x (wipe σ [i]) H' fun σ2 H2 => wipe σ2 [i] = wipe σ [i] ∧ tt σ2 H2 fun b H3 =>
        if b = true then te σ2 H3 fun y H4 => ∃ acc, H4 D = some (.lst acc) ∧ acc.length < sizeLine ∧ Nx (upd H4 D (.lst (acc ++ [y]))) else Nx H3) := by
  refine ⟨fun k m H => m = items.length - k ∧ k ≤ items.length ∧ LcN I D k H, ⟨items.length, by omega, Nat.zero_le _, [], upd_same, Nat.zero_le _, h0⟩, ?_⟩
  rintro k m H ⟨rfl, hk, acc, hD, hacc, hI⟩
  by_cases hlt : k < items.length
  · refine .inr ⟨Y.go k H (hG _ _ _ hI hD) hlt, LcN I D (k + 1), fun H' q => ⟨items.length - (k + 1), by omega, rfl, hlt, q⟩, fun x H' y => ?_⟩
    obtain ⟨rfl, hx⟩ := Y.yld k H x H' hlt (hG _ _ _ hI hD) y
    show wipe ((wipe σ [i]).set i (some x)) [i] = wipe σ [i] ∧ tt ((wipe σ [i]).set i (some x)) _ _
    have e1 : (wipe σ [i]).set i (some x) = σ.set i (some x) := set_set
    have e2 : wipe (σ.set i (some x)) [i] = wipe σ [i] := set_set
    rw [e1]
    exact ⟨e2, hs k acc _ x hI hD hx hacc (by omega)⟩
  · have e : k = items.length := by omega
    subst e
    exact .inl ⟨Y.stop H (hG _ _ _ hI hD), hd acc H hI hD hacc⟩
/-- a comprehension whose element and test change nothing that is tracked -/
theorem lc_pure {α : Type} {J : It} {us : List α} {g : α → V} {G : Hp → Prop} {H1 : Hp} {D : Addr} {σ : L2.St} {i : Nat} {tt : TT} {te : TE} {Q : Hp → Prop} (Y : Yields J (us.map g) G) (f : α → V) (p : α → Bool) (hD1 : H1 D = none)
    (hG : ∀ H, Same H1 H → G H)
    (hs : ∀ H u, Same H1 H → u ∈ us → ∀ (R : Bool → Hp → Prop), (∀ H3, Same H H3 → R (p u) H3) → tt (σ.set i (some (g u))) H R)
    (he : ∀ H u, Same H1 H → u ∈ us → p u = true → ∀ (R : VK), (∀ H3, Same H H3 → R (f u) H3) → te (σ.set i (some (g u))) H R)
    (hl : us.length ≤ 1000000) (hd : ∀ H, Same H1 H → H D = some (.lst ((us.filter p).map f)) → Q H) :
    ∃ W : Nat → Nat → Hp → Prop, (∃ m, W 0 m (upd H1 D (.lst []))) ∧ ∀ k m H, W k m H →
      (J.stop k H ∧ Q H) ∨ (J.go k H ∧ ∃ Nx : Hp → Prop, (∀ H', Nx H' → ∃ m', m' < m ∧ W (k + 1) m' H') ∧ ∀ x H', J.yld k H x H' → gName i x (wipe σ [i]) H' fun σ2 H2 => wipe σ2 [i] = wipe σ [i] ∧ tt σ2 H2 fun b H3 =>
        if b = true then te σ2 H3 fun y H4 => ∃ acc, H4 D = some (.lst acc) ∧ acc.length < sizeLine ∧ Nx (upd H4 D (.lst (acc ++ [y]))) else Nx H3) := by
  refine lc_inv Y (fun k acc H => Same H1 H ∧ acc = ((us.take k).filter p).map f) (fun k acc H h _ => hG H h.1) ⟨same_new hD1, rfl⟩ (fun k acc H x hI hD hx hacc hk => ?_) (by rw [List.length_map]; exact hl) (fun acc H hI hD _ => ?_)
  · obtain ⟨sm, ea⟩ := hI
    rw [List.getElem?_map] at hx
    cases hu : us[k]? with
    | none => rw [hu] at hx; cases hx
    | some u =>
      rw [hu] at hx
      cases hx
      have hm : u ∈ us := List.mem_of_getElem? hu
      have et : us.take (k + 1) = us.take k ++ [u] := by
        rw [List.take_add_one, hu]
        rfl
      refine hs H u sm hm _ (fun H3 s3 => ?_)
      by_cases hp : p u = true
      · rw [if_pos hp]
        refine he H3 u (sm.trans s3) hm hp _ (fun H4 s4 => ?_)
        refine lc_take (s4 _ _ (s3 _ _ hD)) hacc hk ⟨same_mut ((sm.trans s3).trans s4) hD1, ?_⟩
        rw [et, List.filter_append, List.map_append, ← ea, List.filter_cons, hp]
        rfl
      · rw [if_neg hp]
        refine lc_skip (s3 _ _ hD) hacc ⟨sm.trans s3, ?_⟩
        rw [et, List.filter_append, List.map_append, ← ea, List.filter_cons, if_neg hp]
        simp
  · obtain ⟨sm, ea⟩ := hI
    rw [List.length_map, List.take_length] at ea
    rw [ea] at hD
    exact hd H sm hD

/-! ### what may be asked -/
def evalV (f : Str → Bool) : V → Bool
  | .str x => f x
  | _ => false
/-- its signs are signs -/
def OkS (x : Str) : Prop := ∀ u ∈ TL.tl x, u < 1114112
/-- a text, not too long, or a thing that is no text -/
inductive Thing (H : Hp) : V → Prop where
  | str (x : Str) (h : x.length ≤ 100000) (o : OkS x) : Thing H (.str x)
  | non : Thing H .non
  | bl (b : Bool) : Thing H (.bl b)
  | int (i : Int) : Thing H (.int i)
  | lst (a : Addr) (xs : List V) (h : H a = some (.lst xs)) : Thing H (.ref a)
  | tup (a : Addr) (xs : List V) (h : H a = some (.tup xs)) : Thing H (.ref a)
  | dK (a : Addr) (kvs : List (Key × V)) (h : H a = some (.dK kvs)) : Thing H (.ref a)
theorem Thing.fr {a : Addr} {H H' : Hp} {v : V} (t : Thing H v) (n : v ≠ .ref a) (f : Fr a H H') : Thing H' v := by
  cases t with
  | str x h o => exact .str x h o
  | non => exact .non
  | bl b => exact .bl b
  | int i => exact .int i
  | lst b xs h => exact .lst b xs (f b _ (fun e => n (by rw [e])) h)
  | tup b xs h => exact .tup b xs (f b _ (fun e => n (by rw [e])) h)
  | dK b xs h => exact .dK b xs (f b _ (fun e => n (by rw [e])) h)
theorem Thing.same {H H' : Hp} {v : V} (t : Thing H v) (f : Same H H') : Thing H' v := by
  cases t with
  | str x h o => exact .str x h o
  | non => exact .non
  | bl b => exact .bl b
  | int i => exact .int i
  | lst b xs h => exact .lst b xs (f b _ h)
  | tup b xs h => exact .tup b xs (f b _ h)
  | dK b xs h => exact .dK b xs (f b _ h)
/-- isinstance(thing, str) -/
theorem Thing.isi {K : PySem.W.Frag} {H : Hp} {v : V} {Q : VK} (t : Thing H v) (h : Q (.bl (evalV (fun _ => true) v)) H) : rIsi K [v, .ty "str"] H Q := by
  cases t with
  | str x _ _ => exact ⟨_, _, .type "str", .type "str", true, rfl, .ty "str", .base (.str x), kit_ty (by decide +kernel), h⟩
  | non => exact ⟨_, _, .type "NoneType", .type "str", false, rfl, .ty "str", .base .non, kit_ty (by decide +kernel), h⟩
  | bl b => exact ⟨_, _, .type "bool", .type "str", false, rfl, .ty "str", .base (.bl b), kit_ty (by decide +kernel), h⟩
  | int i => exact ⟨_, _, .type "int", .type "str", false, rfl, .ty "str", .base (.int i), kit_ty (by decide +kernel), h⟩
  | lst a xs e => exact ⟨_, _, .type "list", .type "str", false, rfl, .ty "str", .base (.lst e), kit_ty (by decide +kernel), h⟩
  | tup a xs e => exact ⟨_, _, .type "tuple", .type "str", false, rfl, .ty "str", .base (.tup e), kit_ty (by decide +kernel), h⟩
  | dK a xs e => exact ⟨_, _, .type "dict", .type "str", false, rfl, .ty "str", .base (.dK e), kit_ty (by decide +kernel), h⟩
theorem Thing.cases {H : Hp} {v : V} (t : Thing H v) : (∃ x, v = .str x ∧ x.length ≤ 100000 ∧ OkS x) ∨ ∀ f, evalV f v = false := by
  cases t with
  | str x h o => exact .inl ⟨x, rfl, h, o⟩
  | _ => exact .inr fun _ => rfl
/-- the promise of a def that tells whether its argument is such a text -/
def spWord (f : Str → Bool) : Sp := fun vs H Q _ => ∃ v, vs = [v] ∧ Thing H v ∧ ∀ H', Same H H' → Q (.bl (evalV f v)) H'

/-! ### the words, as functions of a text -/
def HEX : Str := "0123456789abcdef"
def LET : Str := "abcdefghijklmnopqrstuvwxyz"
def RSG : Str := "abcdefghijklmnopqrstuvwxyz0123456789-"
def SSG : Str := "abcdefghijklmnopqrstuvwxyz0123456789._-"
def sgn (c : Nat) : V := .str ⟨#[c]⟩
def hasOnly (x y : Str) : Bool := (TL.tl x).all fun c => decide (c ∈ TL.tl y)
def dots (x : Str) : Bool := !(Builtin.Str.occurrences x (".." : Str) 0 x.length 1).isEmpty
def isWordF (y x : Str) : Bool := decide (1 ≤ x.length) && (decide (x.length ≤ 12) && hasOnly x y)
def isSegF (x : Str) : Bool := isWordF SSG x && (!decide (x = ".") && !dots x)
def segs (x : Str) : List Str := Txt.split x "/"
def isIdF (x : Str) : Bool := decide (x.length = 16) && hasOnly x HEX
def isPathF (x : Str) : Bool := decide ((segs x).length ≤ 6) && (segs x).all isSegF
def mostF (x : Str) : Nat := if (segs x)[0]? = some ("far" : Str) then 7 else 5
def isRefF (x : Str) : Bool := decide ((segs x).length ≤ mostF x) && (segs x).all (isWordF RSG)
def plainC (c : Nat) : Bool := !decide ([c] < [32]) && !decide ([126] < [c])
def isTextF (x : Str) : Bool := decide (x.length ≤ 2000) && (TL.tl x).all fun c => decide (c = 10) || plainC c
end Fk
namespace Fk
open PySem PySem.Spec PyProof.Rows L2
theorem sql_fr {K : PySem.W.Frag} {a b : Addr} {H H' : Hp} {xs : List V} (h : SqL K H b xs) (n : b ≠ a) (f : Fr a H H') : SqL K H' b xs := by
  rcases h with (h | ⟨o, h⟩) | h
  · exact .inl (.inl (f _ _ n h))
  · exact .inl (.inr ⟨o, f _ _ n h⟩)
  · exact .inr h
/-- a well of numbers at a, from which c were drawn -/
def Wl (H : Hp) (a : Addr) (c : Int) : Prop := 0 ≤ c ∧ ∃ x y : Int, H a = some (.lst [.int x, .int y, .int c])
theorem Wl.same {H H' : Hp} {a : Addr} {c : Int} (h : Wl H a c) (f : Same H H') : Wl H' a c := by
  obtain ⟨h0, x, y, e⟩ := h
  exact ⟨h0, x, y, f _ _ e⟩
/-- behind at most d draws from the well at a -/
def Aft (a : Addr) (c d : Int) (H : Hp) (R : Hp → Prop) : Prop := ∀ H' c', Fr a H H' → Wl H' a c' → c ≤ c' → c' ≤ c + d → R H'
theorem join_signs : ∀ cs : List Nat, TL.tl (Txt.join ("" : Str) (cs.map fun c => (⟨#[c]⟩ : Str))) = cs := by
  intro cs
  rw [TL.join_eq, TL.tl_join]
  have e : TL.tl ("" : Str) = [] := by decide +kernel
  rw [e]
  induction cs with
  | nil => rfl
  | cons c r ih =>
    cases r with
    | nil => rfl
    | cons d r =>
      show [c] ++ [] ++ TL.joinL [] (((d :: r).map fun c => (⟨#[c]⟩ : Str)).map TL.tl) = _
      rw [ih]
      rfl
theorem signs_sum : ∀ cs : List Nat, ((cs.map fun c => (⟨#[c]⟩ : Str)).map (·.length)).sum = cs.length
  | [] => rfl
  | c :: r => by
    rw [List.map_cons, List.map_cons, List.sum_cons, signs_sum r, List.length_cons]
    show 1 + _ = _
    omega
theorem atI_int {α : Type} {xs : List α} {r : Int} (h0 : 0 ≤ r) (h1 : r < xs.length) : ∃ v, v ∈ xs ∧ xs[r.toNat]? = some v ∧ atI xs r = some v := by
  have h2 : r.toNat < xs.length := by omega
  have e : r = ((r.toNat : Nat) : Int) := by omega
  refine ⟨xs[r.toNat], List.getElem_mem h2, List.getElem?_eq_getElem h2, ?_⟩
  have q := atI_nat (List.getElem?_eq_getElem h2)
  rw [← e] at q
  exact q
theorem Wl.upd {H : Hp} {a : Addr} {x y c : Int} (h : 0 ≤ c) : Wl (upd H a (.lst [.int x, .int y, .int c])) a c := ⟨h, x, y, upd_same⟩
theorem Fr.fr_new {a p : Addr} {H H' : Hp} {o : HO} (x : Fr a H H') (h : H' p = none) : Fr a H (L2.upd H' p o) := x.trans (Fr.new h)
theorem Wl.new {H : Hp} {a p : Addr} {c : Int} {o : HO} (h : Wl H a c) (n : H p = none) : Wl (L2.upd H p o) a c := h.same (same_new n)
theorem Wl.mut {H : Hp} {a p : Addr} {c : Int} {o : HO} (h : Wl H a c) (n : p ≠ a) : Wl (L2.upd H p o) a c := by
  obtain ⟨h0, x, y, e⟩ := h
  exact ⟨h0, x, y, by rw [upd_ne n.symm]; exact e⟩
theorem Wl.ne {H : Hp} {a p : Addr} {c : Int} (h : Wl H a c) (n : H p = none) : p ≠ a := by
  obtain ⟨h0, x, y, e⟩ := h
  exact (ne_of_none e n).symm
theorem Aft.start {a : Addr} {c d : Int} {H : Hp} {R : Hp → Prop} (h : Aft a c d H R) (w : Wl H a c) (hd : 0 ≤ d) : R H := h H c (Fr.refl a H) w (Int.le_refl _) (by omega)
theorem Aft.more {a : Addr} {c c1 d d1 : Int} {H H1 : Hp} {R : Hp → Prop} (h : Aft a c d H R) (f : Fr a H H1) (h1 : c ≤ c1) (h2 : c1 + d1 ≤ c + d) : Aft a c1 d1 H1 R := fun H' c' f' w h3 h4 => h H' c' (f.trans f') w (by omega) (by omega)
theorem yes_ {σ : L2.St} {H : Hp} {A B : Hp → Prop} (h : A H) : tYes σ H (fun b H3 => if b = true then A H3 else B H3) := by
  show (if true = true then A H else B H)
  rw [if_pos rfl]
  exact h
end Fk

set_option maxHeartbeats 4000000
namespace Fk
open PySem PySem.Spec PyProof.Rows L2
/-! ### texts that are drawn: what holds of them -/
theorem tl_cut (z : Str) (lo hi : Option Int) : TL.tl (cutS z lo hi) = ((TL.tl z).drop (HT.sIx z.length 0 lo)).take (HT.sIx z.length z.length hi - HT.sIx z.length 0 lo) := rfl
theorem cut_to (z : Str) (n : Nat) : TL.tl (cutS z none (some (n : Int))) = (TL.tl z).take n := by
  rw [tl_cut, HT.sIx_none, HT.sIx_nat, List.drop_zero, Nat.sub_zero, TL.len_tl]
  rcases Nat.le_total n (TL.tl z).length with h | h
  · rw [Nat.min_eq_left h]
  · rw [Nat.min_eq_right h, List.take_length, List.take_of_length_le h]
theorem cut_from (z : Str) (n : Nat) : TL.tl (cutS z (some (n : Int)) none) = (TL.tl z).drop n := by
  rw [tl_cut, HT.sIx_none, HT.sIx_nat, TL.len_tl]
  rcases Nat.le_total n (TL.tl z).length with h | h
  · rw [Nat.min_eq_left h, List.take_of_length_le (by rw [List.length_drop]; omega)]
  · rw [Nat.min_eq_right h, List.drop_length, List.take_nil, List.drop_of_length_le h]
theorem cutS_le (z : Str) (lo hi : Option Int) : (cutS z lo hi).length ≤ z.length := cutS_length z lo hi
def LTS : Str := "abcdefghijklmnopqrstuvwxyz0123456789_-"
theorem dots_count {x : Str} (h : dots x = true) : 2 ≤ (TL.tl x).count 46 := by
  obtain ⟨i, _, h2⟩ := (StrLaws.found_iff x (".." : Str)).mp h
  rw [StrLaws.subAt_eq] at h2
  have e : ((TL.tl x).drop i).take 2 = [46, 46] := by
    have e1 := eq_of_beq h2
    have e2 : (".." : Str).length = 2 := by decide +kernel
    have e3 : (".." : Str).cps.toList = [46, 46] := by decide +kernel
    rw [e2, e3] at e1
    exact e1
  have s : List.Sublist [46, 46] (TL.tl x) := by
    rw [← e]
    exact (List.take_sublist _ _).trans (List.drop_sublist _ _)
  exact s.count_le 46
theorem has_only {x y : Str} (h : ∀ u ∈ TL.tl x, u ∈ TL.tl y) : hasOnly x y = true := by
  unfold hasOnly
  rw [List.all_eq_true]
  exact fun u hu => decide_eq_true (h u hu)
theorem dot_tl : TL.tl ("." : Str) = [46] := by decide +kernel
theorem seg_of {x : Str} (h : ∀ u ∈ TL.tl x, u ∈ TL.tl SSG) (h1 : 1 ≤ x.length) (h2 : x.length ≤ 12) (h3 : (TL.tl x).count 46 ≤ 1) (h4 : (TL.tl x).count 46 = 0 ∨ 2 ≤ x.length) : isSegF x = true := by
  unfold isSegF isWordF
  have d : dots x = false := Bool.eq_false_iff.mpr fun z => by
    have := dots_count z
    omega
  have n : ¬ x = "." := fun e => by
    have e1 : TL.tl x = [46] := by rw [e]; exact dot_tl
    rw [TL.len_tl, e1] at h4
    rcases h4 with h4 | h4
    · exact absurd h4 (by decide)
    · exact absurd h4 (by decide)
  rw [decide_eq_true h1, decide_eq_true h2, has_only h, decide_eq_false n, d]
  rfl
theorem lts_ssg : ∀ u ∈ TL.tl LTS, u ∈ TL.tl SSG := by decide +kernel
theorem lts_dot : 46 ∉ TL.tl LTS := by decide +kernel
theorem seg_plain {x : Str} (h : ∀ u ∈ TL.tl x, u ∈ TL.tl LTS) (h1 : 1 ≤ x.length) (h2 : x.length ≤ 12) : isSegF x = true := by
  have c0 : (TL.tl x).count 46 = 0 := List.count_eq_zero.mpr fun z => lts_dot (h _ z)
  exact seg_of (fun u hu => lts_ssg u (h u hu)) h1 h2 (by omega) (.inl c0)
theorem seg_dotted {x : Str} (n : Nat) (h : ∀ u ∈ TL.tl x, u ∈ TL.tl LTS) (h1 : 1 ≤ x.length) (h2 : x.length < 12) :
    isSegF ((cutS x none (some (n : Int)) ++ ("." : Str)) ++ cutS x (some (n : Int)) none) = true ∧ ((cutS x none (some (n : Int)) ++ ("." : Str)) ++ cutS x (some (n : Int)) none).length ≤ 12 := by
  have e : TL.tl ((cutS x none (some (n : Int)) ++ ("." : Str)) ++ cutS x (some (n : Int)) none) = ((TL.tl x).take n ++ [46]) ++ (TL.tl x).drop n := by
    rw [TL.tl_append, TL.tl_append, cut_to, cut_from, dot_tl]
  have c0 : (TL.tl x).count 46 = 0 := List.count_eq_zero.mpr fun z => lts_dot (h _ z)
  have len : (((TL.tl x).take n ++ [46]) ++ (TL.tl x).drop n).length = x.length + 1 := by
    have := congrArg List.length (List.take_append_drop n (TL.tl x))
    rw [List.length_append] at this
    rw [List.length_append, List.length_append, List.length_singleton, TL.len_tl]
    omega
  have cnt : (((TL.tl x).take n ++ [46]) ++ (TL.tl x).drop n).count 46 = 1 := by
    have := congrArg (List.count 46) (List.take_append_drop n (TL.tl x))
    rw [List.count_append, c0] at this
    rw [List.count_append, List.count_append]
    have : [46].count 46 = 1 := rfl
    omega
  refine ⟨seg_of (fun u hu => ?_) (by rw [TL.len_tl, e, len]; omega) (by rw [TL.len_tl, e, len]; omega) (by rw [e, cnt]; exact Nat.le_refl _) (.inr (by rw [TL.len_tl, e, len]; omega)), by rw [TL.len_tl, e, len]; omega⟩
  rw [e] at hu
  rcases List.mem_append.mp hu with hu | hu
  · rcases List.mem_append.mp hu with hu | hu
    · exact lts_ssg u (h u (List.mem_of_mem_take hu))
    · rw [List.mem_singleton.mp hu]
      decide +kernel
  · exact lts_ssg u (h u (List.mem_of_mem_drop hu))
theorem slash_tl : TL.tl ("/" : Str) = [47] := by decide +kernel
theorem seg_slash {x : Str} (h : isSegF x = true) : 47 ∉ TL.tl x := by
  unfold isSegF isWordF hasOnly at h
  simp only [Bool.and_eq_true] at h
  have h1 := h.1.2.2
  rw [List.all_eq_true] at h1
  intro z
  have h2 := of_decide_eq_true (h1 47 z)
  exact absurd h2 (by decide +kernel)
theorem seg_len {x : Str} (h : isSegF x = true) : x.length ≤ 12 := by
  unfold isSegF isWordF at h
  simp only [Bool.and_eq_true] at h
  exact of_decide_eq_true h.1.2.1
theorem path_of {ps : List Str} (h0 : ps ≠ []) (h1 : ps.length ≤ 6) (h : ∀ p ∈ ps, isSegF p = true) : isPathF (Txt.join "/" ps) = true := by
  unfold isPathF segs
  rw [TL.split_join (S := []) slash_tl (by decide +kernel) h0 fun p hp => seg_slash (h p hp), decide_eq_true h1, List.all_eq_true.mpr h]
  rfl
theorem join_len (y : Str) : ∀ ps : List Str, (∀ p ∈ ps, p.length ≤ 12) → (Txt.join y ps).length ≤ ps.length * (12 + y.length) := by
  intro ps h
  rw [TL.join_eq]
  refine Nat.le_trans (StrLaws.join_length_le y ps) ?_
  rw [Nat.mul_add]
  refine Nat.add_le_add_right ?_ _
  induction ps with
  | nil => exact Nat.le_refl _
  | cons p r ih =>
    rw [List.map_cons, List.sum_cons, List.length_cons, Nat.succ_mul]
    have := ih fun q hq => h q (List.mem_cons_of_mem _ hq)
    have := h p List.mem_cons_self
    omega
theorem sum_len : ∀ ps : List Str, (∀ p ∈ ps, p.length ≤ 12) → (ps.map (·.length)).sum ≤ ps.length * 12 := by
  intro ps h
  induction ps with
  | nil => exact Nat.le_refl _
  | cons p r ih =>
    rw [List.map_cons, List.sum_cons, List.length_cons, Nat.succ_mul]
    have := ih fun q hq => h q (List.mem_cons_of_mem _ hq)
    have := h p List.mem_cons_self
    omega
def ALL : Str := (" !\"#$&'()*+,-./0123456789:;<=>?@ABCDEFGHIJKLMNOPQRSTUVWXYZ[]^_`abcdefghijklmnopqrstuvwxyz{|}~" : Str) ++ ("\\" : Str) ++ ("\n" : Str)
theorem all_plain : ∀ u ∈ TL.tl ALL, (decide (u = 10) || plainC u) = true := by decide +kernel
theorem text_of {x : Str} (h : ∀ u ∈ TL.tl x, u ∈ TL.tl ALL) (h1 : x.length ≤ 2000) : isTextF x = true := by
  unfold isTextF
  rw [decide_eq_true h1, List.all_eq_true.mpr fun u hu => all_plain u (h u hu)]
  rfl
theorem id_of {x : Str} (h : ∀ u ∈ TL.tl x, u ∈ TL.tl HEX) (h1 : x.length = 16) : isIdF x = true := by
  unfold isIdF
  rw [decide_eq_true h1, has_only h]
  rfl
theorem filt_all {α : Type} (l : List α) : l.filter (fun _ => true) = l := List.filter_eq_self.mpr fun _ _ => rfl
theorem of_ev {f : Str → Bool} {x : Str} {b : Bool} {Q : VK} {H : Hp} (q : Q (.bl (evalV f (.str x))) H) (e : f x = b) : Q (.bl b) H := by
  rw [← e]
  exact q
theorem of_ev0 {f : Str → Bool} {v : V} {Q : VK} {H : Hp} (hn : ∀ f, evalV f v = false) (q : Q (.bl (evalV f v)) H) : Q (.bl false) H := by
  rw [← hn f]
  exact q
theorem segs_ne (x : Str) : segs x ≠ [] := by
  intro h
  have e := TL.split_spl x "/" (by decide +kernel) (TL.kind_ok (by decide +kernel))
  have h' : Txt.split x "/" = [] := h
  rw [h'] at e
  have e2 : ∀ l k acc, TL.spl (TL.tl "/") k acc l ≠ [] := by
    intro l
    induction l with
    | nil => intro k acc h; rw [TL.spl_nil] at h; cases h
    | cons c r ih =>
      intro k acc h
      cases k with
      | zero =>
        unfold TL.spl at h
        split at h
        · cases h
        · exact ih _ _ h
      | succ k => exact ih _ _ h
  exact e2 _ _ _ e.symm
theorem segs_len (x : Str) (h : x.length ≤ 100000) : (segs x).length ≤ 100001 ∧ ∀ y ∈ segs x, y.length ≤ 100000 := by
  have e := TL.split_spl x "/" (by decide +kernel) (TL.kind_ok (by decide +kernel))
  have e2 : ∀ l k acc, (TL.spl (TL.tl "/") k acc l).length ≤ l.length + 1 ∧ ∀ y ∈ TL.spl (TL.tl "/") k acc l, y.length ≤ acc.length + l.length := by
    intro l
    induction l with
    | nil => intro k acc; rw [TL.spl_nil]; exact ⟨Nat.le_refl _, fun y hy => by rw [List.mem_singleton.mp hy]; simp⟩
    | cons c r ih =>
      intro k acc
      cases k with
      | zero =>
        unfold TL.spl
        split
        · obtain ⟨i1, i2⟩ := ih ((TL.tl "/").length - 1) []
          refine ⟨by simp only [List.length_cons]; omega, fun y hy => ?_⟩
          rcases List.mem_cons.mp hy with rfl | hy
          · simp only [List.length_cons]; omega
          · have := i2 y hy
            simp only [List.length_cons, List.length_nil] at this ⊢
            omega
        · obtain ⟨i1, i2⟩ := ih 0 (acc ++ [c])
          refine ⟨by simp only [List.length_cons]; omega, fun y hy => ?_⟩
          have := i2 y hy
          simp only [List.length_cons, List.length_append, List.length_nil] at this ⊢
          omega
      | succ k =>
        obtain ⟨i1, i2⟩ := ih k acc
        unfold TL.spl
        refine ⟨by simp only [List.length_cons]; omega, fun y hy => ?_⟩
        have := i2 y hy
        simp only [List.length_cons] at this ⊢
        omega
  obtain ⟨i1, i2⟩ := e2 (TL.tl x) 0 []
  rw [← e] at i1 i2
  rw [List.length_map, ← TL.len_tl] at i1
  refine ⟨?_, fun y hy => ?_⟩
  · show (Txt.split x "/").length ≤ _
    omega
  · have := i2 (TL.tl y) (List.mem_map_of_mem hy)
    rw [← TL.len_tl, ← TL.len_tl] at this
    simp at this
    omega
theorem segs_ok (x : Str) (h : OkS x) : ∀ y ∈ segs x, OkS y := by
  have e := TL.split_spl x "/" (by decide +kernel) (TL.kind_ok (by decide +kernel))
  have e2 : ∀ l k acc, (∀ u ∈ l, u < 1114112) → (∀ u ∈ acc, u < 1114112) → ∀ y ∈ TL.spl (TL.tl "/") k acc l, ∀ u ∈ y, u < 1114112 := by
    intro l
    induction l with
    | nil =>
      intro k acc h1 h2 y hy
      rw [TL.spl_nil] at hy
      rw [List.mem_singleton.mp hy]
      exact h2
    | cons c r ih =>
      intro k acc h1 h2 y hy
      have h3 : ∀ u ∈ r, u < 1114112 := fun u hu => h1 u (List.mem_cons_of_mem _ hu)
      cases k with
      | zero =>
        unfold TL.spl at hy
        split at hy
        · rcases List.mem_cons.mp hy with rfl | hy
          · exact h2
          · exact ih _ _ h3 (fun u hu => (List.not_mem_nil hu).elim) y hy
        · refine ih _ _ h3 (fun u hu => ?_) y hy
          rcases List.mem_append.mp hu with hu | hu
          · exact h2 u hu
          · rw [List.mem_singleton.mp hu]
            exact h1 c List.mem_cons_self
      | succ k => exact ih _ _ h3 h2 y hy
  intro y hy
  have i2 := e2 (TL.tl x) 0 [] h (fun u hu => (List.not_mem_nil hu).elim) (TL.tl y)
  rw [← e] at i2
  exact i2 (List.mem_map_of_mem hy)
theorem dp_nil {K : PySem.W.Frag} {H : Hp} {p : Addr} (h : H p = some (.lst [])) : Dp K H (.ref p) (.list []) := .lst (SqL.of h) .nil
theorem dp_strs {K : PySem.W.Frag} {H : Hp} : ∀ ys : List Str, DpAll K H (ys.map V.str) (ys.map PyData.str)
  | [] => .nil
  | y :: r => .cons (.str y) (dp_strs r)
theorem strOk_of {x : Str} (h : OkS x) : PyData.strOk x = true := by
  unfold PyData.strOk
  rw [← Array.all_toList, List.all_eq_true]
  exact fun u hu => decide_eq_true (h u hu)
theorem lay_strs : ∀ ys : List Str, (∀ y ∈ ys, OkS y) → PyData.canLayAll0 (ys.map PyData.str) = true
  | [], _ => rfl
  | y :: r, h => by simp [PyData.canLayAll0, PyData.canLay0, lay_strs r fun z hz => h z (List.mem_cons_of_mem _ hz), strOk_of (h y List.mem_cons_self)]
theorem depth_strs : ∀ ys : List Str, PyData.depthAll (ys.map PyData.str) = 0
  | [] => rfl
  | _ :: r => by simp [PyData.depthAll, PyData.depth, depth_strs r]
theorem shaped_strs (ys : List Str) (h : ∀ y ∈ ys, OkS y) : SeqAt.shaped (.list (ys.map PyData.str)) = true := by
  simp [SeqAt.shaped, PyData.canLay0, PyData.depth, lay_strs ys h, depth_strs]
theorem shaped_nil : SeqAt.shaped (.list []) = true := shaped_strs [] fun _ h => (List.not_mem_nil h).elim
theorem eqv_nil (ys : List Str) : PyData.eqv (.list (ys.map PyData.str)) (.list []) = ys.isEmpty := by
  cases ys with
  | nil => simp [PyData.eqv, PyData.eqvAll]
  | cons y r => simp [PyData.eqv, PyData.eqvAll]
theorem ifF {c A B : Prop} [Decidable c] (h : ¬ c) (b : B) : if c then A else B := by
  rw [if_neg h]
  exact b
theorem ifT {c A B : Prop} [Decidable c] (h : c) (b : A) : if c then A else B := by
  rw [if_pos h]
  exact b
/-- a list of texts is asked for being empty -/
theorem ask_nil {K : PySem.W.Frag} {H' : Hp} {p q : Addr} {ys : List Str} {Q : VK} (ho : ∀ y ∈ ys, OkS y) (h : H' p = some (.lst (ys.map V.str))) (hq : H' q = some (.lst [])) (k : Q (.bl ys.isEmpty) H') : rEqD K (.ref p) (.ref q) H' Q :=
  ⟨_, _, .lst (SqL.of h) (dp_strs ys), dp_nil hq, shaped_strs ys ho, shaped_nil, by rw [eqv_nil]; exact k⟩
theorem filt_empty {α : Type} (l : List α) (p : α → Bool) : (l.filter fun u => !p u).isEmpty = l.all p := by
  induction l with
  | nil => rfl
  | cons a r ih =>
    rw [List.filter_cons, List.all_cons]
    cases h : p a with
    | true => simpa [h] using ih
    | false => simp [h]
theorem map_sgn (cs : List Nat) : cs.map sgn = (cs.map fun c => (⟨#[c]⟩ : Str)).map V.str := by
  rw [List.map_map]
  rfl
theorem ok_sgn {c : Nat} (h : c < 1114112) : OkS ⟨#[c]⟩ := fun u hu => by
  have e : u = c := List.mem_singleton.mp hu
  rw [e]
  exact h
theorem ok_sgns {x : Str} (h : OkS x) (p : Nat → Bool) : ∀ y ∈ ((TL.tl x).filter p).map fun c => (⟨#[c]⟩ : Str), OkS y := fun y hy => by
  obtain ⟨c, hc, rfl⟩ := List.mem_map.mp hy
  exact ok_sgn (h c ((List.mem_filter.mp hc).1))
end Fk
namespace Fk
open PySem PySem.Spec PyProof.Rows L2
theorem ok_app {x y : Str} (hx : OkS x) (hy : OkS y) : OkS (x ++ y) := fun u hu => by
  rw [TL.tl_append] at hu
  rcases List.mem_append.mp hu with hu | hu
  · exact hx u hu
  · exact hy u hu
theorem ok_cut {x : Str} (hx : OkS x) (lo hi : Option Int) : OkS (cutS x lo hi) := fun u hu => by
  rw [tl_cut] at hu
  exact hx u (List.mem_of_mem_drop (List.mem_of_mem_take hu))
theorem ok_rep {x : Str} (hx : OkS x) (n : Nat) : OkS (repS x n) := fun u hu => by
  rw [tl_rep] at hu
  obtain ⟨l, hl, hu⟩ := List.mem_flatten.mp hu
  rw [(List.mem_replicate.mp hl).2] at hu
  exact hx u hu
theorem ok_join {y : Str} (hy : OkS y) {ps : List Str} (h : ∀ p ∈ ps, OkS p) : OkS (Txt.join y ps) := fun u hu => by
  rw [TL.join_eq, TL.tl_join] at hu
  have e : ∀ ls : List (List Nat), (∀ l ∈ ls, ∀ u ∈ l, u < 1114112) → ∀ u ∈ TL.joinL (TL.tl y) ls, u < 1114112 := by
    intro ls
    induction ls with
    | nil => intro _ u hu; exact (List.not_mem_nil hu).elim
    | cons l r ih =>
      intro h u hu
      cases r with
      | nil => exact h l List.mem_cons_self u hu
      | cons m r =>
        have hu : u ∈ l ++ (TL.tl y ++ TL.joinL (TL.tl y) (m :: r)) := hu
        rcases List.mem_append.mp hu with hu | hu
        · exact h l List.mem_cons_self u hu
        · rcases List.mem_append.mp hu with hu | hu
          · exact hy u hu
          · exact ih (fun l hl => h l (List.mem_cons_of_mem _ hl)) u hu
  refine e _ (fun l hl => ?_) u hu
  obtain ⟨p, hp, rfl⟩ := List.mem_map.mp hl
  exact h p hp
theorem ok_by {x : Str} (h : (TL.tl x).all (fun u => decide (u < 1114112)) = true) : OkS x := fun u hu => of_decide_eq_true (List.all_eq_true.mp h u hu)
theorem ok_sub {x y : Str} (h : ∀ u ∈ TL.tl x, u ∈ TL.tl y) (hy : OkS y) : OkS x := fun u hu => hy u (h u hu)
theorem ok_hex : OkS HEX := ok_by (by decide +kernel)
theorem ok_ssg : OkS SSG := ok_by (by decide +kernel)
theorem ok_rsg : OkS RSG := ok_by (by decide +kernel)
theorem ok_let : OkS LET := ok_by (by decide +kernel)
theorem ok_all : OkS ALL := ok_by (by decide +kernel)
theorem ok_slash : OkS "/" := ok_by (by decide +kernel)
theorem only_sub {x y : Str} (h : hasOnly x y = true) : ∀ u ∈ TL.tl x, u ∈ TL.tl y := fun u hu => of_decide_eq_true (List.all_eq_true.mp h u hu)
theorem ok_seg {x : Str} (h : isSegF x = true) : OkS x := by
  unfold isSegF isWordF at h
  simp only [Bool.and_eq_true] at h
  exact ok_sub (only_sub h.1.2.2) ok_ssg
theorem word_of {x y : Str} (h : ∀ u ∈ TL.tl x, u ∈ TL.tl y) (h1 : 1 ≤ x.length) (h2 : x.length ≤ 12) : isWordF y x = true := by
  unfold isWordF
  rw [decide_eq_true h1, decide_eq_true h2, has_only h]
  rfl
theorem Same.of_fr {a : Addr} {H H1 H2 : Hp} (h : H a = none) (s : Same H H1) (f : Fr a H1 H2) : Same H H2 := fun b o e => f b o (ne_of_none e h) (s b o e)
theorem def_ne {K : PySem.W.Frag} {mg : Str → Option Value} {x y : Str} {st st' : Stmt} {f f' : Addr} {fd fd' : FuncData} (D : C8.Def K mg x st f fd) (D' : C8.Def K mg y st' f' fd') (h : x ≠ y) : f ≠ f' := by
  intro e
  subst e
  obtain ⟨oc, od, dV, kV, doc, pm, an, cdv, ct, osl, rfl, lk, _⟩ := D.fn.ex
  obtain ⟨oc', od', dV', kV', doc', pm', an', cdv', ct', osl', rfl, lk', _⟩ := D'.fn.ex
  rw [lk] at lk'
  have e1 := Option.some.inj lk'
  injection e1 with e1 e2 e3 e4
  injection e3 with e3
  exact h (congrArg FuncData.name e3)
end Fk
namespace Fk
open PySem PySem.Spec PyProof.Rows L2
theorem plain_lt {c : Nat} (h : (decide (c = 10) || plainC c) = true) : c < 1114112 := by
  rcases Bool.or_eq_true_iff.mp h with h | h
  · have := of_decide_eq_true h
    omega
  · unfold plainC at h
    have h2 := (Bool.and_eq_true_iff.mp h).2
    have h3 : ¬ ([126] < [c]) := fun z => by
      rw [decide_eq_true z] at h2
      exact absurd h2 (by decide)
    have h4 : ¬ 126 < c := fun z => h3 (List.Lex.rel z)
    omega
theorem ok_text {x : Str} (h : isTextF x = true) : OkS x := fun u hu => plain_lt (List.all_eq_true.mp (Bool.and_eq_true_iff.mp h).2 u hu)
end Fk

set_option maxHeartbeats 4000000
/-! strip(signs), isascii, replace, isprintable: what they say of the words; a def that begins with a token out. -/
namespace Fk
open PySem PySem.Spec PyProof.Rows L2
section
variable {X : Cx} {a b o : Expr} {rest : List Expr} {ta tb t to : TE} {pos : Pos}
theorem pet_one {op} (h : PET X a t) : PET X (.BoolOp op [a] pos) t := fun pins s σ H Q h0 I hw => BoolOp_one (h pins s σ H Q h0 I hw)
theorem pet_and (ha : PE X a ta) (hb : PET X (.BoolOp .And (b :: rest) pos) tb) : PET X (.BoolOp .And (a :: b :: rest) pos) (tAndV ta tb) := by
  intro pins s σ H Q h0 I h
  refine BoolOp_and (wpAny_mono (PySem.wpAny_toks (ha.run pins s σ H _ I h)) (fun v s1 q => ?_) fun _ _ z => z.2)
  obtain ⟨hk, x, H1, I1, r1, q1⟩ := q
  obtain ⟨c, rfl, q1⟩ := q1
  cases r1
  refine wpAny_truthy_bool ?_
  cases c with
  | true => exact hb pins s1 σ H1 Q (by omega) I1 q1
  | false => exact ⟨.bl false, H1, I1, rfl, q1⟩
theorem pet_bm0 {T id name : String} {apos cpos : Pos} {r : V → List V → Hp → VK → Prop} (pa : PlainAttrs T) (slot : Slot T name id) (hty : typeOf (.builtin id) = pure (.type "method_descriptor")) (hm : MtR X id r) (ho : PET X o to)
    (hbase : attributeBase o name X.env (eval o X.env) = eval o X.env := by rfl) (hline : (apos.endLine == cpos.line) = true := by rfl) : PET X (.Call (.Attribute o name apos) [] [] cpos) (tBM0 X.K T r to) := by
  intro pins s σ H Q h0 I h
  refine wpAny_Call_method0_late hbase hline (thn (ho pins s σ H _ h0 I h) fun v s1 ⟨x, H1, I1, r1, ty, q1⟩ => ?_)
  obtain ⟨h1, h2⟩ := tyV_is I1 r1 ty
  exact ⟨T, id, pa, slot, hty, h1, h2, Calls.callWith_builtin rfl (PySem.evalArgs_none (hm pins s1 σ H1 x [] v [] Q I1 r1 .nil q1))⟩
end
section
variable {P : Program} {w : World} {K : PySem.W.Frag} {mg : Str → Option Value} {base : Heap}
/-- a def whose parameters are no cells: a token is out when its body begins -/
theorem cal_ofT {x : Str} {st : Stmt} {N ps : List Str} {k : Nat} {sp : Sp} (D : IsDef K mg x st) (S : FnScope N ps (C8.fnScope st))
    (hnc : ∀ y ∈ (C8.fnScope st).names, y.2 ≠ .cell) (hps : 1 ≤ ps.length)
    (hb : ∀ (kV doc pm : Value) (an : Option Addr) (cdv ct : Value) (us : List Value), us.length = ps.length → bindArgs (PySem.W.fnOf x x (C8.fnArgs st) (C8.fnBody st) (C8.fnScope st) .none kV doc pm an cdv ct) ⟨us, []⟩ = pure (ps.zip us))
    (len : ∀ vs H Q E, sp vs H Q E → vs.length = ps.length)
    (hbody : ∀ (f : Addr) (cdv : Value) (A : Around) (outer : List Env) (s : Shared) (H : Hp) (vs : List V) (Q : VK) (E : XK), Room k (A.deeper (envOfC x (C8.fnScope st) s.heap.objs.size f cdv)) → sp vs H Q E →
      ∃ t, PSsT (cxOf C8.CX0 P w K mg base N x (C8.fnScope st) f cdv A outer s H E) (C8.fnBody st) t ∧ t { nx := fun _ H' => Q .non H', rt := Q } (start N vs) H) : C8.Cal P w K mg base (k + 1) x sp [] := by
  obtain ⟨f, fd, D, df⟩ := D
  obtain ⟨oc, od, dV, kV, doc, pm, an, cdv, ct, osl, rfl, lk, hcd⟩ := D.fn.ex
  have e : dV = .none := df
  subst e
  exact ⟨f, _, ps, [], fn_ofT lk hcd S hnc hps len (hbody f cdv), D.mgf, D.kp, .all (hb kV doc pm an cdv ct), .nil⟩
end

/-! ### what strip leaves -/
theorem tw_all {p : Nat → Bool} {l : List Nat} (h : ∀ c ∈ l, p c = true) : l.takeWhile p = l := by
  induction l with
  | nil => rfl
  | cons c r ih =>
    rw [List.takeWhile_cons, h c List.mem_cons_self, if_pos rfl, ih fun d hd => h d (List.mem_cons_of_mem _ hd)]
theorem tw_short {p : Nat → Bool} {l : List Nat} {c : Nat} (h : p c = false) : ((l ++ [c]).takeWhile p).length ≤ l.length := by
  induction l with
  | nil => simp [List.takeWhile_cons, h]
  | cons d r ih =>
    rw [List.cons_append, List.takeWhile_cons]
    cases hd : p d with
    | true => simpa using ih
    | false => simp
theorem dw_head {p : Nat → Bool} : ∀ {l : List Nat}, (∃ c ∈ l, p c = false) → ∃ c r, l.drop (l.takeWhile p).length = c :: r ∧ p c = false ∧ (l.takeWhile p).length + r.length + 1 = l.length
  | [], h => by
    obtain ⟨c, hc, _⟩ := h
    exact (List.not_mem_nil hc).elim
  | d :: r, h => by
    cases hd : p d with
    | false => exact ⟨d, r, by simp [List.takeWhile_cons, hd], hd, by simp [List.takeWhile_cons, hd]⟩
    | true =>
      have h' : ∃ c ∈ r, p c = false := by
        obtain ⟨c, hc, q⟩ := h
        rcases List.mem_cons.mp hc with rfl | hc
        · rw [hd] at q
          cases q
        · exact ⟨c, hc, q⟩
      obtain ⟨c, r', e1, e2, e3⟩ := dw_head h'
      refine ⟨c, r', ?_, e2, ?_⟩
      · rw [List.takeWhile_cons, hd, if_pos rfl, List.length_cons, List.drop_succ_cons, e1]
      · rw [List.takeWhile_cons, hd, if_pos rfl, List.length_cons, List.length_cons]
        omega
theorem strip_tl (g : Nat → Bool) (x : Str) : TL.tl (Txt.stripBy g true true x) = ((TL.tl x).drop ((TL.tl x).takeWhile g).length).take (x.length - (((TL.tl x).drop ((TL.tl x).takeWhile g).length).reverse.takeWhile g).length - ((TL.tl x).takeWhile g).length) := by
  rw [PySem.W.stripBy_eq]
  exact StrLaws.strSub_toList x _ _
theorem strip_none (x y : Str) : decide (V.str (Txt.stripChars x y) = V.str "") = hasOnly x y := by
  have e0 : TL.tl ("" : Str) = [] := by decide +kernel
  have hg : ∀ c, y.cps.contains c = decide (c ∈ TL.tl y) := fun c => by
    rw [Bool.eq_iff_iff]
    simp [TL.tl]
  have key : (Txt.stripChars x y = ("" : Str)) ↔ hasOnly x y = true := by
    have et := strip_tl (fun c => y.cps.contains c) x
    constructor
    · intro h
      refine Bool.not_eq_false _ ▸ fun hf => ?_
      have hx : ∃ c ∈ TL.tl x, y.cps.contains c = false := by
        refine Classical.byContradiction fun z => ?_
        have : hasOnly x y = true := by
          unfold hasOnly
          refine List.all_eq_true.mpr fun c hc => ?_
          rw [← hg]
          cases q : y.cps.contains c with
          | true => rfl
          | false => exact absurd ⟨c, hc, q⟩ z
        rw [this] at hf
        cases hf
      obtain ⟨c, r, e1, e2, e3⟩ := dw_head (p := fun c => y.cps.contains c) hx
      have h' : Txt.stripBy (fun c => y.cps.contains c) true true x = ("" : Str) := h
      rw [h', e0, e1] at et
      have hs := tw_short (p := fun c => y.cps.contains c) (l := r.reverse) e2
      rw [List.length_reverse, ← List.reverse_cons] at hs
      rw [← TL.len_tl] at e3
      have hp : ∃ m, x.length - (((c :: r).reverse.takeWhile fun c => y.cps.contains c)).length - ((TL.tl x).takeWhile fun c => y.cps.contains c).length = m + 1 := ⟨x.length - (((c :: r).reverse.takeWhile fun c => y.cps.contains c)).length - ((TL.tl x).takeWhile fun c => y.cps.contains c).length - 1, by omega⟩
      obtain ⟨m, hm⟩ := hp
      rw [hm, List.take_succ_cons] at et
      cases et
    · intro h
      have hx : ∀ c ∈ TL.tl x, y.cps.contains c = true := fun c hc => by
        rw [hg]
        unfold hasOnly at h
        exact List.all_eq_true.mp h c hc
      apply TL.ext_tl
      rw [e0]
      refine Eq.trans et ?_
      rw [tw_all hx, List.drop_length, List.take_nil]
  rw [Bool.eq_iff_iff, decide_eq_true_iff, ← key]
  exact ⟨fun h => V.str.inj h, fun h => by rw [h]⟩

/-! ### texts of plain signs -/
theorem plain_of {c : Nat} (h : c < 128) : plainC c = Unicode.isPrintable c := by
  have : ∀ c < 128, plainC c = Unicode.isPrintable c := by decide +kernel
  exact this c h
theorem plain_far {c : Nat} (h : ¬ c < 128) : plainC c = false := by
  have h2 : [126] < [c] := List.Lex.rel (by omega)
  unfold plainC
  rw [decide_eq_true h2]
  simp
theorem repl_one (k : Nat) : ∀ l : List Nat, StrLaws.replL [k] [] l = l.filter fun c => !decide (c = k)
  | [] => by rw [StrLaws.replL_nil]; rfl
  | c :: r => by
    by_cases h : c = k
    · rw [StrLaws.replL_hit (by simp) (by simp [h])]
      rw [List.filter_cons, h]
      simp [repl_one k r]
    · rw [StrLaws.replL_miss (by simp [h]), repl_one k r, List.filter_cons]
      simp [h]
def plainT (x : Str) : Bool := Txt.isascii x && Txt.isprintable (Txt.replace x "\n" "")
theorem plain_text (x : Str) : plainT x = (TL.tl x).all fun c => decide (c = 10) || plainC c := by
  have e10 : ("\n" : Str).cps.toList = [10] := by decide +kernel
  have e00 : ("" : Str).cps.toList = [] := by decide +kernel
  have hr : (Txt.replace x "\n" "").cps.toList = (TL.tl x).filter fun c => !decide (c = 10) := by
    rw [StrLaws.replace_list (by decide +kernel), e10, e00, repl_one]
  unfold plainT Txt.isascii Txt.isprintable
  rw [← Array.all_toList, ← Array.all_toList, hr]
  show ((TL.tl x).all _ && _) = _
  induction TL.tl x with
  | nil => rfl
  | cons c r ih =>
    rw [List.all_cons, List.all_cons, ← ih, List.filter_cons]
    by_cases h1 : c < 128
    · rw [plain_of h1]
      by_cases h2 : c = 10
      · simp [h1, h2]
      · simp [h1, h2]
        cases Unicode.isPrintable c <;> simp
    · rw [plain_far h1]
      have h2 : ¬ c = 10 := by omega
      simp [h1, h2]
end Fk

set_option maxHeartbeats 4000000
/-! An error of an own class as a value: made with keywords or without, its base any whose making is the plain one. -/
namespace Fk
open PySem PySem.Spec L2
open Builtin
section
variable {prog : Program} {w : World} {A : Around} {R : Result → Shared → Prop} {h : Heap} {g : Array GenState} {d : Drawn} {t : Nat} {os : OsState}
variable {nm q : Str} {C N : Addr} {bs bm bmB : List Value} {hdct : Bool} {sn : List Str} {sub : List Value} {ab : Bool} {col : Option Bool} {dd : Option Addr} {k0 k1 k2 k3 k5 : Option Value} {B newId initId : String} {kws : List (Str × Value)}
/-- what the class's own list of bases must say -/
structure BmOk (B : String) (bm : List Value) : Prop where
  b : bm.contains (.type B) = true
  a : bm.contains (.type "AttributeError") = false
  n : bm.contains (.type "NameError") = false
theorem BmOk.b' (o : BmOk B bm) : (Value.ref C :: bm).contains (.type B) = true := by
  have := o.b
  simp only [List.contains_cons, this, Bool.or_true]
theorem BmOk.a' (o : BmOk B bm) : (Value.ref C :: bm).contains (.type "AttributeError") = false := by
  have := o.a
  rw [List.contains_cons, this] <;> rfl
theorem BmOk.n' (o : BmOk B bm) : (Value.ref C :: bm).contains (.type "NameError") = false := by
  have := o.n
  rw [List.contains_cons, this] <;> rfl
theorem xcheck_new (F : ExcBaseFacts B newId initId bmB) (o : BmOk B bm) {rest : List Value} {M : Model} {E : Value → Shared → Prop} {Q : Unit → Shared → Prop} (hC : h.get? C = some (excClassObj nm q C N bs bm hdct sn sub ab col dd k0 k1 k2 k3 k5 newId))
    (hq : Q () ⟨h, g, d, t, os⟩) : wpAny M A (checkBuiltinCall newId ⟨.ref C :: rest, kws⟩) Q E ⟨h, g, d, t, os⟩ := by
  have z1 := o.b' (C := C)
  have z2 := F.noStar
  simp only [checkBuiltinCall, F.newKind, F.newSplit, F.newRow]
  repeat (first
    | refine wpAny_loadPart_at hC ?_
    | (refine wpAny_isSubtype_exc hC ?_; rw [z1])
    | refine wpAny_staticBase_exc hC ?_
    | refine wpAny_madeBy_exc hC ?_
    | simp only [bne_self_eq_false, Bool.false_eq_true, if_false]
    | wp_step)
  exact hq
theorem xnew (F : ExcBaseFacts B newId initId bmB) (o : BmOk B bm) {rest : List Value} (hC : h.get? C = some (excClassObj nm q C N bs bm hdct sn sub ab col dd k0 k1 k2 k3 k5 newId)) (hrest : rest.length ≤ sizeLine)
    (hq : R (.ok (.ret (.ref (h.objs.size + 1)))) ⟨(h.push (W.kdv_tup rest)).push (PySem.HandSPX.excO C h.objs.size), g, d, t, os⟩) :
    codeAny (model prog w) A (.builtin newId ⟨.ref C :: rest, kws⟩) R ⟨h, g, d, t, os⟩ := by
  have z0 := F.ends
  have z1 := o.b' (C := C)
  have z2 := o.a' (C := C)
  have z3 := o.n' (C := C)
  refine codeAny_builtinAt F.entry ?_
  unfold Builtin.«BaseException.__new__»
  refine wpAt_bind ?_
  show wpAt _ _ _ (stack >>= _) _ _ _
  refine wpAt_bind (wpAt_stack fun p below => wpAt_of_wpAny ?_)
  wp_walk
  refine wpAt_of_wpAny ?_
  rw [F.owner]
  repeat (first
    | with_reducible refine wpAny_madeHere_exc F.canon hC ?_
    | with_reducible refine wpAny_loadPart_at hC ?_
    | (with_reducible refine wpAny_isSubtype_exc hC ?_; first | rw [z1] | rw [z2] | rw [z3])
    | wp_step)
  show R _ _
  rw [Heap.size_push]
  exact hq
theorem xtype_call (F : ExcBaseFacts B newId initId bmB) (o : BmOk B bm) {rest : List Value} {fI : Addr} {Q : Fin → Shared → Prop} {E : Value → Shared → Prop} (hC : h.get? C = some (excClassObj nm q C N bs bm hdct sn sub ab col dd k0 k1 k2 k3 k5 newId))
    (hi : W.Looks (model prog w) h (typeLookup (.ref C) "__init__") (some (.ref fI))) (hb : ∀ self, W.Looks (model prog w) h (bindSpecial (.ref fI) self) (.ref fI, [self])) (hrest : rest.length ≤ sizeLine)
    (hq : codeAny (model prog w) A (.call (.ref fI) ⟨.ref (h.objs.size + 1) :: rest, kws⟩) (fun r s' => match r with | .ok (.ret v) => v = .none ∧ Q (.done (.ret (.ref (h.objs.size + 1)))) s' | .ok _ => False | .error e => E e s')
      ⟨(h.push (W.kdv_tup rest)).push (PySem.HandSPX.excO C h.objs.size), g, d, t, os⟩) :
    wpAny (model prog w) A (Builtin.«type.__call__» ⟨.ref C :: rest, kws⟩) Q E ⟨h, g, d, t, os⟩ := by
  repeat (first
    | with_reducible refine wpAny_loadPart_at hC ?_
    | with_reducible refine wpAny_madeBy_exc hC ?_
    | wp_step)
  refine codeAny_call_builtin_code (Code.quiet_builtin _ F.quiet) (xcheck_new F o hC ?_)
  refine xnew F o hC hrest ?_
  show wpAny _ _ _ _ _ _
  have kk : ∀ b u, h.get? b = some u → ((h.push (W.kdv_tup rest)).push (PySem.HandSPX.excO C h.objs.size)).get? b = some u := fun b u e => Heap.get?_push_of_some _ (Heap.get?_push_of_some _ e)
  have c1 := kk _ _ hC
  have gt : ((h.push (W.kdv_tup rest)).push (PySem.HandSPX.excO C h.objs.size)).get? (h.objs.size + 1) = some (PySem.HandSPX.excO C h.objs.size) := by heap_get
  have zC : (Value.ref C :: bm).contains (.ref C) = true := by
    rw [List.contains_cons, beq_self_eq_true, Bool.true_or]
  have j1 := hi.keeps kk
  have j2 := (hb (.ref (h.objs.size + 1))).keeps kk
  unfold isInstance
  repeat (first
    | with_reducible refine wpAny_loadPart_at gt ?_
    | (with_reducible refine wpAny_isSubtype_exc c1 ?_; rw [zC])
    | wp_step)
  show wpAny _ _ (typeLookup (.ref C) _) _ _ _
  refine j1.at (wpAny_holding (wpAny_bind (j2.at (wpAny_bind (wpAny_call (codeAny_mono hq fun r s' z => ?_))))))
  rcases r with e | (v | _ | _ | _) <;> first | exact z | exact z.elim | skip
  obtain ⟨rfl, z⟩ := z
  first
    | exact wpAny_pure (wpAny_pure z)
    | (wp_walk; exact z)

theorem xcall (F : ExcBaseFacts B newId initId bmB) (o : BmOk B bm) {rest : List Value} {fI : Addr} (hC : h.get? C = some (excClassObj nm q C N bs bm hdct sn sub ab col dd k0 k1 k2 k3 k5 newId))
    (hi : W.Looks (model prog w) h (typeLookup (.ref C) "__init__") (some (.ref fI))) (hb : ∀ self, W.Looks (model prog w) h (bindSpecial (.ref fI) self) (.ref fI, [self])) (hrest : rest.length ≤ sizeLine)
    (hq : codeAny (model prog w) (A.under (.builtin "type.__call__" ⟨.ref C :: rest, kws⟩)) (.call (.ref fI) ⟨.ref (h.objs.size + 1) :: rest, kws⟩) (W.InitBack (h.objs.size + 1) R) ⟨(h.push (W.kdv_tup rest)).push (PySem.HandSPX.excO C h.objs.size), g, d, t, os⟩) :
    codeAny (model prog w) A (.call (.ref C) ⟨rest, kws⟩) R ⟨h, g, d, t, os⟩ := by
  have z1 := tc_lookup
  have z2 := tc_bind (.ref C)
  have zT : (⟨h, g, d, t, os⟩ : Shared).TypeIs (.ref C) "type" := ⟨_, hC, rfl⟩
  refine codeAny_of_tree ?_
  show wpAny _ _ (callAny (.ref C) _) _ _ _
  repeat (any_goals (first
    | assumption
    | with_reducible refine wpAny_loadPart_at hC ?_
    | wp_step))
  refine ⟨rfl, codeAny_call_builtin_at (Code.quiet_builtin _ (by decide +kernel)) entry_typeCall (wpAny_check_type_call_sub hC (xtype_call F o hC hi hb hrest (codeAny_mono hq fun r s' z => ?_)))⟩
  rcases r with e | (v | _ | _ | _) <;> exact z

open Builtin.ObjectAttr in
theorem xosa {K : W.Frag} {name : Str} {tk : Tok} {v : Value} {x C : Addr} {fv : Array Value} {cd : ClassData} (XK : K.In h) (hx : h.get? x = some { cls := .ref C, data := .fields fv }) (hcd : W.clsIn K C = some cd) (hne : cd.mro.isEmpty = false)
    (hob : cd.mro.contains (.type "object") = true) (hps : refuseLoop (.ref x) "__setattr__" cd.mro = pure ()) (hh : cd.hasDict = true) (ha : W.findIn K (.ref C) name = some none)
    (hq : ∀ h' tk' dx, (∀ b u, b ≠ x → h.get? b = some u → h'.get? b = some u) → h.objs.size ≤ dx → dx ≠ x → h'.get? x = some { cls := .ref C, dict := some dx, data := .fields fv } → h'.Ns1 dx (fun y => if y = name then some v else none) → R (.ok (.ret .none)) ⟨h', g, d, tk', os⟩) :
    codeAny (model prog w) A (.call (.builtin "object.__setattr__") ⟨[.ref x, .str name tk, v], []⟩) R ⟨h, g, d, t, os⟩ := by
  have iT : W.InstAt h x { cls := .ref C, data := .fields fv } C none := ⟨hx, rfl, rfl, trivial⟩
  have sF := PySem.F.store_object
  have nx : x ≠ h.objs.size := Nat.ne_of_lt (Heap.lt_size hx)
  have isO : W.Looks (model prog w) h (isInstance (.ref x) (.type "object")) true := by
    refine iT.type.andThen (W.looks_mroIn XK ?_)
    unfold W.mroIn
    rw [hcd, Option.bind_some, if_neg (by rw [hne]; decide), hob]
  refine codeAny_call_builtin sF.slot.plain sF.entry (@W.check_slot (model prog w) _ _ ⟨h, g, d, t, os⟩ "object.__setattr__" "object" "__setattr__" (.ref x)
    [.str name tk, v] [] _ sF.kind sF.split isO (sF.args (.ref x) (.str name tk) v) ?_)
  have y1 : W.Looks (model prog w) h (mroOf (.ref C)) cd.mro := (W.looks_clsIn XK hcd).andThen .now
  have y2 : W.Looks (model prog w) h (storeTaker? none) none := .now
  have y3 : W.Looks (model prog w) h (classData C) cd := W.looks_clsIn XK hcd
  rw [W.osa_eq, refuse_eq]
  refine wpAny_bind (wpAny_bind (iT.type.at (wpAny_bind (y1.at ?_))))
  rw [hps]
  refine wpAny_pure (wpAny_bind (iT.type.at (wpAny_bind ((W.looks_findIn XK ha).at (wpAny_bind (y2.at ?_))))))
  show wpAny _ _ (storeInOwnDict (.ref x) (.ref C) (.str name tk) name v false) _ _ _
  obtain ⟨z1, z2, z3, z4, z5, hd, z6, z7, z8, z9, z10⟩ := cd
  dsimp only at hh
  subst hh
  unfold storeInOwnDict ownDictForStores
  repeat (first
    | with_reducible refine PySem.HandSPX.store_in_new ?_ ?_
    | with_reducible refine wpAny_loadPart_at hx ?_
    | with_reducible refine y3.at ?_
    | wp_step)
  · exact ⟨_, #[], _, (Heap.get?_update_ne _ _ _ _ nx.symm).trans (Heap.get?_push_at rfl rfl), rfl, fun e he => absurd he (by simp), fun _ => rfl⟩
  · intro h' tk' hn' hs
    have hx' : (h.push { cls := .type "dict", data := .dict #[] }).get? x = some { cls := .ref C, data := .fields fv } := Heap.get?_push_of_some _ hx
    refine hq h' tk' h.objs.size (fun b u hb hu => ?_) (Nat.le_refl _) nx.symm ?_ hn'
    · exact (hs.2 b (Nat.ne_of_lt (Heap.lt_size hu))).trans ((Heap.get?_update_ne _ _ _ _ hb).trans (Heap.get?_push_of_some _ hu))
    · exact (hs.2 x nx).trans (Heap.get?_update_self _ hx' rfl)
end
end Fk

set_option maxHeartbeats 4000000
namespace Fk
open PySem PySem.Spec L2
/-- what the written part says of an error's class, whose __init__ stands at fI -/
structure XC (K : PySem.W.Frag) (C fI : Addr) : Prop where
  cls : ∃ (B newId initId : String) (bmB : List Value) (nm q : Str) (N : Addr) (bs bm : List Value) (sn : List Str) (sub : List Value) (ab : Bool) (col : Option Bool) (dd : Option Addr) (k0 k1 k2 k3 k5 : Option Value),
    ExcBaseFacts B newId initId bmB ∧ BmOk B bm ∧ (∀ self, refuseLoop self "__setattr__" bm = pure ()) ∧ bm.contains (.type "object") = true ∧ K.lookup C = some (excClassObj nm q C N bs bm true sn sub ab col dd k0 k1 k2 k3 k5 newId)
  sa : PySem.W.findIn K (.ref C) "__setattr__" = some (some (.builtin "object.__setattr__"))
  kC : PySem.W.keepIn K (.ref C) = true
  iC : PySem.W.findIn K (.ref C) "__init__" = some (some (.ref fI))
  tI : PySem.W.typeIn K (.ref fI) = some (.type "function")
  ga : PySem.W.findIn K (.ref C) "__getattribute__" = some (some (.builtin "BaseException.__getattribute__"))
  gg : PySem.W.findIn K (.ref C) "__getattr__" = some none
  su : PySem.W.subIn K (.ref C) (.type "BaseException") = some true
  hd : PySem.W.hasDictIn K C = true
  ha : PySem.W.findIn K (.ref C) "__class__" = some (some (.builtin "object.__class__"))
  hn : PySem.W.specialIn K (.builtin "object.__class__") "__get__" = some (some (.builtin "getset_descriptor.__get__"))
  ht : PySem.W.takesIn K (.builtin "object.__class__") = some true
  hm : PySem.W.mroIn K C (.type "object") = some true
section
variable {X : Cx} {CX : CXT} {k : Nat} {fI C : Addr} {fd : FuncData} {ps : List Str} {sp : Sp}
theorem run_mkv {pins : List (Addr × Obj)} {σ : L2.St} {H : Hp} {s : Shared} {Q : VK} {us vals : List Value} {kz : List (Str × Value)} {vvs : List V} (T : XC X.K C fI) (F1 : FnOk X.prog X.w X.K X.mg X.base CX k fI fd ps sp) (hr : Room (k + 1) X.A)
    (hx : Passes CX X (fun _ _ _ => False)) (I : Inv X pins σ H s) (rv : Vals vvs vals) (hus : us.length ≤ 1000) (hbind : ∀ (s' : Shared) (self : Value), X.K.In s'.heap → BindsTo s' fd ⟨self :: us, kz⟩ (ps.zip (self :: vals)))
    (h : ∀ a, H a = none → sp (.ref a :: vvs) (upd H a (exo a C none)) (fun v H2 => v = .non ∧ Q (.ref a) H2) (fun _ _ _ => False)) :
    wpAny (model X.prog X.w) X.A (call (.ref C) us kz) (EP X pins σ Q) X.xe s := by
  obtain ⟨B, newId, initId, bmB, nm, q, N, bs, bm, sn, sub, ab, col, dd, k0, k1, k2, k3, k5, FB, ok, _, _, hC⟩ := T.cls
  obtain ⟨hp, g, dr, tk, os⟩ := s
  have hsz : hp.objs.size ≤ hp.objs.size + 1 := Nat.le_succ _
  have hq := h (hp.objs.size + 1) (I.hok.fresh hsz)
  have gt : ((hp.push (PySem.W.kdv_tup us)).push (PySem.HandSPX.excO C hp.objs.size)).get? (hp.objs.size + 1) = some (PySem.HandSPX.excO C hp.objs.size) := by heap_get
  have I2 : Inv X pins σ (upd H (hp.objs.size + 1) (exo (hp.objs.size + 1) C none)) ⟨(hp.push (PySem.W.kdv_tup us)).push (PySem.HandSPX.excO C hp.objs.size), g, dr, tk, os⟩ :=
    I.laid (t' := tk) (a := hp.objs.size + 1) (o := exo (hp.objs.size + 1) C none) (fun b u e => Heap.get?_push_of_some _ (Heap.get?_push_of_some _ e)) hsz (exo_ok gt)
  have r2 : Vals (V.ref (hp.objs.size + 1) :: vvs) (Value.ref (hp.objs.size + 1) :: vals) := .cons rfl rv
  have hz : us.length ≤ sizeLine := Nat.le_trans hus (by decide)
  refine wpAny_call (xcall FB ok (I.kIn _ _ hC) (PySem.W.looks_findIn I.kIn T.iC) (fun self => PySem.W.bind_fn I.kIn self T.tI) hz
    (codeAny_mono (F1.run _ X.stack _ _ ⟨Value.ref (hp.objs.size + 1) :: us, kz⟩ _ _ _ (fun _ _ _ => False) (hr.make C us kz) (I2.env0.make C us kz) (hbind _ _ I2.kIn) r2 hq) fun r s' z => ?_))
  cases r with
  | error e => exact hx pins σ _ _ e s' I2 z
  | ok fl =>
    cases fl with
    | ret u =>
      obtain ⟨v, H', I3, rv', ev, q3⟩ := I2.after z
      subst ev
      exact ⟨rv', ⟨V.ref (hp.objs.size + 1), H', I3, rfl, q3⟩⟩
    | next => exact z.elim
    | brk => exact z.elim
    | cont => exact z.elim
variable {x : Str} {p p' pos : Pos} {e o : Expr} {es : List Expr} {kws : List Keyword} {t tk : TA} {ds : List Value} {dvs : List V} {ks : List Str} {te to : TE} {f : Str}
/-- C(e, ..) as a value: an error's object stands at a, then __init__ -/
def tMkV (C : Addr) (sp : Sp) (dvs : List V) (t : TA) : TE := fun σ H Q => t σ H fun vs H1 => vs.length ≤ 1000 ∧ ∀ a, H1 a = none → sp (.ref a :: (vs ++ dvs)) (upd H1 a (exo a C none)) (fun v H2 => v = .non ∧ Q (.ref a) H2) (fun _ _ _ => False)
theorem pe_mkv (T : XC X.K C fI) (F1 : FnOk X.prog X.w X.K X.mg X.base CX k fI fd ps sp) (hr : Room (k + 1) X.A) (hb : Binds X.K fd ps ds) (hd : Vals dvs ds) (hx : Passes CX X (fun _ _ _ => False)) (hg : Gl X x) (hm : X.mg x = some (.ref C)) (ha : PA X (e :: es) t)
    (hdb : (x == ("__debug__" : Str)) = false := by decide) (he : starEach (e :: es) X.env = (false, eval e X.env) :: starEach es X.env := by rfl) (hpl : (backTo pos (starEach es X.env)).any (·.1) = false := by rfl) :
    PE X (.Call (.Name x p) (e :: es) [] pos) (tMkV C sp dvs t) := by
  refine ⟨fun pins s σ H Q I h => ?_⟩
  refine wpAny_Call_Name_kw (ld_glob I hg hm ?_ hdb)
  refine PySem.W.callWith_K (h₀ := X.base) I.ok.mod.kin T.kC (thn (ha.run pos pins s σ H _ I h) fun us s1 ⟨vs, H1, I1, r1, hz, q1⟩ => ⟨I1.kIn, ?_⟩) he hpl
  have q0 := q1 _ (I1.hok.fresh (Nat.le_refl _))
  have l0 := F1.len _ _ _ _ q0
  have l1 := (r1.append hd).length
  rw [List.length_cons] at l0
  exact run_mkv (us := us) (kz := []) T F1 hr hx I1 (r1.append hd) (by rw [← r1.length]; exact hz) (fun s' self X1 => hb s' (self :: us) X1 (by rw [List.cons_append, List.length_cons, ← l1]; exact l0)) q1
theorem pe_mkv0 (T : XC X.K C fI) (F1 : FnOk X.prog X.w X.K X.mg X.base CX k fI fd ps sp) (hr : Room (k + 1) X.A) (hb : Binds X.K fd ps ds) (hd : Vals dvs ds) (hx : Passes CX X (fun _ _ _ => False)) (hg : Gl X x) (hm : X.mg x = some (.ref C))
    (hdb : (x == ("__debug__" : Str)) = false := by decide) : PE X (.Call (.Name x p) [] [] pos) (tMkV C sp dvs tNil) := by
  refine ⟨fun pins s σ H Q I h => ?_⟩
  obtain ⟨_, q1⟩ := h
  refine wpAny_Call_Name_kw (ld_glob I hg hm ?_ hdb)
  refine PySem.W.callWith_K0 I.kIn T.kC ?_
  have q0 := q1 _ (I.hok.fresh (Nat.le_refl _))
  have l0 := F1.len _ _ _ _ q0
  rw [List.length_cons] at l0
  exact run_mkv (us := []) (kz := []) T F1 hr hx I hd (Nat.zero_le _) (fun s' self X1 => hb s' [self] X1 (by rw [List.singleton_append, List.length_cons, ← hd.length]; exact l0)) q1
/-- C(k = e, ..) as a value -/
def tMkVK (C : Addr) (n : Nat) (sp : Sp) (t : TA) : TE := fun σ H Q => t σ H fun zs H1 => zs.length = n ∧ ∀ a, H1 a = none → sp (.ref a :: zs) (upd H1 a (exo a C none)) (fun v H2 => v = .non ∧ Q (.ref a) H2) (fun _ _ _ => False)
theorem pe_mkvK (T : XC X.K C fI) (F1 : FnOk X.prog X.w X.K X.mg X.base CX k fI fd ps sp) (hr : Room (k + 1) X.A) (hb : ∀ (s : Shared) (self : Value) (ws : List Value), X.K.In s.heap → ws.length = ks.length → BindsTo s fd ⟨[self], ks.zip ws⟩ (ps.zip (self :: ws))) (hx : Passes CX X (fun _ _ _ => False))
    (hg : Gl X x) (hm : X.mg x = some (.ref C)) (hkw : PK X kws tk) (hall : (backToKw pos (keywordEach kws X.env)).all (·.1.isSome) = true := by rfl) (hks : (backToKw pos (keywordEach kws X.env)).filterMap (·.1) = ks := by rfl) (hdb : (x == ("__debug__" : Str)) = false := by decide)
    (hpl : ((backTo pos (starEach [] X.env)).any (·.1) || (backToKw pos (keywordEach kws X.env)).any (·.1.isNone)) = false := by rfl) : PE X (.Call (.Name x p) [] kws pos) (tMkVK C ks.length sp tk) := by
  refine ⟨fun pins s σ H Q I h => ?_⟩
  refine wpAny_Call_Name_kw (ld_glob I hg hm ?_ hdb)
  refine PySem.W.callWith_KW0 (h₀ := X.base) I.ok.mod.kin T.kC hall ?_ hpl
  refine thn (hkw.run pos pins s σ H _ I h) fun ws s2 ⟨zs, H2, I2, rz, l2, q2⟩ => ⟨I2.kIn, ?_⟩
  rw [hks]
  exact run_mkv (us := []) T F1 hr hx I2 rz (Nat.zero_le _) (fun s' self X1 => hb s' self ws X1 (by rw [← rz.length]; exact l2)) q2

theorem inst_v {H : Hp} {h : Heap} {P : Program} {w : World} {a d : Addr} {fs : List (Str × V)} (hok : HOk P w H h) (ea : H a = some (exo a C (some d))) (ed : H d = some (exd d fs)) :
    ∃ (ox od : Obj) (mA : Str → Option Value), PySem.W.InstAt h a ox C (some od) ∧ h.get? d = some od ∧ h.Ns1 d mA ∧ ∀ g, RelO (fs.lookup g) (mA g) := by
  obtain ⟨t1, ho⟩ := exo_at hok ea
  obtain ⟨mA, hns, rel⟩ := exd_at hok ed
  obtain ⟨od, es', ep, h1, h2, h3⟩ := id hns
  exact ⟨_, od, mA, ⟨ho, rfl, rfl, h1⟩, h1, hns, rel⟩
/-- e.f, e an error's value -/
def tFv (K : PySem.W.Frag) (f : Str) (te : TE) : TE := fun σ H Q => te σ H fun x H1 => ∃ (a C fI d : Addr) (fs : List (Str × V)) (v : V), x = .ref a ∧ XC K C fI ∧ PySem.W.findIn K (.ref C) f = some none ∧ H1 a = some (exo a C (some d)) ∧ H1 d = some (exd d fs) ∧ fs.lookup f = some v ∧ Q v H1
theorem pe_fv (he : PE X e te) (hb : attributeBase e f X.env (eval e X.env) = eval e X.env := by rfl) : PE X (.Attribute e f pos) (tFv X.K f te) := by
  refine ⟨fun pins s σ H Q I h => ?_⟩
  refine attr_of hb (thn (he.run pins s σ H _ I h) fun u s1 hh => ?_)
  obtain ⟨x, H1, I1, rx, a, C, fI, d, fs, v, ex, T, hno, ea, ed, l, q⟩ := hh
  subst ex
  obtain rfl : u = Value.ref a := rx
  obtain ⟨ox, od, mA, J, hod, hns, rel⟩ := inst_v I1.hok ea ed
  obtain ⟨od', ho', hl'⟩ := lookIn_ns hns
  rw [hod] at ho'
  cases ho'
  obtain ⟨u, hu, ru⟩ := RelO.some_of (v := v) (o := mA f) (by rw [← l]; exact rel f)
  exact PySem.HandSPX.exc_get I1.kIn J T.ga T.gg T.su (PySem.W.findObj_own T.hd hno rfl (by rw [hl', hu])) (handed_of ru) ⟨v, H1, I1.tok _, ru, q⟩
theorem kit_v {K : PySem.W.Frag} {a : Addr} {od : Option Obj} {ox : Obj} (T : XC K C fI) : PySem.W.KitX K (.ref a) (.ref C) (fun h => PySem.W.InstAt h a ox C od) := by
  refine PySem.W.kitx_exc ?_ T.ga T.gg T.su T.ha T.hn T.ht T.hm
  obtain ⟨B, newId, initId, bmB, nm, q, N, bs, bm, sn, sub, ab, col, dd, k0, k1, k2, k3, k5, FB, ok, _, _, hC⟩ := T.cls
  unfold PySem.W.clsIn
  rw [hC]
  rfl
/-- isinstance(e, c), e an error's value -/
def rIsV (K : PySem.W.Frag) : List V → Hp → VK → Prop := fun xs H Q => ∃ (a C fI d : Addr) (fs : List (Str × V)) (c : V) (u : Value) (b : Bool), xs = [.ref a, c] ∧ ClsV c u ∧ XC K C fI ∧ H a = some (exo a C (some d)) ∧ H d = some (exd d fs) ∧ PySem.W.kitOne K (.ref C) u = some b ∧ Q (.bl b) H
theorem call_isv : CallR X (.builtin "isinstance") (rIsV X.K) := by
  intro pins s σ H xs us Q I r h
  obtain ⟨a, C, fI, d, fs, c, u, b, rfl, kc, T, ea, ed, e, q⟩ := h
  obtain ⟨u1, u2, rfl, r1, r2⟩ := vals2 r
  have e2 := kc.eq r2
  subst e2
  obtain rfl : u1 = Value.ref a := r1
  obtain ⟨ox, od, mA, J, hod, hns, rel⟩ := inst_v I.hok ea ed
  exact PySem.W.kia_one (kit_v T) I.kIn J e (fun z => nomatch z) fun tk => ⟨.bl b, H, I.tok tk, rfl, q⟩
/-- isinstance(e, (c, ..)), e the error that the suite holds -/
def rIsS (K : PySem.W.Frag) (a : Addr) (cls : Value) (d : Option Addr) : List V → Hp → VK → Prop := fun xs H Q => ∃ (C fI tp dd : Addr) (fs : List (Str × V)) (cs : List V) (us : List Value) (b : Bool), xs = [.ref a, .ref tp] ∧ cls = .ref C ∧ d = some dd ∧ XC K C fI ∧ H dd = some (.xd fs) ∧
  H tp = some (.tup cs) ∧ Paired ClsV cs us ∧ PySem.W.kitAny K (.ref C) us = some b ∧ Q (.bl b) H
theorem call_isS {a : Addr} {oe : Obj} {cls : Value} {d : Option Addr} {pn : List (Addr × Obj)} (hz : Zc cls d oe) (hf : ∃ vs, oe.data = .fields vs) : CallR (X.suite a ((a, oe) :: pn)) (.builtin "isinstance") (rIsS X.K a cls d) := by
  intro pins s σ H xs us Q I r h
  obtain ⟨C, fI, tp, dd, fs, cs, ws, b, rfl, rfl, rfl, T, ed, hT, kc, e, q⟩ := h
  obtain ⟨u1, u2, rfl, r1, r2⟩ := vals2 r
  obtain rfl : u1 = Value.ref a := r1
  cases (show u2 = Value.ref tp from r2)
  obtain ⟨hget, _⟩ := I.pin (a, oe) (List.mem_append_left _ List.mem_cons_self)
  obtain ⟨vs, hv⟩ := hf
  obtain ⟨mA, hns, rel⟩ := (show ObjOk X.prog X.w H s.heap dd (.xd fs) from I.hok dd _ ed)
  obtain ⟨od, ho, hl⟩ := lookIn_ns hns
  have J : PySem.W.InstAt s.heap a oe C (some od) := ⟨hget, hz.1, by unfold PySem.W.notCls; rw [hv] <;> rfl, by rw [hz.2]; exact ho⟩
  obtain ⟨_, its, rv, o, h1, h2, n, h3⟩ := (show ObjOk X.prog X.w H s.heap tp (.tup cs) from I.hok tp _ hT)
  have e3 := ClsV.all kc rv
  subst e3
  obtain ⟨oc, od', dt, sl⟩ := o
  simp only at h2 h3
  subst h2 h3
  exact PySem.W.kia_tup (kit_v T) I.kIn J h1 e (fun z => nomatch z) fun tk => ⟨.bl b, H, I.tok tk, rfl, q⟩
theorem xost {pins : List (Addr × Obj)} {σ : L2.St} {H : Hp} {s : Shared} {a : Addr} {y : V} {u : Value} {Q : Unit → Shared → Prop} {E : Value → Shared → Prop} {A : Around} (T : XC X.K C fI) (I : Inv X pins σ H s) (ea : H a = some (exo a C none))
    (hno : PySem.W.findIn X.K (.ref C) f = some none) (ry : RelV y u)
    (h : ∀ dx s', H dx = none → dx ≠ a → Inv X pins σ (upd (upd H dx (exd dx [(f, y)])) a (exo a C (some dx))) s' → Q () s') : wpAny (model X.prog X.w) A (setAttr (.ref a) f u) Q E s := by
  obtain ⟨B, newId, initId, bmB, nm, q, N, bs, bm, sn, sub, ab, col, dd, k0, k1, k2, k3, k5, FB, ok, hps, hob, hC⟩ := T.cls
  have hcl : PySem.W.clsIn X.K C = some { name := nm, bases := bs, mro := .ref C :: bm, ns := N, qualname := q, hasDict := true, slotNames := sn, subclasses := sub, abstract := ab, collection := col, hasDel := false } := by
    unfold PySem.W.clsIn
    rw [hC]
  obtain ⟨t1, ho⟩ := exo_at I.hok ea
  obtain ⟨hp, g, d, t, os⟩ := s
  refine PySem.W.set_plain I.kIn (ox := { cls := .ref C, dict := none, data := .fields #[.ref t1, .none, .none, .none, .bool false, .none] }) (od := none) ⟨ho, rfl, rfl, trivial⟩ T.sa ?_
  refine xosa I.kIn ho hcl rfl (by rw [List.contains_cons, hob, Bool.or_true]) (by rw [refuseLoop_ref]; exact hps _) rfl hno (fun h' tk' dx kp dn dne hx hn => ?_)
  have zd : H dx = none := I.hok.fresh dn
  have nd : ∀ {b : Addr} {o : Obj}, hp.get? b = some o → b ≠ dx := fun {b o} w => Nat.ne_of_lt (Nat.lt_of_lt_of_le (Heap.lt_size w) dn)
  have na : ∀ {b : Addr}, H b = none → b ≠ a := fun {b} n z => by
    rw [z, ea] at n
    cases n
  have U : Un X.fs [] H (upd (upd H dx (exd dx [(f, y)])) a (exo a C (some dx))) hp h' := by
    refine ⟨fun b o w n _ _ => kp b o (na n) w, fun b o w n _ _ => ⟨o.slots, kp b o (na n) w⟩, fun b o w n _ => ?_, fun b o w _ => ?_, fun b xs w => ?_, fun b o v w => ?_, fun b ps w => ⟨#[], ?_⟩⟩
    · rw [upd_ne (na n), upd_ne (nd w)]
      exact n
    · by_cases hb : b = a
      · rw [hb]
        exact ⟨_, hx⟩
      · exact ⟨o, kp b o hb w⟩
    · rw [upd_ne (at_ne ea w exo_tup), upd_ne (ne_of_none w zd)]
      exact w
    · rw [upd_ne (at_ne ea w exo_frz), upd_ne (ne_of_none w zd)]
      exact w
    · rw [upd_ne (at_ne ea w exo_tbl), upd_ne (ne_of_none w zd), w]
      simp
  refine h dx _ zd dne (I.un (t' := tk') U fun b o w => ?_)
  by_cases hb : b = a
  · rw [hb, upd_same] at w
    cases w
    rw [hb]
    exact exo_ok hx
  rw [upd_ne hb] at w
  by_cases hd : b = dx
  · rw [hd, upd_same] at w
    cases w
    rw [hd]
    exact exd_ok hn (relO_put (fs := []) ry fun g => True.intro)
  rw [upd_ne hd] at w
  refine (I.hok b o w).stay (fun c v hc z => kp c v ?_ z) (fun c hc => ?_) (fun c xs hc => ?_)
  · rcases hc with hc | hc
    · rw [hc]
      exact hb
    · exact at_ne ea hc exo_own
  · rw [upd_ne (at_ne ea hc exo_own), upd_ne (ne_of_none hc zd)]
    exact hc
  · rw [upd_ne (at_ne ea hc exo_tup), upd_ne (ne_of_none hc zd)]
    exact hc
/-- self.f = e, self an error that has no field yet -/
def tOsv (K : PySem.W.Frag) (f : Str) (to te : TE) : TS := fun D σ H => te σ H fun y H1 => to σ H1 fun x H2 => ∃ a C fI : Addr, x = .ref a ∧ XC K C fI ∧ PySem.W.findIn K (.ref C) f = some none ∧ H2 a = some (exo a C none) ∧
  ∀ dx, H2 dx = none → dx ≠ a → D.nx σ (upd (upd H2 dx (exd dx [(f, y)])) a (exo a C (some dx)))
theorem ps_osv (ho : PE X o to) (he : PE X e te) (hs : swapsWith e (some (.Attribute o f p')) pos.line X.env = pure false := by rfl) : PS X (.Assign [.Attribute o f p'] e pos) (tOsv X.K f to te) := by
  refine ⟨fun pins s σ H D I h => ?_⟩
  refine plainObj_wpAny_Assign_Attribute (thn (he.run pins s σ H _ I h) fun v s1 ⟨y, H1, I1, r1, q1⟩ => thn (ho.run pins s1 σ H1 _ I1 q1) fun u s2 ⟨x, H2, I2, r2, a, C, fI, ex, T, hno, ea, q⟩ => ?_) hs
  subst ex
  obtain rfl : u = Value.ref a := r2
  exact xost T I2 ea hno r1 fun dx s' n ne J => ⟨σ, _, J, q dx n ne⟩
end
end Fk

set_option maxHeartbeats 4000000
/-! What is known of an error's class by its entry in the written part. -/
namespace Fk
open PySem PySem.Spec L2
def VE : List Value := [.type "ValueError", .type "Exception", .type "BaseException", .type "object"]
def KE : List Value := [.type "KeyError", .type "LookupError", .type "Exception", .type "BaseException", .type "object"]
structure CF (K : PySem.W.Frag) (nm : Str) (newId : String) (bm : List Value) (C : Addr) : Prop where
  x : ∃ (q : Str) (N : Addr) (bs : List Value) (sn : List Str) (sub : List Value) (ab : Bool) (col : Option Bool) (dd : Option Addr) (k0 k1 k2 k3 k5 : Option Value), K.lookup C = some (excClassObj nm q C N bs bm true sn sub ab col dd k0 k1 k2 k3 k5 newId)
section
variable {K : PySem.W.Frag} {nm nm' : Str} {newId newId' : String} {bm bm' : List Value} {C C' : Addr}
theorem CF.sub (c : CF K nm newId bm C) (u : Value) : PySem.W.subIn K (.ref C) u = some ((Value.ref C :: bm).contains u) := by
  obtain ⟨q, N, bs, sn, sub, ab, col, dd, k0, k1, k2, k3, k5, e⟩ := c.x
  show PySem.W.mroIn K C u = _
  unfold PySem.W.mroIn PySem.W.clsIn
  rw [e]
  rfl
theorem CF.mro (c : CF K nm newId bm C) (u : Value) : PySem.W.mroIn K C u = some ((Value.ref C :: bm).contains u) := c.sub u
theorem CF.typ (c : CF K nm newId bm C) : PySem.W.typeIn K (.ref C) = some (.type "type") := by
  obtain ⟨q, N, bs, sn, sub, ab, col, dd, k0, k1, k2, k3, k5, e⟩ := c.x
  show (K.lookup C).map (·.cls) = _
  rw [e]
  rfl
theorem CF.hd (c : CF K nm newId bm C) : PySem.W.hasDictIn K C = true := by
  obtain ⟨q, N, bs, sn, sub, ab, col, dd, k0, k1, k2, k3, k5, e⟩ := c.x
  unfold PySem.W.hasDictIn PySem.W.clsIn
  rw [e]
  rfl
theorem CF.isc (c : CF K nm newId bm C) : (PySem.W.clsIn K C).isSome = true := by
  obtain ⟨q, N, bs, sn, sub, ab, col, dd, k0, k1, k2, k3, k5, e⟩ := c.x
  unfold PySem.W.clsIn
  rw [e]
  rfl
theorem CF.kit (c : CF K nm newId bm C) (c' : CF K nm' newId' bm' C') : PySem.W.kitOne K (.ref C) (.ref C') = some ((Value.ref C :: bm).contains (.ref C')) := by
  unfold PySem.W.kitOne
  by_cases h : C = C'
  · subst h
    have e : (Value.ref C == .ref C) = true := beq_self_eq_true _
    rw [if_pos e, List.contains_cons, e, Bool.true_or]
  · have e : ¬ (Value.ref C == .ref C') = true := fun z => by
      have := eq_of_beq z
      cases this
      exact h rfl
    have t : ((PySem.W.clsIn K C').isSome && PySem.W.typeIn K (.ref C') == some (.type "type")) = true := by
      rw [c'.isc, c'.typ] <;> rfl
    rw [if_neg e]
    show (if ((PySem.W.clsIn K C').isSome && PySem.W.typeIn K (.ref C') == some (.type "type")) = true then PySem.W.subIn K (.ref C) (.ref C') else none) = _
    rw [if_pos t]
    exact c.sub _
theorem CF.kitT (c : CF K nm newId bm C) {n : String} (h : PySem.W.kitMeta n = true) : PySem.W.kitOne K (.ref C) (.type n) = some ((Value.ref C :: bm).contains (.type n)) := by
  unfold PySem.W.kitOne
  have e : ¬ (Value.ref C == .type n) = true := fun z => by
    have := eq_of_beq z
    cases this
  rw [if_neg e]
  show (if PySem.W.kitMeta n = true then PySem.W.subIn K (.ref C) (.type n) else none) = _
  rw [if_pos h]
  exact c.sub _
theorem CF.name (c : CF K nm newId bm C) (c' : CF K nm' newId' bm' C) : nm = nm' := by
  obtain ⟨q, N, bs, sn, sub, ab, col, dd, k0, k1, k2, k3, k5, e⟩ := c.x
  obtain ⟨q', N', bs', sn', sub', ab', col', dd', k0', k1', k2', k3', k5', e'⟩ := c'.x
  rw [e] at e'
  have z := Option.some.inj e'
  injection z with z1 z2 z3 z4
  injection z3 with z5
  injection z5
theorem CF.oex (c : CF K nm "ValueError.__new__" bm C) (h : PySem.HandSPX.refsVE bm = true) (sa : PySem.W.findIn K (.ref C) "__setattr__" = some (some (.builtin "object.__setattr__"))) (kC : PySem.W.keepIn K (.ref C) = true) (hb : bm.contains (.type "BaseException") = true) : OexC K C := by
  obtain ⟨q, N, bs, sn, sub, ab, col, dd, k0, k1, k2, k3, k5, e⟩ := id c.x
  refine { cls := ⟨nm, q, N, bs, bm, sn, sub, ab, col, dd, k0, k1, k2, k3, k5, e, h⟩, sa := sa, exC := ?_, tyC := c.typ, kC := kC }
  rw [c.sub, List.contains_cons, hb, Bool.or_true]
theorem CF.exm (c : CF K nm newId bm C) (c' : CF K nm' newId' bm' C') (hb : bm'.contains (.type "BaseException") = true) {b : Bool} (e : (Value.ref C :: bm).contains (.ref C') = b) : PySem.W.exmOne K (.ref C) (.ref C') = some b := by
  refine PySem.W.exm_ref ?_ c'.hd c'.typ ((c.sub _).trans (congrArg some e))
  rw [c'.sub, List.contains_cons, hb, Bool.or_true]
theorem CF.xc (c : CF K nm newId bm C) {B initId : String} {bmB : List Value} {fI : Addr} (FB : ExcBaseFacts B newId initId bmB) (ok : BmOk B bm) (ps : ∀ self, refuseLoop self "__setattr__" bm = pure ()) (ob : bm.contains (.type "object") = true) (hb : bm.contains (.type "BaseException") = true)
    (sa : PySem.W.findIn K (.ref C) "__setattr__" = some (some (.builtin "object.__setattr__"))) (kC : PySem.W.keepIn K (.ref C) = true) (iC : PySem.W.findIn K (.ref C) "__init__" = some (some (.ref fI))) (tI : PySem.W.typeIn K (.ref fI) = some (.type "function"))
    (ga : PySem.W.findIn K (.ref C) "__getattribute__" = some (some (.builtin "BaseException.__getattribute__"))) (gg : PySem.W.findIn K (.ref C) "__getattr__" = some none) (ha : PySem.W.findIn K (.ref C) "__class__" = some (some (.builtin "object.__class__")))
    (hn : PySem.W.specialIn K (.builtin "object.__class__") "__get__" = some (some (.builtin "getset_descriptor.__get__"))) (ht : PySem.W.takesIn K (.builtin "object.__class__") = some true) : XC K C fI := by
  obtain ⟨q, N, bs, sn, sub, ab, col, dd, k0, k1, k2, k3, k5, e⟩ := id c.x
  refine { cls := ⟨B, newId, initId, bmB, nm, q, N, bs, bm, sn, sub, ab, col, dd, k0, k1, k2, k3, k5, FB, ok, ps, ob, e⟩, sa := sa, kC := kC, iC := iC, tI := tI, ga := ga, gg := gg, su := ?_, hd := c.hd, ha := ha, hn := hn, ht := ht, hm := ?_ }
  · rw [c.sub, List.contains_cons, hb, Bool.or_true]
  · rw [c.mro, List.contains_cons, ob, Bool.or_true]
end
theorem ve_ok : BmOk "ValueError" VE := ⟨by decide +kernel, by decide +kernel, by decide +kernel⟩
theorem ke_ok : BmOk "LookupError" KE := ⟨by decide +kernel, by decide +kernel, by decide +kernel⟩
theorem rve_ok (c : Addr) : BmOk "ValueError" (.ref c :: VE) := ⟨ve_ok.b', ve_ok.a', ve_ok.n'⟩
theorem ve_pass (self : Value) : refuseLoop self "__setattr__" VE = pure () := PySem.F.store_ValueError.passes self
theorem rve_pass (c : Addr) (self : Value) : refuseLoop self "__setattr__" (.ref c :: VE) = pure () := by
  rw [refuseLoop_ref]
  exact ve_pass self
theorem ke_pass (self : Value) : refuseLoop self "__setattr__" KE = pure () := by
  kernel_rfl
end Fk

set_option maxHeartbeats 4000000
/-! Operators of an own class: ==, !=, +, unary -. -/
namespace Fk
open PySem PySem.Spec PyProof.Rows L2
/-- nothing is let out where E0 is asked -/
def NoEx (CX : CXT) : Prop := ∀ outer H s u s', CX outer H s C8.E0 u s' → False
theorem noEx0 : NoEx C8.CX0 := fun _ _ _ _ _ h => h
theorem noExL {P : Program} {w : World} : NoEx (L2.CX P w) := fun outer H s u s' h => by
  obtain ⟨_, _, _, _, _, _, _, _, _, _, _, _, e⟩ := h
  exact e
/-- a method of an own class -/
structure OwnM (P : Program) (w : World) (K : PySem.W.Frag) (mg : Str → Option Value) (base : Heap) (CX : CXT) (k : Nat) (C : Addr) (m : Str) (sp : Sp) : Prop where
  ex : ∃ (f : Addr) (fd : FuncData) (ps : List Str), PySem.W.findIn K (.ref C) m = some (some (.ref f)) ∧ PySem.W.isFn K (.ref f) = true ∧ FnOk P w K mg base CX k f fd ps sp ∧ Binds K fd ps []
section
variable {X : Cx} {CX : CXT} {k : Nat} {C a dx : Addr} {sp : Sp} {fs : List (Str × V)} {y : V} {u tb : Value} {pins : List (Addr × Obj)} {σ : L2.St} {H : Hp} {s : Shared} {Q : VK}
/-- a def runs, somewhere below the body; it lets nothing out -/
theorem run_in {f : Addr} {fd : FuncData} {ps : List Str} {us : List Value} {vs : List V} {E' : Value → Shared → Prop} {A : Around} (F : FnOk X.prog X.w X.K X.mg X.base CX k f fd ps sp) (hr : Room k A) (hA : Env0 X.prog X.w X.K X.mg X.base A X.stack s H) (hb : Binds X.K fd ps []) (hx : NoEx CX)
    (I : Inv X pins σ H s) (r : Vals vs us) (h : sp vs H Q C8.E0) : wpAny (model X.prog X.w) A (call (.ref f) us) (EP X pins σ Q) E' s := by
  have hl : us.length = ps.length := by
    rw [← r.length]
    exact F.len _ _ _ _ h
  have b := hb s us I.kIn (by rw [List.append_nil]; exact hl)
  rw [List.append_nil] at b
  refine wpAny_call (codeAny_mono (F.run A X.stack s H ⟨us, []⟩ us vs Q C8.E0 hr hA b r h) fun r s' hq => ?_)
  cases r with
  | error e => exact (hx _ _ _ _ _ hq).elim
  | ok fl =>
    cases fl with
    | ret u => exact I.after hq
    | next => exact hq.elim
    | brk => exact hq.elim
    | cont => exact hq.elim
/-- x == y, x an own object -/
def rOwnEq (K : PySem.W.Frag) (C : Addr) (sp : Sp) : R2 := fun x y H Q => ∃ (a dx : Addr) (fs : List (Str × V)) (tb : Value), x = .ref a ∧ H a = some (.ins C dx fs) ∧ TyX K H y tb ∧ PySem.W.notFirst K C tb = true ∧ sp [x, y] H (fun v H' => ∃ b, v = .bl b ∧ Q (.bl b) H') C8.E0
theorem op_ownEq (M : OwnM X.prog X.w X.K X.mg X.base CX k C "__eq__" sp) (hr : Room k X.A) (hx : NoEx CX) : OpR X (compareOp .Eq) (rOwnEq X.K C sp) := by
  intro pins s σ H x y v u Q I rx ry h
  obtain ⟨a, dx, fs, tb, rfl, ha, ty, hn, q⟩ := h
  obtain ⟨f, fd, ps, hs, hf, F, hb⟩ := M.ex
  cases (show v = Value.ref a from rx)
  obtain ⟨mA, J, _⟩ := ins_get I.hok ha
  obtain ⟨od, J, _⟩ := J.look
  obtain ⟨m, hF⟩ := I.fr
  obtain ⟨P', Z, p, _⟩ := kit_of I ry ty
  show wpAny (model X.prog X.w) X.A (richCompare .Eq (.ref a) u) (EP X pins σ Q) X.xe s
  refine PySem.W.cmp_K (op := .Eq) hr.units0 hF I.ok.mod.kin J (Z.ty _ _ I.kIn p) hn hs hf (wpAny_mono (run_in F hr I.env0 hb hx I (show Vals [V.ref a, y] [Value.ref a, u] from .cons rfl (.cons ry .nil)) q) (fun v s' z => ?_) fun _ _ x => x)
  obtain ⟨x, H', I', rv, b, rfl, q'⟩ := z
  cases (show v = Value.bool b from rv)
  exact ⟨.bl b, H', I', rfl, q'⟩
/-- x != y by object.__ne__, which asks x's own == -/
def rOwnNe (K : PySem.W.Frag) (C : Addr) (sp : Sp) : R2 := fun x y H Q => ∃ (a dx : Addr) (fs : List (Str × V)) (tb : Value), x = .ref a ∧ H a = some (.ins C dx fs) ∧ TyX K H y tb ∧ PySem.W.notFirst K C tb = true ∧ sp [x, y] H (fun v H' => ∃ b, v = .bl b ∧ Q (.bl (!b)) H') C8.E0
theorem op_ownNe (M : OwnM X.prog X.w X.K X.mg X.base CX k C "__eq__" sp) (hr : Room (k + 1) X.A) (hx : NoEx CX) (hne : PySem.W.findIn X.K (.ref C) "__ne__" = some (some (.builtin "object.__ne__"))) (hob : PySem.W.mroIn X.K C (.type "object") = some true) :
    OpR X (compareOp .NotEq) (rOwnNe X.K C sp) := by
  intro pins s σ H x y v u Q I rx ry h
  obtain ⟨a, dx, fs, tb, rfl, ha, ty, hn, q⟩ := h
  obtain ⟨f, fd, ps, hs, hf, F, hb⟩ := M.ex
  cases (show v = Value.ref a from rx)
  obtain ⟨mA, J, _⟩ := ins_get I.hok ha
  obtain ⟨od, J, _⟩ := J.look
  obtain ⟨P', Z, p, _⟩ := kit_of I ry ty
  have hbT := Z.ty (model X.prog X.w) s.heap I.kIn p
  have X0 := I.kIn
  have one : wpAny (model X.prog X.w) X.A (tryCompare (.ref a) "__ne__" u) (fun r s' => ∃ v, r = some v ∧ EP X pins σ Q v s') X.xe s := by
    unfold tryCompare
    have sp : PySem.W.Looks (model X.prog X.w) s.heap (specialOf (.ref a) "__ne__") (some (.builtin "object.__ne__")) := J.type.andThen (PySem.W.looks_findIn X0 hne)
    have iv : PySem.W.Looks (model X.prog X.w) s.heap (isInstance (.ref a) (.type "object")) true := J.type.andThen (PySem.W.looks_mroIn X0 hob)
    refine wpAny_bind (NtL.csib (E := X.xe) sp (PySem.F.cmp_object.ne.bind _) ?_)
    refine wpAny_call (codeAny_call_builtin PySem.F.cmp_object.ne.plain PySem.F.cmpEntry_ne (PySem.W.check_slot PySem.F.cmpKind_ne PySem.F.cmpSplit_ne iv (PySem.F.cmpArgs_ne _ _) ?_))
    have hu : X.A.in1.units < cLine := hr.in1.units0
    unfold Builtin.«object.__ne__»
    repeat (first
      | with_reducible refine wpAny_cRoomFor hu ?_
      | (refine wpAny_bind (m := callSpecialIfBound? (.ref a) (Str.ofString "__eq__") [u]) (PySem.W.ifBound_K X0 J hs hf (wpAny_mono (run_in (E' := fun _ _ => False) F hr.in1 I.env0.in1 hb hx I (show Vals [V.ref a, y] [Value.ref a, u] from .cons rfl (.cons ry .nil)) q) (fun v s' z => ?_) fun _ _ x => x.elim)))
      | wp_step)
    obtain ⟨x, H', I', rv, b, rfl, q'⟩ := z
    cases (show v = Value.bool b from rv)
    show wpAny _ _ (truthy (.bool b) >>= _) _ _ _
    refine wpAny_bind (wpAny_truthy_bool ?_)
    exact wpAny_pure (wpAny_pure ⟨_, rfl, .bl (!b), H', I', rfl, q'⟩)
  show wpAny (model X.prog X.w) X.A (richCompare .NotEq (.ref a) u) (EP X pins σ Q) X.xe s
  unfold richCompare
  simp only [oneThing_ref]
  refine wpAny_holding (wpAny_bind (wpAny_cRoomFor hr.units0 ?_))
  refine wpAny_bind (J.type.here (wpAny_bind (hbT.here ?_)))
  split
  · rename_i z
    have e : PySem.W.subIn X.K tb (.ref C) = some false := by
      rcases Bool.or_eq_true_iff.mp hn with e | e
      · rw [beq_iff_eq.mp e] at z
        simp at z
      · exact beq_iff_eq.mp e
    refine wpAny_bind ((PySem.W.looks_subIn X0 e).here ?_)
    simp only [Bool.false_eq_true, if_false]
    refine wpAny_bind (wpAny_mono one (fun r s' z => ?_) fun _ _ e => e)
    obtain ⟨v, rfl, hq⟩ := z
    exact wpAny_pure hq
  · refine wpAny_bind (wpAny_pure ?_)
    simp only [Bool.false_eq_true, if_false]
    refine wpAny_bind (wpAny_mono one (fun r s' z => ?_) fun _ _ e => e)
    obtain ⟨v, rfl, hq⟩ := z
    exact wpAny_pure hq
/-- -x -/
def rOwnNeg (C : Addr) (sp : Sp) : V → Hp → VK → Prop := fun x H Q => ∃ (a dx : Addr) (fs : List (Str × V)), x = .ref a ∧ H a = some (.ins C dx fs) ∧ sp [x] H Q C8.E0
theorem un_ownNeg (M : OwnM X.prog X.w X.K X.mg X.base CX k C "__neg__" sp) (hr : Room k X.A) (hx : NoEx CX) : UnR X (unaryOp .USub) (rOwnNeg C sp) := by
  intro pins s σ H x v Q I rx h
  obtain ⟨a, dx, fs, rfl, ha, q⟩ := h
  obtain ⟨f, fd, ps, hs, hf, F, hb⟩ := M.ex
  cases (show v = Value.ref a from rx)
  obtain ⟨mA, J, _⟩ := ins_get I.hok ha
  obtain ⟨od, J, _⟩ := J.look
  obtain ⟨m, hF⟩ := I.fr
  exact PySem.W.ksp_neg hF I.ok.mod.kin J hs hf (run_in F hr I.env0 hb hx I (show Vals [V.ref a] [Value.ref a] from .cons rfl .nil) q)
end
end Fk
namespace PySem.W
open PySem PySem.Spec PyProof.Rows
section
variable {prog : Program} {w : World} {A : Around} {E : Value → Shared → Prop} {s : Shared} {K : Frag} {x C L f : Addr} {h₀ : Heap} {m : Str → Option Value} {ox : Obj} {od : Option Obj} {nm T : String}
theorem fk_binT {op : Operator} {b : Value} {fo ro rc : Option Value} {Q : Value → Shared → Prop} (F : Fr h₀ L s.heap m) (X₀ : K.In h₀) (I : InstAt s.heap x ox C od) (hb : Looks (model prog w) s.heap (typeOf b) (.type T)) (hc : selfFirst K C = true)
    (hs : findIn K (.ref C) (PySem.dunder op.info.2) = some (some (.ref f))) (hf : isFn K (.ref f) = true) (hr : findIn K (.ref C) (dunderR op.info.2) = some rc) (hp : rc = none ∨ ∃ g : Addr, rc = some (.ref g))
    (h1 : findIn K (.type T) (PySem.dunder op.info.2) = some fo) (h2 : findIn K (.type T) (dunderR op.info.2) = some ro) (hsub : subIn K (.type T) (.ref C) = some false)
    (h : wpAny (model prog w) A (call (.ref f) [.ref x, b]) (CmpBack Q) E s) : wpAny (model prog w) A (binaryOp op (.ref x) b) Q E s := by
  have X := X₀.keeps F.keep
  obtain ⟨cd, rest, hcd, hm⟩ := ksp_first hc
  rcases hi : op.info with ⟨sym, nm'⟩
  rw [hi] at hs hr h1 h2
  dsimp only at hs hr h1 h2
  have one := ksp_try X I hs hf h
  obtain ⟨hh, g, d, tt, os⟩ := s
  have L1 : Looks (model prog w) hh (typeOf (.ref x)) (.ref C) := I.type
  have L2 : Looks (model prog w) hh (typeOf b) (.type T) := hb
  have L3 : Looks (model prog w) hh (fillsNumberSlot (.ref C) nm') true := fills_K X hcd hm hs
  have L4 : Looks (model prog w) hh (fillsNumberSlot (.type T) nm') ((fo.isSome && !isSeqSlot fo) || (ro.isSome && !isSeqSlot ro)) := ksp_fillsT X h1 h2
  have L5 : Looks (model prog w) hh (isSubtype (.type T) (.ref C)) false := looks_subIn X hsub
  have L6 : Looks (model prog w) hh (numberSlotInPython (.ref C) nm') true := ksp_inPy X hs hr hp
  have L7 : Looks (model prog w) hh (numberSlotInPython (.type T) nm') false := Looks.of_pure rfl
  have L8 : Looks (model prog w) hh (typeLookup (.type T) (dunderR nm')) ro := looks_findIn X h2
  generalize ((fo.isSome && !isSeqSlot fo) || (ro.isSome && !isSeqSlot ro)) = right at L4
  have hne : (Value.ref C == Value.type T) = false := Bool.eq_false_iff.mpr fun q => by cases beq_iff_eq.mp q
  simp only [binaryOp, hi]
  refine wpAny_holding (wpAny_bind ?_)
  unfold binaryOp1
  refine wpAny_bind (L1.at (wpAny_bind (L2.at (wpAny_bind (L3.at ?_)))))
  simp only [hne, Bool.false_eq_true, if_false]
  cases right with
  | false =>
    ksp_lk
    refine wpAny_mono one (fun r s' hr' => ?_) fun _ _ e => e
    obtain ⟨v, rfl, hq⟩ := hr'
    ksp_lk
    exact hq
  | true =>
    ksp_lk
    refine wpAny_mono one (fun r s' hr' => ?_) fun _ _ e => e
    obtain ⟨v, rfl, hq⟩ := hr'
    ksp_lk
    exact hq
end
end PySem.W
namespace Fk
open PySem PySem.Spec PyProof.Rows L2
/-- what is asked of a class for its + -/
structure AddF (K : PySem.W.Frag) (C : Addr) : Prop where
  first : PySem.W.selfFirst K C = true
  noR : PySem.W.findIn K (.ref C) "__radd__" = some none
/-- what may stand on the right of an own + -/
inductive RightOf (K : PySem.W.Frag) (H : Hp) (C : Addr) : V → Prop where
  | ins {b dy : Addr} {gs : List (Str × V)} (h : H b = some (.ins C dy gs)) : RightOf K H C (.ref b)
  | ty {y : V} {T : String} {fo ro : Option Value} (h : TyX K H y (.type T)) (h1 : PySem.W.findIn K (.type T) "__add__" = some fo) (h2 : PySem.W.findIn K (.type T) "__radd__" = some ro) (hs : PySem.W.subIn K (.type T) (.ref C) = some false) : RightOf K H C y
/-- x + y by x's own +: what may be let out is E, at the slots; the answer is an object -/
def tOwnAdd (K : PySem.W.Frag) (C : Addr) (sp : Sp) (E : L2.St → XK) (ta tb : TE) : TE := fun σ H Q => ta σ H fun x H1 => tb σ H1 fun y H2 => ∃ (a dx : Addr) (fs : List (Str × V)), x = .ref a ∧ H2 a = some (.ins C dx fs) ∧ RightOf K H2 C y ∧
  sp [x, y] H2 (fun v H' => ∃ b, v = .ref b ∧ Q v H') (E σ)
theorem pe_ownAdd {X : Cx} {CX : CXT} {k : Nat} {C : Addr} {sp : Sp} {E : L2.St → XK} {a b : Expr} {ta tb : TE} {pos : Pos} (M : OwnM X.prog X.w X.K X.mg X.base CX k C "__add__" sp) (T : AddF X.K C) (hr : Room k X.A) (hx : ∀ σ, PassesAt CX X σ (E σ)) (ha : PE X a ta) (hb : PE X b tb) :
    PE X (.BinOp a .Add b pos) (tOwnAdd X.K C sp E ta tb) := by
  refine ⟨fun pins s σ H Q I h => ?_⟩
  refine wpAny_BinOp (binT ha hb I h fun v u s2 x y H2 I2 rx ry q => ?_)
  obtain ⟨a, dx, fs, rfl, ea, ri, q⟩ := q
  obtain ⟨f, fd, ps, hs, hf, F, hb⟩ := M.ex
  cases (show v = Value.ref a from rx)
  obtain ⟨mA, J, _⟩ := ins_get I2.hok ea
  obtain ⟨od, J, _⟩ := J.look
  obtain ⟨m, hF⟩ := I2.fr
  have go : wpAny (model X.prog X.w) X.A (call (.ref f) [.ref a, u]) (PySem.W.CmpBack (EP X pins σ Q)) X.xe s2 := by
    refine wpAny_mono (run_fnS F hr hb (hx σ) I2 (show Vals [V.ref a, y] [Value.ref a, u] from .cons rfl (.cons ry .nil)) q) (fun v s' z => ?_) fun _ _ e => e
    obtain ⟨x, H', I', rv, b, rfl, q'⟩ := z
    cases (show v = Value.ref b from rv)
    exact ⟨.ref b, H', I', rfl, q'⟩
  cases ri with
  | @ins b dy gs eb =>
    cases (show u = Value.ref b from ry)
    obtain ⟨mB, J', _⟩ := ins_get I2.hok eb
    obtain ⟨od', J', _⟩ := J'.look
    exact PySem.W.binop_K (op := .Add) hF I2.ok.mod.kin J J'.type T.first hs hf go
  | @ty _ T' fo ro ty h1 h2 hsb =>
    obtain ⟨P', Z, p, _⟩ := kit_of I2 ry ty
    exact PySem.W.fk_binT (op := .Add) hF I2.ok.mod.kin J (Z.ty _ _ I2.kIn p) T.first hs hf T.noR (.inl rfl) h1 h2 hsb go
end Fk

set_option maxHeartbeats 4000000
/-! len, in, [] of an own class; methods that may raise, in a try and out of it; classes made. -/
namespace Fk
open PySem PySem.Spec PyProof.Rows L2
section
variable {X : Cx} {CX : CXT} {k : Nat} {C : Addr} {sp : Sp}
/-- len(x) -/
theorem call_ownLen (M : OwnM X.prog X.w X.K X.mg X.base CX k C "__len__" sp) (hr : Room (k + 1) X.A) (hx : NoEx CX) :
    CallR X (.builtin "len") (fun xs H Q => ∃ (a dx : Addr) (fs : List (Str × V)), xs = [.ref a] ∧ H a = some (.ins C dx fs) ∧ sp xs H (fun v H' => ∃ n : Nat, v = .int n ∧ n ≤ 1000000 ∧ Q v H') C8.E0) := by
  intro pins s σ H xs us Q I r h
  obtain ⟨a, dx, fs, rfl, ha, q⟩ := h
  obtain ⟨u, rfl, ru⟩ := vals1 r
  cases (show u = Value.ref a from ru)
  obtain ⟨f, fd, ps, hs, hf, F, hb⟩ := M.ex
  obtain ⟨mA, J, _⟩ := ins_get I.hok ha
  obtain ⟨od, J, _⟩ := J.look
  obtain ⟨m, hF⟩ := I.fr
  refine PySem.W.len_K hF I.ok.mod.kin J hs hf (wpAny_mono (run_in F hr.in1 I.env0.in1 hb hx I (show Vals [V.ref a] [Value.ref a] from .cons rfl .nil) q) (fun v s' z => ?_) fun _ _ x => x)
  obtain ⟨x, H', I', rv, n, rfl, hn, q'⟩ := z
  obtain ⟨t, rfl⟩ := (show ∃ t, v = Value.int n t from rv)
  exact ⟨⟨by omega, by omega⟩, .int n, H', I'.tok _, ⟨_, rfl⟩, q'⟩
/-- y in x, y not in x -/
def rOwnIn (C : Addr) (sp : Sp) : R2 := fun y x H Q => ∃ (a dx : Addr) (fs : List (Str × V)), x = .ref a ∧ H a = some (.ins C dx fs) ∧ sp [x, y] H (fun v H' => ∃ b, v = .bl b ∧ Q (.bl b) H') C8.E0
def rOwnNotIn (C : Addr) (sp : Sp) : R2 := fun y x H Q => ∃ (a dx : Addr) (fs : List (Str × V)), x = .ref a ∧ H a = some (.ins C dx fs) ∧ sp [x, y] H (fun v H' => ∃ b, v = .bl b ∧ Q (.bl (!b)) H') C8.E0
theorem op_ownIn (M : OwnM X.prog X.w X.K X.mg X.base CX k C "__contains__" sp) (hr : Room k X.A) (hx : NoEx CX) : OpR X (compareOp .In) (rOwnIn C sp) := by
  intro pins s σ H y x u v Q I ry rx h
  obtain ⟨a, dx, fs, rfl, ha, q⟩ := h
  cases (show v = Value.ref a from rx)
  obtain ⟨f, fd, ps, hs, hf, F, hb⟩ := M.ex
  obtain ⟨mA, J, _⟩ := ins_get I.hok ha
  obtain ⟨od, J, _⟩ := J.look
  obtain ⟨m, hF⟩ := I.fr
  refine PySem.W.in_K hF I.ok.mod.kin J hs hf (wpAny_mono (run_in F hr I.env0 hb hx I (show Vals [V.ref a, y] [Value.ref a, u] from .cons rfl (.cons ry .nil)) q) (fun v s' z => ?_) fun _ _ x => x)
  obtain ⟨x, H', I', rv, b, rfl, q'⟩ := z
  cases (show v = Value.bool b from rv)
  exact wpAny_truthy_bool ⟨.bl b, H', I', rfl, q'⟩
theorem op_ownNotIn (M : OwnM X.prog X.w X.K X.mg X.base CX k C "__contains__" sp) (hr : Room k X.A) (hx : NoEx CX) : OpR X (compareOp .NotIn) (rOwnNotIn C sp) := by
  intro pins s σ H y x u v Q I ry rx h
  obtain ⟨a, dx, fs, rfl, ha, q⟩ := h
  cases (show v = Value.ref a from rx)
  obtain ⟨f, fd, ps, hs, hf, F, hb⟩ := M.ex
  obtain ⟨mA, J, _⟩ := ins_get I.hok ha
  obtain ⟨od, J, _⟩ := J.look
  obtain ⟨m, hF⟩ := I.fr
  refine PySem.W.notIn_K hF I.ok.mod.kin J hs hf (wpAny_mono (run_in F hr I.env0 hb hx I (show Vals [V.ref a, y] [Value.ref a, u] from .cons rfl (.cons ry .nil)) q) (fun v s' z => ?_) fun _ _ x => x)
  obtain ⟨x, H', I', rv, b, rfl, q'⟩ := z
  cases (show v = Value.bool b from rv)
  exact wpAny_truthy_bool ⟨.bl (!b), H', I', rfl, q'⟩
end
/-- a method of an own class with its defaults -/
structure MetX (P : Program) (w : World) (K : PySem.W.Frag) (mg : Str → Option Value) (base : Heap) (CX : CXT) (k : Nat) (C : Addr) (m : Str) (sp : Sp) (dvs : List V) : Prop where
  ex : ∃ (f : Addr) (fd : FuncData) (ps : List Str) (ds : List Value), Cls K C ∧ Meth K C m f ∧ FnOk P w K mg base CX k f fd ps sp ∧ Binds K fd ps ds ∧ Vals dvs ds
/-- a class that may be made -/
structure MakX (P : Program) (w : World) (K : PySem.W.Frag) (mg : Str → Option Value) (base : Heap) (CX : CXT) (k : Nat) (x : Str) (C : Addr) (sp : Sp) (dvs : List V) : Prop where
  ex : ∃ (f : Addr) (fd : FuncData) (ps : List Str) (ds : List Value), Mk K C f ∧ FnOk P w K mg base CX k f fd ps sp ∧ mg x = some (.ref C) ∧ Binds K fd ps ds ∧ Vals dvs ds
/-- a def that may raise -/
structure CalX (P : Program) (w : World) (K : PySem.W.Frag) (mg : Str → Option Value) (base : Heap) (CX : CXT) (k : Nat) (x : Str) (sp : Sp) (dvs : List V) : Prop where
  ex : ∃ (f : Addr) (fd : FuncData) (ps : List Str) (ds : List Value), FnOk P w K mg base CX k f fd ps sp ∧ mg x = some (.ref f) ∧ PySem.W.keepIn K (.ref f) = true ∧ Binds K fd ps ds ∧ Vals dvs ds
section
variable {X : Cx} {CX : CXT} {k j : Nat} {C : Addr} {sp : Sp} {dvs : List V} {m x : Str} {E : L2.St → XK} {o e : Expr} {es : List Expr} {ta : TE} {t : TA} {p pos apos : Pos}
theorem run_at {pins : List (Addr × Obj)} {σ : L2.St} {H : Hp} {s : Shared} {Q : VK} {f : Addr} {fd : FuncData} {ps : List Str} {us ds : List Value} {vs : List V} (F : FnOk X.prog X.w X.K X.mg X.base CX k f fd ps sp) (hr : Room k X.A) (hb : Binds X.K fd ps ds) (hd : Vals dvs ds) (hx : PassesAt CX X σ (E σ))
    (I : Inv X pins σ H s) (r : Vals vs us) (h : sp (vs ++ dvs) H Q (E σ)) : wpAny (model X.prog X.w) X.A (call (.ref f) us) (EP X pins σ Q) X.xe s := by
  have r2 : Vals (vs ++ dvs) (us ++ ds) := r.append hd
  have hl : (us ++ ds).length = ps.length := by
    rw [← r2.length]
    exact F.len _ _ _ _ h
  refine wpAny_call (codeAny_mono (F.run X.A X.stack s H ⟨us, []⟩ (us ++ ds) (vs ++ dvs) Q (E σ) hr I.env0 (hb s us I.kIn hl) r2 h) fun r s' hq => ?_)
  cases r with
  | error e => exact hx pins H s e s' I hq
  | ok fl =>
    cases fl with
    | ret u => exact I.after hq
    | next => exact hq.elim
    | brk => exact hq.elim
    | cont => exact hq.elim
/-- o.m(e, ..) -/
def tMx (C : Addr) (m : Str) (sp : Sp) (dvs : List V) (E : L2.St → XK) (ta : TE) (t : TA) : TE := fun σ H Q => ta σ H fun x H1 => ∃ (a dx : Addr) (fs : List (Str × V)), x = .ref a ∧ H1 a = some (.ins C dx fs) ∧ fs.lookup m = none ∧ t σ H1 fun vs H2 => sp (.ref a :: (vs ++ dvs)) H2 Q (E σ)
theorem pe_mx {pl : Sem Bool} (c : MetX X.prog X.w X.K X.mg X.base CX k C m sp dvs) (hr : Room j X.A) (hk : k ≤ j) (hx : ∀ σ, PassesAt CX X σ (E σ)) (he : PE X o ta) (ha : PA X (e :: es) t)
    (hst : starEach (e :: es) X.env = (false, eval e X.env) :: starEach es X.env := by rfl) (hpl : (backTo pos (starEach es X.env)).any (·.1) = false := by rfl)
    (ht : eval (.Call (.Attribute o m apos) (e :: es) [] pos) X.env = (do
      let ov ← eval o X.env
      standAt apos.atName
      let (f, first) ← holding [ov] (getMethod ov m pl)
      callWith pos f first (backTo pos (starEach (e :: es) X.env)) (backToKw pos (keywordEach [] X.env))) := by rfl) :
    PE X (.Call (.Attribute o m apos) (e :: es) [] pos) (tMx C m sp dvs E ta t) := by
  obtain ⟨f, fd, ps, ds, cl, hm, F, b, d⟩ := c.ex
  refine ⟨fun pins s σ H Q I h => ?_⟩
  refine PySem.W.methodCall_KW (pl := pl) (thn (he.run pins s σ H _ I h) fun u s1 ⟨x, H1, I1, rx, a, dx, fs, ex, ea, l, q⟩ => ?_) ht
  subst ex
  obtain rfl : u = Value.ref a := rx
  refine getmeth_ok I1 ea cl hm l ?_
  refine PySem.W.callWith_K (first := [.ref a]) (h₀ := X.base) I.ok.mod.kin hm.kp (thn (ha.run pos pins s1 σ H1 _ I1 q) fun us s2 ⟨vs, H2, I2, r, q2⟩ => ⟨I2.kIn, ?_⟩) hst hpl
  exact run_at (us := .ref a :: us) (vs := .ref a :: vs) F (hr.mono hk) b d (hx σ) I2 (.cons rfl r) q2
theorem pe_mx0 {pl : Sem Bool} (c : MetX X.prog X.w X.K X.mg X.base CX k C m sp dvs) (hr : Room j X.A) (hk : k ≤ j) (hx : ∀ σ, PassesAt CX X σ (E σ)) (he : PE X o ta)
    (ht : eval (.Call (.Attribute o m apos) [] [] pos) X.env = (do
      let ov ← eval o X.env
      standAt apos.atName
      let (f, first) ← holding [ov] (getMethod ov m pl)
      callWith pos f first (backTo pos (starEach [] X.env)) (backToKw pos (keywordEach [] X.env))) := by rfl) :
    PE X (.Call (.Attribute o m apos) [] [] pos) (tMx C m sp dvs E ta tNil) := by
  obtain ⟨f, fd, ps, ds, cl, hm, F, b, d⟩ := c.ex
  refine ⟨fun pins s σ H Q I h => ?_⟩
  refine PySem.W.methodCall_KW (pl := pl) (thn (he.run pins s σ H _ I h) fun u s1 ⟨x, H1, I1, rx, a, dx, fs, ex, ea, l, q⟩ => ?_) ht
  subst ex
  obtain rfl : u = Value.ref a := rx
  refine getmeth_ok I1 ea cl hm l ?_
  exact PySem.W.callWith_K0 (first := [.ref a]) I1.kIn hm.kp (run_at (us := [.ref a]) (vs := [.ref a]) F (hr.mono hk) b d (hx σ) I1 (.cons rfl .nil) q)
/-- a def by its name -/
def tCx (sp : Sp) (dvs : List V) (E : L2.St → XK) (t : TA) : TE := fun σ H Q => t σ H fun vs H1 => sp (vs ++ dvs) H1 Q (E σ)
theorem pe_cx (c : CalX X.prog X.w X.K X.mg X.base CX k x sp dvs) (hr : Room j X.A) (hk : k ≤ j) (hx : ∀ σ, PassesAt CX X σ (E σ)) (hg : Gl X x) (ha : PA X (e :: es) t)
    (hdb : (x == ("__debug__" : Str)) = false := by decide) (he : starEach (e :: es) X.env = (false, eval e X.env) :: starEach es X.env := by rfl) (hpl : (backTo pos (starEach es X.env)).any (·.1) = false := by rfl) :
    PE X (.Call (.Name x p) (e :: es) [] pos) (tCx sp dvs E t) := by
  obtain ⟨f, fd, ps, ds, F, hm, kp, b, d⟩ := c.ex
  refine ⟨fun pins s σ H Q I h => ?_⟩
  refine wpAny_Call_Name_kw (ld_glob I hg hm ?_ hdb)
  refine PySem.W.callWith_K (h₀ := X.base) I.ok.mod.kin kp (thn (ha.run pos pins s σ H _ I h) fun us s1 ⟨vs, H1, I1, r, q⟩ => ⟨I1.kIn, ?_⟩) he hpl
  exact run_at F (hr.mono hk) b d (hx σ) I1 r q
end
end Fk

set_option maxHeartbeats 4000000
/-! x != y of objects of one class without an own ==: whether they are two. -/
namespace Fk
open PySem PySem.Spec PyProof.Rows L2
structure PlainEq (K : PySem.W.Frag) (C : Addr) : Prop where
  ne : PySem.W.findIn K (.ref C) "__ne__" = some (some (.builtin "object.__ne__"))
  eq : PySem.W.findIn K (.ref C) "__eq__" = some (some (.builtin "object.__eq__"))
  ob : PySem.W.mroIn K C (.type "object") = some true
def rIdNe (C : Addr) : R2 := fun x y H Q => ∃ (a b dx dy : Addr) (fs gs : List (Str × V)), x = .ref a ∧ y = .ref b ∧ H a = some (.ins C dx fs) ∧ H b = some (.ins C dy gs) ∧ Q (.bl (!decide (a = b))) H
section
variable {X : Cx} {C : Addr}
theorem idEq {pins : List (Addr × Obj)} {σ : L2.St} {H : Hp} {s : Shared} {A : Around} {E : Value → Shared → Prop} {a b dx dy : Addr} {fs gs : List (Str × V)} {Q : Option Value → Shared → Prop} (T : PlainEq X.K C) (I : Inv X pins σ H s) (ha : H a = some (.ins C dx fs)) (hb : H b = some (.ins C dy gs))
    (h : Q (some (if a = b then .bool true else .notImplemented)) s) : wpAny (model X.prog X.w) A (callSpecialIfBound? (.ref a) "__eq__" [.ref b]) Q E s := by
  obtain ⟨mA, J, _⟩ := ins_get I.hok ha
  obtain ⟨od, J, _⟩ := J.look
  obtain ⟨mB, J', _⟩ := ins_get I.hok hb
  obtain ⟨od', J', _⟩ := J'.look
  have sp : PySem.W.Looks (model X.prog X.w) s.heap (specialOf (.ref a) "__eq__") (some (.builtin "object.__eq__")) := J.type.andThen (PySem.W.looks_findIn I.kIn T.eq)
  have iv : PySem.W.Looks (model X.prog X.w) s.heap (isInstance (.ref a) (.type "object")) true := J.type.andThen (PySem.W.looks_mroIn I.kIn T.ob)
  refine NtL.csib (E := E) sp (PySem.F.cmp_object.eq.bind _) ?_
  refine wpAny_call (codeAny_call_builtin PySem.F.cmp_object.eq.plain PySem.F.cmpEntry_eq (PySem.W.check_slot PySem.F.cmpKind_eq PySem.F.cmpSplit_eq iv (PySem.F.cmpArgs_eq _ _) ?_))
  by_cases e : a = b
  · subst e
    rw [if_pos rfl] at h
    exact objEq_entry_same h
  · rw [if_neg e] at h
    exact objEq_entry_other e J.at_ J'.at_ (by rw [J.cls]; intro z; cases z) h
theorem idNe {pins : List (Addr × Obj)} {σ : L2.St} {H : Hp} {s : Shared} {A : Around} {E : Value → Shared → Prop} {a b dx dy : Addr} {fs gs : List (Str × V)} {Q : Option Value → Shared → Prop} (T : PlainEq X.K C) (hu : A.units + 1 < cLine) (I : Inv X pins σ H s) (ha : H a = some (.ins C dx fs)) (hb : H b = some (.ins C dy gs))
    (h : Q (if a = b then some (.bool false) else none) s) : wpAny (model X.prog X.w) A (tryCompare (.ref a) "__ne__" (.ref b)) Q E s := by
  obtain ⟨mA, J, _⟩ := ins_get I.hok ha
  obtain ⟨od, J, _⟩ := J.look
  have sp : PySem.W.Looks (model X.prog X.w) s.heap (specialOf (.ref a) "__ne__") (some (.builtin "object.__ne__")) := J.type.andThen (PySem.W.looks_findIn I.kIn T.ne)
  have iv : PySem.W.Looks (model X.prog X.w) s.heap (isInstance (.ref a) (.type "object")) true := J.type.andThen (PySem.W.looks_mroIn I.kIn T.ob)
  have hu' : A.in1.units < cLine := hu
  unfold tryCompare
  refine wpAny_bind (NtL.csib (E := E) sp (PySem.F.cmp_object.ne.bind _) ?_)
  refine wpAny_call (codeAny_call_builtin PySem.F.cmp_object.ne.plain PySem.F.cmpEntry_ne (PySem.W.check_slot PySem.F.cmpKind_ne PySem.F.cmpSplit_ne iv (PySem.F.cmpArgs_ne _ _) ?_))
  unfold Builtin.«object.__ne__»
  repeat (first
    | with_reducible refine wpAny_cRoomFor hu' ?_
    | (refine wpAny_bind (m := callSpecialIfBound? (.ref a) (Str.ofString "__eq__") [.ref b]) (idEq T I ha hb ?_))
    | wp_step)
  by_cases e : a = b
  · rw [if_pos e] at h ⊢
    show wpAny _ _ (truthy (.bool true) >>= _) _ _ _
    refine wpAny_bind (wpAny_truthy_bool ?_)
    exact wpAny_pure (wpAny_pure h)
  · rw [if_neg e] at h ⊢
    exact wpAny_pure (wpAny_pure h)
theorem op_idNe (T : PlainEq X.K C) (hu : X.A.units + 1 < cLine) : OpR X (compareOp .NotEq) (rIdNe C) := by
  intro pins s σ H x y v u Q I rx ry h
  obtain ⟨a, b, dx, dy, fs, gs, rfl, rfl, ha, hb, q⟩ := h
  cases (show v = Value.ref a from rx)
  cases (show u = Value.ref b from ry)
  obtain ⟨mA, J, _⟩ := ins_get I.hok ha
  obtain ⟨od, J, _⟩ := J.look
  obtain ⟨mB, J', _⟩ := ins_get I.hok hb
  obtain ⟨od', J', _⟩ := J'.look
  show wpAny (model X.prog X.w) X.A (richCompare .NotEq (.ref a) (.ref b)) (EP X pins σ Q) X.xe s
  unfold richCompare
  simp only [oneThing_ref]
  refine wpAny_holding (wpAny_bind (wpAny_cRoomFor (by omega) ?_))
  refine wpAny_bind (J.type.here (wpAny_bind (J'.type.here ?_)))
  simp only [bne_self_eq_false, Bool.false_eq_true, if_false]
  refine wpAny_bind (wpAny_pure ?_)
  simp only [Bool.false_eq_true, if_false]
  refine wpAny_bind (idNe (E := X.xe) T hu I ha hb ?_)
  by_cases e : a = b
  · rw [if_pos e]
    exact wpAny_pure ⟨.bl false, H, I, rfl, by simpa [e] using q⟩
  · rw [if_neg e]
    simp only [Bool.not_false, if_true]
    refine wpAny_bind (idNe (E := X.xe) T hu I hb ha ?_)
    rw [if_neg (fun z => e z.symm)]
    refine wpAny_bind (m := isSame (.ref a) (.ref b)) (wpAny_isSame_ref_other e J.at_ J'.at_ (by rw [J.cls]; intro z; cases z) ?_)
    exact wpAny_pure ⟨.bl true, H, I, rfl, by simpa [e] using q⟩
end
end Fk

set_option maxHeartbeats 4000000
/-! dict(d); a displayed dict of ** alone. -/
namespace Fk
open PySem PySem.Spec PyProof.Rows L2
theorem call_dictC {X : Cx} : CallR X (.type "dict") (fun xs H Q => ∃ a kvs, xs = [.ref a] ∧ Rd H a (.dK kvs) ∧ ∀ p, H p = none → Q (.ref p) (upd H p (.dK kvs))) := by
  intro pins s σ H xs us Q I r h
  obtain ⟨a, kvs, rfl, e, q⟩ := h
  obtain ⟨u, rfl, ru⟩ := vals1 r
  cases (show u = Value.ref a from ru)
  exact d_copyOf I e fun p s' hp I' => ⟨.ref p, _, I', rfl, q p hp⟩
section
variable {prog : Program} {w : World} {K : Type} [DecidableEq K] {knd : KeyKind prog w K} {A : Around} {E : Value → Shared → Prop} {s : Shared}
theorem wpAny_dictPut {d : Addr} {kvs : List (K × Value)} {k : K} {key v : Value} {Q : Unit → Shared → Prop} (hkey : knd.is k key = true) (hm : s.heap.DictOf knd d kvs)
    (hQ : ∀ h', h'.DictOf knd d (stored kvs k v) → Heap.SameBut d s.heap h' → Q () { s with heap := h' }) (hsz : kvs.length ≤ sizeLine) :
    wpAny (model prog w) A (dictPut d (knd.hash k) key v) Q E s := by
  obtain ⟨o, es, ep, ho, hc, hd, hk, hp, hn⟩ := hm
  have hes : es.size ≤ sizeLine := by
    have e1 := hp.length
    have e2 : es.toList.length = es.size := by simp
    omega
  unfold dictPut
  try with_reducible refine wpAny_holding ?_
  refine wpAny_bind (wpAny_dictFind_of hkey ho hd hk ?_)
  have hidx : (es.findIdx? fun e => knd.is k e.key) = kvs.findIdx? fun kv => decide (kv.1 = k) := by
    rw [← hp.findIdx k]; obtain ⟨l⟩ := es; simp
  cases hi : es.findIdx? fun e => knd.is k e.key with
  | some i =>
    refine (wpAny_updateDict ho hd (hQ _ ⟨_, _, ep, Heap.get?_update_self _ ho (Obj.isFreed_of_dict (Obj.data_mapDict hd _)),
      hc.mapDict _, Obj.data_mapDict hd _, hk.modify _ _, ?_, ?_⟩ (Heap.SameBut.update ..)))
    · rw [stored, if_pos (any_of_findIdx_some (hidx ▸ hi))]
      have hl : (es.toList.findIdx? fun e => knd.is k e.key) = some i := by rw [← hi]; obtain ⟨l⟩ := es; simp
      have := hp.modify hn hl v
      obtain ⟨l⟩ := es
      simpa using this
    · rw [stored, if_pos (any_of_findIdx_some (hidx ▸ hi)), keys_map_store]; exact hn
  | none =>
    have hnot : k ∉ kvs.map (·.1) := not_mem_of_findIdx_none (hidx ▸ hi)
    have hany : ¬ (kvs.any fun kv => decide (kv.1 = k)) = true := by
      rw [List.any_eq_true]; rintro ⟨kv, hkv, he⟩
      exact hnot (List.mem_map.mpr ⟨kv, hkv, of_decide_eq_true he⟩)
    refine (wpAny_updateDictKeys (hz := hes) ho hd (hQ _ ⟨_, _, ep + 1, Heap.get?_update_self _ ho (Obj.isFreed_of_dict (Obj.data_mapDictKeys hd _)),
      hc.mapDictKeys _, Obj.data_mapDictKeys hd _, hk.push hkey _, ?_, ?_⟩ (Heap.SameBut.update ..)))
    · rw [stored, if_neg hany]
      have := hp.append hkey (knd.hash k) v
      obtain ⟨l⟩ := es
      simpa using this
    · rw [stored, if_neg hany, List.map_append, List.nodup_append]
      refine ⟨hn, by simp, ?_⟩
      intro a ha b hb
      simp only [List.map_cons, List.map_nil, List.mem_singleton] at hb
      subst hb
      exact fun e => hnot (e ▸ ha)
theorem dict_iter : typeLookup (.type "dict") "__iter__" = pure (some (.builtin "dict.__iter__")) := by rw [typeLookup_type, builtinLookup_eq_fast]; kernel_rfl
theorem wpAny_mergeMapping {d o : Addr} {kvs more : List (K × Value)} {Q : Unit → Shared → Prop} (hkr : ∀ (k : K) (a : Addr), knd.is k (.ref a) = false) (hdo : d ≠ o) (hoS : (o == sysModules) = false)
    (hd : s.heap.DictOf knd d kvs) (ho : s.heap.DictOf knd o more)
    (hQ : ∀ h', h'.DictOf knd d (merged kvs more) → h'.DictOf knd o more → Heap.SameBut d s.heap h' → Q () { s with heap := h' })
    (hsz : kvs.length + more.length ≤ sizeLine) :
    wpAny (model prog w) A (mergeMapping d (.ref o) false) Q E s := by
  obtain ⟨od, esd, epd, hod, hcd, hdd, hkd, hpd, hnd⟩ := id hd
  obtain ⟨oo, eso, epo, hoo, hco, hdo', hko, hpo, hno⟩ := id ho
  have hlen : more.length = eso.size := by rw [← hpo.length]; simp
  have loop : wpAny (model prog w) A (do
      let epoch ← dictEpoch o
      forIn (List.range eso.size) PUnit.unit fun i (_ : PUnit) => (do
          let l' ← dictEntries o
          match l'[i]? with
            | some e => do
              holding [e.key, e.val] (dictPut d e.hash e.key e.val)
              let ep' ← dictEpoch o
              if (ep' != epoch) = true then do
                  (unsupported "dict.changed-during-merge" : Sem PUnit)
                  pure (ForInStep.yield PUnit.unit)
                else pure (ForInStep.yield PUnit.unit)
            | _ => do
              (unsupported "dict.changed-during-merge" : Sem PUnit)
              pure (ForInStep.yield PUnit.unit) : Sem (ForInStep PUnit))
      pure ()) Q E s := by
    refine wpAny_bind (wpAny_dictEpoch hoo hdo' ?_)
    refine wpAny_bind ?_
    refine wpAny_forIn_list _
      (fun rest _ s' => ∃ h' i, s' = { s with heap := h' } ∧ rest = (List.range eso.size).drop i ∧ i ≤ eso.size ∧ h'.DictOf knd d (merged kvs (more.take i)) ∧ h'.get? o = some oo ∧ Heap.SameBut d s.heap h')
      _ ?_ ?_ _ _ ⟨s.heap, 0, rfl, rfl, Nat.zero_le _, by simpa [merged] using hd, hoo, Heap.SameBut.refl _ _⟩
    · rintro x rest b s' ⟨h', i, rfl, hr, hi, hd', hoo', hs'⟩
      have hlt : i < eso.size := by
        rcases Nat.lt_or_ge i eso.size with h | h
        · exact h
        · rw [List.drop_of_length_le (by rw [List.length_range]; exact h)] at hr; cases hr
      have hlt' : i < (List.range eso.size).length := by rw [List.length_range]; exact hlt
      rw [List.drop_eq_getElem_cons hlt', List.getElem_range] at hr
      injection hr with h1 hrest
      subst h1
      refine wpAny_bind (wpAny_dictEntries hoo' hdo' ?_)
      rw [Array.getElem?_eq_getElem hlt]
      obtain ⟨kv, hkv⟩ : ∃ kv, more[x]? = some kv := ⟨more[x]'(by rw [hlen]; exact hlt), List.getElem?_eq_getElem _⟩
      obtain ⟨k, v⟩ := kv
      obtain ⟨hkey, hval⟩ := hpo.get? (e := eso[x]) (by simp [hlt]) hkv
      obtain ⟨k', hkey', hhash⟩ := hko eso[x] (Array.getElem_mem hlt)
      obtain rfl : k' = k := knd.inj _ _ _ hkey' hkey
      show wpAny _ _ (holding [eso[x].key, eso[x].val] (dictPut d eso[x].hash eso[x].key eso[x].val) >>= _) _ _ _
      rw [hhash, hval]
      have hmx : (merged kvs (more.take x)).length ≤ sizeLine := by
        have e1 := merged_length_le kvs (more.take x)
        have e2 : (more.take x).length ≤ more.length := by rw [List.length_take]; omega
        omega
      refine wpAny_bind (wpAny_holding (wpAny_dictPut (hsz := hmx) hkey hd' fun h'' hd'' hs'' => ?_))
      have hoo'' : h''.get? o = some oo := (hs''.2 o (Ne.symm hdo)).trans hoo'
      refine wpAny_bind (wpAny_dictEpoch hoo'' hdo' ?_)
      rw [if_neg (by simp)]
      exact wpAny_pure ⟨h'', x + 1, rfl, hrest, hlt, by rw [merged_take_succ kvs more x (k', v) hkv]; exact hd'', hoo'', hs'.trans hs''⟩
    · rintro b s' ⟨h', i, rfl, hr, hi, hd', hoo', hs'⟩
      have hin : i = eso.size := by
        rcases Nat.lt_or_ge i eso.size with h | h
        · have hlt' : i < (List.range eso.size).length := by rw [List.length_range]; exact h
          rw [List.drop_eq_getElem_cons hlt'] at hr; exact nomatch hr
        · exact Nat.le_antisymm hi h
      refine wpAny_pure (hQ h' ?_ ⟨oo, eso, epo, hoo', hco, hdo', hko, hpo, hno⟩ hs')
      rw [hin, ← hlen, List.take_length] at hd'; exact hd'
  have loop2 : wpAny (model prog w) A (dictEntries o >>= fun l => (do
      let epoch ← dictEpoch o
      forIn (List.range l.size) PUnit.unit fun i (_ : PUnit) => (do
          let l' ← dictEntries o
          match l'[i]? with
            | some e => do
              holding [e.key, e.val] (dictPut d e.hash e.key e.val)
              let ep' ← dictEpoch o
              if (ep' != epoch) = true then do
                  (unsupported "dict.changed-during-merge" : Sem PUnit)
                  pure (ForInStep.yield PUnit.unit)
                else pure (ForInStep.yield PUnit.unit)
            | _ => do
              (unsupported "dict.changed-during-merge" : Sem PUnit)
              pure (ForInStep.yield PUnit.unit) : Sem (ForInStep PUnit))
      pure ())) Q E s := wpAny_bind (wpAny_dictEntries hoo hdo' loop)
  unfold mergeMapping
  refine wpAny_bind (m := isInstance (.ref o) (.type "dict")) (wpAny_isInstance ho.typeIs isSubtype_dict_dict ?_)
  simp only [if_true]
  refine wpAny_bind (m := specialOf (.ref o) "__iter__") (wpAny_specialOf ho.typeIs dict_iter ?_)
  rw [show ((some (Value.builtin "dict.__iter__") == some (Value.builtin "dict.__iter__")) = true) from beq_self_eq_true _]
  first | rw [if_neg (by rw [hoS]; exact Bool.false_ne_true)] | (refine wpAny_ite ?_; rw [if_neg (by rw [hoS]; exact Bool.false_ne_true)]) | (refine wpAny_pure ?_; rw [if_neg (by rw [hoS]; exact Bool.false_ne_true)])
  refine wpAny_bind (wpAny_dictEntries hod hdd ?_)
  split
  · refine wpAny_bind (wpAny_dictEntries hoo hdo' ?_)
    refine wpAny_bind ?_
    rw [← Array.forIn_toList]
    refine wpAny_forIn_list _ (fun rest _ s' => s' = s ∧ ∀ e ∈ rest, e ∈ eso.toList) _ ?_ ?_ _ _ ⟨rfl, fun e he => he⟩
    · rintro e rest b s' ⟨rfl, hr⟩
      obtain ⟨k, hk, _⟩ := hko e (Array.mem_toList_iff.mp (hr e List.mem_cons_self))
      have hrest : ∀ e' ∈ rest, e' ∈ eso.toList := fun e' he' => hr e' (List.mem_cons_of_mem _ he')
      cases hkey : e.key with
      | ref a =>
        rw [hkey, hkr] at hk
        cases hk
      | _ => exact wpAny_pure ⟨rfl, hrest⟩
    · rintro b s' ⟨rfl, _⟩
      exact loop2
  · exact loop2
end
end Fk

set_option maxHeartbeats 4000000
namespace Fk
open PySem PySem.Spec PyProof.Rows L2
section
variable {prog : Program} {w : World} {K : Type} [DecidableEq K] {knd : KeyKind prog w K} {A : Around} {E : Value → Shared → Prop} {s : Shared} {Q : Value → Shared → Prop}
theorem wp_stars {items : List (Option (Sem Value) × Sem Value)} (hkr : ∀ (k : K) (a : Addr), knd.is k (.ref a) = false) (hn : ∀ x ∈ items, x.1 = none) (hne : items ≠ []) (R : List (Option (Sem Value) × Sem Value) → Addr → Shared → Prop)
    (h0 : R items s.heap.objs.size { s with heap := s.heap.push { cls := .type "dict", data := .dict #[] } })
    (hs : ∀ x rest p s1, R (x :: rest) p s1 → wpAny (model prog w) A x.2 (fun m s2 => ∃ (a : Addr) (kvs more : List (K × Value)), m = .ref a ∧ p ≠ a ∧ (a == sysModules) = false ∧ s2.heap.DictOf knd p kvs ∧ s2.heap.DictOf knd a more ∧ kvs.length + more.length ≤ sizeLine ∧
      ∀ h', h'.DictOf knd p (merged kvs more) → h'.DictOf knd a more → Heap.SameBut p s2.heap h' → R rest p { s2 with heap := h' }) E s1)
    (hd : ∀ p s1, R [] p s1 → Q (.ref p) s1) : wpAny (model prog w) A (dictDisplay items) Q E s := by
  unfold dictDisplay
  dsimp only
  have turn : ∀ (x : Option (Sem Value) × Sem Value) (rest : List (Option (Sem Value) × Sem Value)) (p : Addr) (s1 : Shared) {Q' : ForInStep (Option Addr × List (Sem Value × Sem Value)) → Shared → Prop}, R (x :: rest) p s1 → (∀ s2, R rest p s2 → Q' (.yield (some p, [])) s2) →
      wpAny (model prog w) A (do
        let m ← holding [Value.ref p] x.2
        (((holding [Value.ref p, m] (mergeMapping p m false)).onRaise fun y => do
                    let _ ← holding [Value.ref p, m, y] (runValue (Code.builtin "proto.let_go" { }))
                    pure ()).tryCatch
                fun e => do
                let b ← isInstance e (Value.type "AttributeError")
                if b = true then do
                    rule "dict.display.not-a-mapping"
                    let n ← typeNameOf m
                    raiseErrorMade "TypeError"
                        (toString "'" ++ toString n ++ toString "' object is not a mapping")
                    throw e
                  else throw e).onRaise
            fun y => do
            let _ ← holding [Value.ref p, y] (runValue (Code.builtin "proto.let_go" { }))
            pure ()
        pure (ForInStep.yield (some p, ([] : List (Sem Value × Sem Value))))) Q' E s1 := by
    intro x rest p s1 Q' hr hq
    refine wpAny_bind (wpAny_holding (wpAny_mono (hs x rest p s1 hr) (fun m s2 q => ?_) fun _ _ e => e))
    obtain ⟨a, kvs, more, rfl, hpa, hoS, dp, da, hz, k⟩ := q
    refine wpAny_bind (wpAny_onRaise (wpAny_tryCatch (wpAny_onRaise (wpAny_holding (wpAny_mergeMapping hkr hpa hoS dp da (fun h' d1 d2 sb => ?_) hz)))))
    exact wpAny_pure (hq _ (k h' d1 d2 sb))
  refine wpAny_bind ?_
  refine wpAny_forIn_list _ (fun rest b s' => b.2 = [] ∧ (∀ x ∈ rest, x.1 = none) ∧ ((b.1 = none ∧ s' = s ∧ rest = items) ∨ ∃ p, b.1 = some p ∧ R rest p s')) _ ?_ ?_ _ _ ⟨rfl, hn, .inl ⟨rfl, rfl, rfl⟩⟩
  · rintro ⟨k, v⟩ rest ⟨main, run⟩ s' ⟨hb, hk, h⟩
    have hk0 : k = none := hk (k, v) List.mem_cons_self
    have hkr' : ∀ x ∈ rest, x.1 = none := fun x hx => hk x (List.mem_cons_of_mem _ hx)
    subst hk0
    dsimp only at hb h
    subst hb
    rcases h with ⟨rfl, rfl, rfl⟩ | ⟨p, rfl, hr⟩
    · refine wpAny_bind (wpAny_pure ?_)
      dsimp only
      refine wpAny_bind (wpAny_alloc ?_)
      exact turn (none, v) rest _ _ h0 fun s2 q => ⟨rfl, hkr', .inr ⟨_, rfl, q⟩⟩
    · refine wpAny_bind (wpAny_pure ?_)
      dsimp only
      refine wpAny_bind (wpAny_pure ?_)
      exact turn (none, v) rest p s' hr fun s2 q => ⟨rfl, hkr', .inr ⟨_, rfl, q⟩⟩
  · rintro ⟨main, run⟩ s' ⟨hb, _, h⟩
    dsimp only at hb h
    subst hb
    rcases h with ⟨_, _, e⟩ | ⟨p, rfl, hr⟩
    · exact (hne e.symm).elim
    · refine wpAny_bind (wpAny_pure ?_)
      exact wpAny_pure (hd p s' hr)
end
/-- the dict at p takes the dicts in turn -/
def goStars : List TE → Addr → TE
  | [], p => fun _ H Q => Q (.ref p) H
  | t :: ts, p => fun σ H Q => t σ H fun x H1 => ∃ (a : Addr) (kvs more : List (Key × V)), x = .ref a ∧ p ≠ a ∧ H1 p = some (.dK kvs) ∧ H1 a = some (.dK more) ∧ kvs.length + more.length ≤ sizeLine ∧ goStars ts p σ (upd H1 p (.dK (mergeK kvs more))) Q
def tStars (ts : List TE) : TE := fun σ H Q => ∀ p, H p = none → goStars ts p σ (upd H p (.dK [])) Q
theorem mix_noref {P : Program} {w : World} (k : Key) (a : Addr) : (mixKind P w).is k (.ref a) = false := by
  cases k <;> rfl
/-- {**e1, **e2, ..} -/
inductive StE (X : Cx) : List Expr → List TE → Prop where
  | nil : StE X [] []
  | cons {e : Expr} {es : List Expr} {t : TE} {ts : List TE} (h : PE X e t) (hs : StE X es ts) : StE X (e :: es) (t :: ts)
theorem pe_stars {X : Cx} {keys : List (Option Expr)} {values : List Expr} {pos : Pos} {ts : List TE} (h : StE X values ts) (hv : values ≠ []) (hk : keys = values.map fun _ => none) : PE X (.Dict keys values pos) (tStars ts) := by
  refine ⟨fun pins s σ H Q I q => ?_⟩
  have hn := I.hok.fresh (Nat.le_refl s.heap.objs.size)
  have I1 := I.laid (a := s.heap.objs.size) (o := .dK []) (h' := s.heap.push { cls := .type "dict", data := .dict #[] }) (t' := s.toks) (fun _ _ q => Heap.get?_push_of_some _ q) (Nat.le_refl _) (dk_empty s.heap I.big)
  rw [arm_eval_Dict]
  subst hk
  refine wpAny_bind (wpAny_standAt ?_)
  have hz : ∀ vs : List Expr, (evalEachOpt (vs.map fun _ => (none : Option Expr)) X.env).zip ((evalEach vs X.env).map fun v => do let x ← v; standAt pos; pure x) = vs.map fun e => ((none : Option (Sem Value)), (do let x ← eval e X.env; standAt pos; pure x : Sem Value)) := by
    intro vs
    induction vs with
    | nil => rfl
    | cons e r ih =>
      show ((none : Option (Sem Value)), (do let x ← eval e X.env; standAt pos; pure x : Sem Value)) :: _ = _
      rw [List.map_cons]
      congr 1
  rw [hz]
  refine wp_stars (knd := mixKind X.prog X.w) mix_noref (fun x hx => ?_) ?_ (fun rest p s' => ∃ es us H', rest = es.map (fun e => ((none : Option (Sem Value)), (do let x ← eval e X.env; standAt pos; pure x : Sem Value))) ∧ StE X es us ∧ Inv X pins σ H' s' ∧ goStars us p σ H' Q) ⟨values, ts, _, rfl, h, I1, q _ hn⟩ ?_ ?_
  · obtain ⟨e, _, rfl⟩ := List.mem_map.mp hx
    rfl
  · intro z
    exact hv (List.map_eq_nil_iff.mp z)
  · rintro x rest p s1 ⟨es, us, H', er, hs, I', g⟩
    cases hs with
    | nil => cases er
    | @cons e es t us he hs =>
      rw [List.map_cons] at er
      injection er with e1 e2
      subst e1
      subst e2
      refine wpAny_bind (wpAny_mono (he.run pins s1 σ H' _ I' g) (fun v s2 z => ?_) fun _ _ x => x)
      obtain ⟨y, H2, I2, ry, a, kvs, more, rfl, hpa, hp, ha, hz2, g2⟩ := z
      cases (show v = Value.ref a from ry)
      refine wpAny_bind (wpAny_standAt (wpAny_pure ?_))
      obtain ⟨z1, hd1, vs1, r1, d1⟩ := dk_of I2.hok hp
      obtain ⟨z2, hd2, vs2, r2, d2⟩ := dk_of I2.hok ha
      refine ⟨a, vs1, vs2, rfl, hpa, hd2, d1, d2, by rw [← r1.length, ← r2.length]; exact hz2, fun h' e1 e2 sb => ⟨es, us, _, rfl, hs, ?_, g2⟩⟩
      have he : ∃ q, h'.get? p = some q := let ⟨q, _, _, hq, _⟩ := e1; ⟨q, hq⟩
      refine d_write I2 (by rw [hp]; exact True.intro) sb he (dk_new ?_ hd1 (r2.merge r1) e1)
      have := length_mergeK more kvs
      omega
  · rintro p s1 ⟨es, us, H', er, hs, I', g⟩
    cases hs with
    | nil => exact ⟨.ref p, H', I', rfl, g⟩
    | cons => cases er
end Fk

set_option maxHeartbeats 4000000
/-! dicts of data: what they hold, == and != of them; repr. -/
namespace Fk
open PySem PySem.Spec PyProof.Rows L2
/-- a dict's entries are these data -/
def DD (K : PySem.W.Frag) (H : Hp) (kvs : List (Key × V)) (ds : List (Key × PyData)) : Prop := Paired (fun p q => p.1 = q.1 ∧ Dp K H p.2 q.2) kvs ds
def DatAt (K : PySem.W.Frag) (H : Hp) (a : Addr) (ds : List (Key × PyData)) : Prop := ∃ kvs, H a = some (.dK kvs) ∧ DD K H kvs ds
def valD (ds : List (Key × PyData)) (k : Key) : Option PyData := (ds.find? fun p => decide (p.1 = k)).map (·.2)
theorem valD_pos {p : Key × PyData} {r : List (Key × PyData)} {k : Key} (e : p.1 = k) : valD (p :: r) k = some p.2 := by simp [valD, List.find?_cons, e]
theorem valD_neg {p : Key × PyData} {r : List (Key × PyData)} {k : Key} (e : ¬ p.1 = k) : valD (p :: r) k = valD r k := by simp [valD, List.find?_cons, e]
def hitD (es : List (Key × PyData)) (p : Key × PyData) : Bool := match valD es p.1 with
  | none => false
  | some e => PyData.eqv p.2 e
def eqvDict (ds es : List (Key × PyData)) : Bool := decide (ds.length = es.length) && ds.all (hitD es)
def shapedAll (ds : List (Key × PyData)) : Prop := ∀ p ∈ ds, SeqAt.shaped p.2 = true
theorem DD.val {K : PySem.W.Frag} {H : Hp} {kvs : List (Key × V)} {ds : List (Key × PyData)} (h : DD K H kvs ds) (k : Key) : (valV kvs k = none ∧ valD ds k = none) ∨ ∃ v d, valV kvs k = some v ∧ valD ds k = some d ∧ Dp K H v d := by
  unfold DD at h
  induction h with
  | nil => exact .inl ⟨rfl, rfl⟩
  | @cons p q ps qs h t ih =>
    obtain ⟨h1, h2⟩ := h
    by_cases e : p.1 = k
    · exact .inr ⟨p.2, q.2, valV_pos e, valD_pos (h1 ▸ e), h2⟩
    · rw [valV_neg e, valD_neg (h1 ▸ e)]
      exact ih
theorem DD.len {K : PySem.W.Frag} {H : Hp} {kvs : List (Key × V)} {ds : List (Key × PyData)} (h : DD K H kvs ds) : kvs.length = ds.length := Paired.length h
mutual
theorem dp_same {K : PySem.W.Frag} {H H' : Hp} (f : Same H H') : ∀ {v : V} {d : PyData}, Dp K H v d → Dp K H' v d
  | _, _, .non => .non
  | _, _, .bl b => .bl b
  | _, _, .int i => .int i
  | _, _, .str x => .str x
  | _, _, .lst hs ha => .lst (by
      rcases hs with (h | ⟨o, h⟩) | h
      · exact .inl (.inl (f _ _ h))
      · exact .inl (.inr ⟨o, f _ _ h⟩)
      · exact .inr h) (dpAll_same f ha)
  | _, _, .tup hs ha => .tup (by
      rcases hs with (h | ⟨o, h⟩) | h
      · exact .inl (.inl (f _ _ h))
      · exact .inl (.inr ⟨o, f _ _ h⟩)
      · exact .inr h) (dpAll_same f ha)
theorem dpAll_same {K : PySem.W.Frag} {H H' : Hp} (f : Same H H') : ∀ {vs : List V} {ds : List PyData}, DpAll K H vs ds → DpAll K H' vs ds
  | _, _, .nil => .nil
  | _, _, .cons h t => .cons (dp_same f h) (dpAll_same f t)
end
theorem DD.same {K : PySem.W.Frag} {H H' : Hp} {kvs : List (Key × V)} {ds : List (Key × PyData)} (h : DD K H kvs ds) (f : Same H H') : DD K H' kvs ds := by
  unfold DD at h ⊢
  induction h with
  | nil => exact .nil
  | cons h t ih => exact .cons ⟨h.1, dp_same f h.2⟩ ih
theorem DatAt.same {K : PySem.W.Frag} {H H' : Hp} {a : Addr} {ds : List (Key × PyData)} (h : DatAt K H a ds) (f : Same H H') : DatAt K H' a ds := by
  obtain ⟨kvs, e, d⟩ := h
  exact ⟨kvs, f _ _ e, d.same f⟩
theorem room66 {k : Nat} {A : Around} (r : Room k A) : A.units + 66 < cLine := by
  have := r.un
  omega
section
variable {X : Cx}
theorem hits_data {pins : List (Addr × Obj)} {σ : L2.St} {H : Hp} {s : Shared} {A : Around} (I : Inv X pins σ H s) (hu : A.units + 64 < cLine) {ls : List (Key × V)} {es : List (Key × PyData)} {vb : List (Key × Value)} (rb : KV ls vb) (hb : DD X.K H ls es) (se : shapedAll es) {ks : List (Key × V)} {ds : List (Key × PyData)} {va : List (Key × Value)}
    (ra : KV ks va) (hd : DD X.K H ks ds) (sd : shapedAll ds) : PySem.W.KeqHits A s vb va (ds.all (hitD es)) := by
  unfold KV at ra
  unfold DD at hd
  induction ra generalizing ds with
  | nil =>
    cases hd
    exact .nil
  | @cons p q ps qs h t ih =>
    cases hd with
    | @cons _ d _ ds hd1 hds =>
      obtain ⟨h1, h2⟩ := h
      obtain ⟨e1, e2⟩ := hd1
      obtain ⟨key, v⟩ := q
      have h1' : p.1 = key := h1
      have tl := ih hds (fun x hx => sd x (List.mem_cons_of_mem _ hx))
      rw [List.all_cons]
      rcases hb.val key with ⟨n1, n2⟩ | ⟨y, e, v1, v2, dy⟩
      · have : hitD es d = false := by
          unfold hitD
          rw [← e1, h1', n2]
        rw [this, Bool.false_and]
        refine .miss ?_
        have rr : RelO none (valueAt vb key) := by rw [← n1]; exact rb.val key
        cases z : valueAt vb key with
        | none => rfl
        | some u =>
          rw [z] at rr
          cases rr
      · have : hitD es d = PyData.eqv d.2 e := by
          unfold hitD
          rw [← e1, h1', v2]
        rw [this]
        have rr : RelO (some y) (valueAt vb key) := by rw [← v1]; exact rb.val key
        obtain ⟨u, hy, ry⟩ := rr.some_of
        obtain ⟨as, r1⟩ := Dp.reads I d.2 p.2 v e2 h2
        obtain ⟨bs, r2⟩ := Dp.reads I e y u dy ry
        have s1 := sd d List.mem_cons_self
        have s2 : SeqAt.shaped e = true := by
          unfold valD at v2
          cases z : es.find? (fun p => decide (p.1 = key)) with
          | none => rw [z] at v2; cases v2
          | some w =>
            rw [z] at v2
            cases v2
            exact se _ (List.mem_of_find?_eq_some z)
        exact .hit hy (SeqAt.eqAt_reads d.2 e A s v u as bs r1 r2 (SeqAt.canLay_of_shaped s1) (SeqAt.canLay_of_shaped s2) (SeqAt.room_of_shaped s1 hu)) tl
/-- d == e of dicts of data -/
def rEqDD (K : PySem.W.Frag) : R2 := fun x y H Q => ∃ a b ds es, x = .ref a ∧ y = .ref b ∧ DatAt K H a ds ∧ DatAt K H b es ∧ shapedAll ds ∧ shapedAll es ∧ Q (.bl (eqvDict ds es)) H
def rNeDD (K : PySem.W.Frag) : R2 := fun x y H Q => ∃ a b ds es, x = .ref a ∧ y = .ref b ∧ DatAt K H a ds ∧ DatAt K H b es ∧ shapedAll ds ∧ shapedAll es ∧ Q (.bl (!eqvDict ds es)) H
theorem op_eqDD (hu : X.A.units + 66 < cLine) : OpR X (compareOp .Eq) (rEqDD X.K) := by
  intro pins s σ H x y v u Q I rx ry h
  obtain ⟨a, b, ds, es, rfl, rfl, ⟨ks, ea, da⟩, ⟨ls, eb, db⟩, sd, se, q⟩ := h
  obtain rfl : v = Value.ref a := rx
  obtain rfl : u = Value.ref b := ry
  obtain ⟨_, ya, va, ra, dda⟩ := (show ObjOk X.prog X.w H s.heap a (.dK ks) from I.hok a _ ea)
  obtain ⟨_, yb, vb, rb, ddb⟩ := (show ObjOk X.prog X.w H s.heap b (.dK ls) from I.hok b _ eb)
  have e : (va.length == vb.length && ds.all (hitD es)) = eqvDict ds es := by
    unfold eqvDict
    rw [← ra.length, ← rb.length, da.len, db.len]
    rfl
  refine PySem.W.keq_eq (knd := mixKind X.prog X.w) (r := ds.all (hitD es)) ya yb dda ddb (by omega) (fun _ => hits_data I ?_ rb db se ra da sd) ?_
  · show X.A.units + 1 + 64 < cLine
    omega
  · rw [e]
    exact ⟨.bl _, H, I, rfl, q⟩
theorem op_neDD (hu : X.A.units + 66 < cLine) : OpR X (compareOp .NotEq) (rNeDD X.K) := by
  intro pins s σ H x y v u Q I rx ry h
  obtain ⟨a, b, ds, es, rfl, rfl, ⟨ks, ea, da⟩, ⟨ls, eb, db⟩, sd, se, q⟩ := h
  obtain rfl : v = Value.ref a := rx
  obtain rfl : u = Value.ref b := ry
  obtain ⟨_, ya, va, ra, dda⟩ := (show ObjOk X.prog X.w H s.heap a (.dK ks) from I.hok a _ ea)
  obtain ⟨_, yb, vb, rb, ddb⟩ := (show ObjOk X.prog X.w H s.heap b (.dK ls) from I.hok b _ eb)
  have e : (va.length == vb.length && ds.all (hitD es)) = eqvDict ds es := by
    unfold eqvDict
    rw [← ra.length, ← rb.length, da.len, db.len]
    rfl
  refine PySem.W.keq_ne (knd := mixKind X.prog X.w) (r := ds.all (hitD es)) ya yb dda ddb (by omega) (fun _ => hits_data I ?_ rb db se ra da sd) ?_
  · show X.A.units + 1 + 64 < cLine
    omega
  · rw [e]
    exact ⟨.bl _, H, I, rfl, q⟩
end
end Fk

set_option maxHeartbeats 4000000
/-! Walks and comprehensions by an invariant, over lists, tuples, dicts; a raise within a locked walk; frames. -/
namespace Fk
open PySem PySem.Spec PyProof.Rows L2
/-! ### frames -/
/-- all that was tracked is as it was, but what stands at L -/
def FrL (L : List Addr) (H H' : Hp) : Prop := ∀ b o, b ∉ L → H b = some o → H' b = some o
theorem FrL.refl (L : List Addr) (H : Hp) : FrL L H H := fun _ _ _ h => h
theorem FrL.trans {L : List Addr} {H H1 H2 : Hp} (x : FrL L H H1) (y : FrL L H1 H2) : FrL L H H2 := fun b o n h => y b o n (x b o n h)
theorem FrL.mono {L M : List Addr} {H H' : Hp} (x : FrL L H H') (h : ∀ a ∈ L, a ∈ M) : FrL M H H' := fun b o n e => x b o (fun z => n (h b z)) e
theorem FrL.at {L : List Addr} {a : Addr} {H : Hp} {o : HO} (h : a ∈ L) : FrL L H (upd H a o) := fun b u n e => by
  have z : b ≠ a := fun z => n (by rw [z]; exact h)
  rw [upd_ne z]
  exact e
theorem FrL.same {L : List Addr} {H H' : Hp} (h : Same H H') : FrL L H H' := fun b o _ e => h b o e
theorem FrL.to {H H' : Hp} (h : FrL [] H H') : Same H H' := fun b o e => h b o (fun z => nomatch z) e
theorem FrL.of {a : Addr} {H H' : Hp} (h : Fr a H H') : FrL [a] H H' := fun b o n e => h b o (fun z => n (z ▸ List.mem_singleton_self a)) e
theorem FrL.new {L : List Addr} {p : Addr} {H : Hp} {o : HO} (h : H p = none) : FrL L H (upd H p o) := FrL.same (same_new h)
/-! ### what is yielded -/
theorem yields_keys {d : Addr} {o : Obj} {kvs : List (Key × V)} : Yields (Itk d o kvs) (kvs.map fun p => kV p.1) (fun H => H d = some (.frz o (.dK kvs))) where
  go := fun k H g h => ⟨g, by rw [List.length_map] at h; exact h⟩
  stop := fun H g => ⟨g, by rw [List.length_map]; exact Nat.le_refl _⟩
  yld := fun k H x H' _ g h => by
    obtain ⟨e, key, v, hk, hx⟩ := h
    refine ⟨e, ?_⟩
    rw [List.getElem?_map, hk, hx]
    rfl
theorem yields_tup {K : PySem.W.Frag} {a : Addr} {xs : List V} : Yields (Itt K a) xs (fun H => SqT K H a xs) where
  go := fun k H g h => ⟨xs, xs[k], g, List.getElem?_eq_getElem h⟩
  stop := fun H g => ⟨xs, g, Nat.le_refl _⟩
  yld := fun k H x H' _ g h => ⟨h.1, h.2 xs g⟩
/-! ### comprehensions -/
theorem lcG {J : It} {items : List V} {G : Hp → Prop} {H1 : Hp} {D : Addr} {σ : L2.St} {vs : List Nat} {g : TG} {tt : TT} {te : TE} {Q : Hp → Prop} (Y : Yields J items G) (I : Nat → List V → Hp → Prop)
    (hG : ∀ k acc H, I k acc H → H D = some (.lst acc) → G H) (h0 : I 0 [] (upd H1 D (.lst [])))
    (hs : ∀ k acc H x, I k acc H → H D = some (.lst acc) → items[k]? = some x → acc.length ≤ k → k < 1000000 → g x (wipe σ vs) H fun σ2 H2 => wipe σ2 vs = wipe σ vs ∧ tt σ2 H2 fun b H3 =>
      if b = true then te σ2 H3 fun y H4 => ∃ acc, H4 D = some (.lst acc) ∧ acc.length < sizeLine ∧ LcN I D (k + 1) (upd H4 D (.lst (acc ++ [y]))) else LcN I D (k + 1) H3)
    (hl : items.length ≤ 1000000) (hd : ∀ acc H, I items.length acc H → H D = some (.lst acc) → acc.length ≤ items.length → Q H) :
    ∃ W : Nat → Nat → Hp → Prop, (∃ m, W 0 m (upd H1 D (.lst []))) ∧ ∀ k m H, W k m H →
      (J.stop k H ∧ Q H) ∨ (J.go k H ∧ ∃ Nx : Hp → Prop, (∀ H', Nx H' → ∃ m', m' < m ∧ W (k + 1) m' H') ∧ ∀ x H', J.yld k H x H' → g x (wipe σ vs) H' fun σ2 H2 => wipe σ2 vs = wipe σ vs ∧ tt σ2 H2 fun b H3 =>
        if b = true then te σ2 H3 fun y H4 => ∃ acc, H4 D = some (.lst acc) ∧ acc.length < sizeLine ∧ Nx (upd H4 D (.lst (acc ++ [y]))) else Nx H3) := by
  refine ⟨fun k m H => m = items.length - k ∧ k ≤ items.length ∧ LcN I D k H, ⟨items.length, by omega, Nat.zero_le _, [], upd_same, Nat.zero_le _, h0⟩, ?_⟩
  rintro k m H ⟨rfl, hk, acc, hD, hacc, hI⟩
  by_cases hlt : k < items.length
  · refine .inr ⟨Y.go k H (hG _ _ _ hI hD) hlt, LcN I D (k + 1), fun H' q => ⟨items.length - (k + 1), by omega, rfl, hlt, q⟩, fun x H' y => ?_⟩
    obtain ⟨rfl, hx⟩ := Y.yld k H x H' hlt (hG _ _ _ hI hD) y
    exact hs k acc _ x hI hD hx hacc (by omega)
  · have e : k = items.length := by omega
    subst e
    exact .inl ⟨Y.stop H (hG _ _ _ hI hD), hd acc H hI hD hacc⟩
/-- behind k turns of a dict's comprehension -/
def DcN (I : Nat → List (Key × V) → Hp → Prop) (D : Addr) (k : Nat) (H : Hp) : Prop := ∃ kvs, H D = some (.dK kvs) ∧ kvs.length ≤ k ∧ I k kvs H
theorem dc_take {I : Nat → List (Key × V) → Hp → Prop} {D : Addr} {k : Nat} {H5 : Hp} {key : Key} {z : V} {kvs : List (Key × V)} (h : H5 D = some (.dK kvs)) (l : kvs.length ≤ k) (hk : k < 1000000) (q : I (k + 1) (putK kvs key z) (upd H5 D (.dK (putK kvs key z)))) :
    ∃ kvs k', (kV key) = kV k' ∧ H5 D = some (.dK kvs) ∧ kvs.length < sizeLine ∧ DcN I D (k + 1) (upd H5 D (.dK (putK kvs k' z))) :=
  ⟨kvs, key, rfl, h, small_lt (by omega), _, upd_same, by have := length_putK kvs key z; omega, q⟩
theorem dc_skip {I : Nat → List (Key × V) → Hp → Prop} {D : Addr} {k : Nat} {H5 : Hp} {kvs : List (Key × V)} (h : H5 D = some (.dK kvs)) (l : kvs.length ≤ k) (q : I (k + 1) kvs H5) : DcN I D (k + 1) H5 := ⟨kvs, h, by omega, q⟩
theorem dcG {J : It} {items : List V} {G : Hp → Prop} {H1 : Hp} {D : Addr} {σ : L2.St} {vs : List Nat} {g : TG} {tt : TT} {tk tv : TE} {Q : Hp → Prop} (Y : Yields J items G) (I : Nat → List (Key × V) → Hp → Prop)
    (hG : ∀ k kvs H, I k kvs H → H D = some (.dK kvs) → G H) (h0 : I 0 [] (upd H1 D (.dK [])))
    (hs : ∀ k kvs H x, I k kvs H → H D = some (.dK kvs) → items[k]? = some x → kvs.length ≤ k → k < 1000000 → g x (wipe σ vs) H fun σ2 H2 => wipe σ2 vs = wipe σ vs ∧ tt σ2 H2 fun b H3 =>
      if b = true then tk σ2 H3 fun y H4 => tv σ2 H4 fun z H5 => ∃ kvs key, y = kV key ∧ H5 D = some (.dK kvs) ∧ kvs.length < sizeLine ∧ DcN I D (k + 1) (upd H5 D (.dK (putK kvs key z))) else DcN I D (k + 1) H3)
    (hl : items.length ≤ 1000000) (hd : ∀ kvs H, I items.length kvs H → H D = some (.dK kvs) → kvs.length ≤ items.length → Q H) :
    ∃ W : Nat → Nat → Hp → Prop, (∃ m, W 0 m (upd H1 D (.dK []))) ∧ ∀ k m H, W k m H →
      (J.stop k H ∧ Q H) ∨ (J.go k H ∧ ∃ Nx : Hp → Prop, (∀ H', Nx H' → ∃ m', m' < m ∧ W (k + 1) m' H') ∧ ∀ x H', J.yld k H x H' → g x (wipe σ vs) H' fun σ2 H2 => wipe σ2 vs = wipe σ vs ∧ tt σ2 H2 fun b H3 =>
        if b = true then tk σ2 H3 fun y H4 => tv σ2 H4 fun z H5 => ∃ kvs key, y = kV key ∧ H5 D = some (.dK kvs) ∧ kvs.length < sizeLine ∧ Nx (upd H5 D (.dK (putK kvs key z))) else Nx H3) := by
  refine ⟨fun k m H => m = items.length - k ∧ k ≤ items.length ∧ DcN I D k H, ⟨items.length, by omega, Nat.zero_le _, [], upd_same, Nat.zero_le _, h0⟩, ?_⟩
  rintro k m H ⟨rfl, hk, kvs, hD, hacc, hI⟩
  by_cases hlt : k < items.length
  · refine .inr ⟨Y.go k H (hG _ _ _ hI hD) hlt, DcN I D (k + 1), fun H' q => ⟨items.length - (k + 1), by omega, rfl, hlt, q⟩, fun x H' y => ?_⟩
    obtain ⟨rfl, hx⟩ := Y.yld k H x H' hlt (hG _ _ _ hI hD) y
    exact hs k kvs _ x hI hD hx hacc (by omega)
  · have e : k = items.length := by omega
    subst e
    exact .inl ⟨Y.stop H (hG _ _ _ hI hD), hd kvs H hI hD hacc⟩
/-! ### walks -/
theorem forG {J : It} {items : List V} {G : Hp → Prop} {g : TG} {tb : TS} {D : Ends} {σ : L2.St} {H : Hp} (Y : Yields J items G) (Pv : Nat → L2.St → Hp → Prop) (h0 : Pv 0 σ H) (hG : ∀ i σ H, Pv i σ H → G H)
    (hs : ∀ i x σ H, items[i]? = some x → Pv i σ H → g x σ H fun σ2 H2 => tb { D with nx := Pv (i + 1), ct := Pv (i + 1), bk := D.nx } σ2 H2) (hd : ∀ σ H, Pv items.length σ H → D.nx σ H) :
    ∃ W : Nat → Nat → L2.St → Hp → Prop, (∃ m, W 0 m σ H) ∧ ∀ i m σ H, W i m σ H →
      (J.stop i H ∧ D.nx σ H) ∨ (J.go i H ∧ ∃ N : L2.St → Hp → Prop, (∀ σ' H', N σ' H' → ∃ m', m' < m ∧ W (i + 1) m' σ' H') ∧ ∀ x H', J.yld i H x H' → g x σ H' fun σ2 H2 => tb { D with nx := N, ct := N, bk := D.nx } σ2 H2) := by
  refine ⟨fun i m σ H => m = items.length - i ∧ i ≤ items.length ∧ Pv i σ H, ⟨items.length, by omega, Nat.zero_le _, h0⟩, ?_⟩
  rintro i m σ H ⟨rfl, hi, p⟩
  by_cases hlt : i < items.length
  · refine .inr ⟨Y.go i H (hG _ _ _ p) hlt, Pv (i + 1), fun σ' H' p' => ⟨items.length - (i + 1), by omega, rfl, hlt, p'⟩, fun x H' y => ?_⟩
    obtain ⟨rfl, hx⟩ := Y.yld i H x H' hlt (hG _ _ _ p) y
    exact hs i x σ _ hx p
  · have e : i = items.length := by omega
    subst e
    exact .inl ⟨Y.stop H (hG _ _ _ p), hd σ H p⟩
/-! ### a raise within a locked walk -/
/-- what is let out of a locked walk, told of the heap with the lock off -/
def wLock (X : Cx) (W : WX) : WX := fun cls dd σ H => ∃ (d : Addr) (od : Obj) (u : HO), H d = some (.frz od u) ∧ (∀ o' u', X.H_0 d ≠ some (.frz o' u')) ∧ W cls dd σ (upd H d u)
theorem takes_lock {X : Cx} {W : WX} (tk : Takes X W) : Takes X (wLock X W) := by
  rintro v s' ⟨a, B, sI, pins, σ, H, cls, dd, e, I, nb, up, sky, na, os, ag, d, od, u, hd, hn, w⟩
  refine tk v s' ⟨a, B, sI, pins, σ, upd H d u, cls, dd, e, I.unlock hd hn, nb, up, sky, ?_, os, ag, w⟩
  rw [upd_ne (fun z => by rw [z, hd] at na; cases na)]
  exact na
end Fk

set_option maxHeartbeats 4000000
/-! A dict's comprehension that is given a name; tables with texts as keys; texts in order. -/
namespace Fk
open PySem PySem.Spec PyProof.Rows L2
section
variable {X : Cx}
theorem sw_trueD {kx vx : Expr} {gs : List Comprehension} {scope : Scope} {pos py : Pos} {y : Str} {l : Nat} {env : Env} (hk : env.scope.kind = .function) (hy : env.scope.names.lookup y = some .local) (hl : (py.line == pos.line) = true)
    (ha : (scope.names.any fun (n, k) => n == y && (k == .local || k == .cell)) = false) : swapsWith (.DictComp kx vx gs scope pos) (some (.Name y py)) l env = pure true := by
  have ky : env.kindOf y = some .local := hy
  have hb : env.blockKind = .function := by unfold Env.blockKind; rw [hk]; rfl
  unfold swapsWith
  simp only [hb, ky, ha, Expr.pos, hl]
  rfl
/-- name = {k: v for ..} on one line, the name a local -/
theorem ps_setDc {i : Nat} {y : Str} {py : Pos} {kx vx tg iter : Expr} {ifs : List Expr} {scope : Scope} {own : List (Str × Nat)} {pos spos : Pos} {wi : TI} {g : TG} {tt : TT} {tk tv : TE} (hc : X.calm = true) (hN : X.N.Nodup) (hy : X.N[i]? = some y) (hyl : X.env.scope.names.lookup y = some .local)
    (hsw : swapsWith (.DictComp kx vx [⟨tg, iter, ifs, 0⟩] scope pos) (some (.Name y py)) spos.line X.env = pure true) (hi : PI X tg iter wi) (ok : BlkOk X.N X.env.scope scope own)
    (hg : ∀ (s : Shared) (H : Hp) (C : Addr) (cl : List (Str × Addr)) (fp : List Addr), PG (X.blk s H scope (compEnvC scope cl C X.env) fp) tg g) (ht : ∀ (s : Shared) (H : Hp) (C : Addr) (cl : List (Str × Addr)) (fp : List Addr), PTs (X.blk s H scope (compEnvC scope cl C X.env) fp) ifs tt)
    (hk : ∀ (s : Shared) (H : Hp) (C : Addr) (cl : List (Str × Addr)) (fp : List Addr), PE (X.blk s H scope (compEnvC scope cl C X.env) fp) kx tk)
    (he : ∀ (s : Shared) (H : Hp) (C : Addr) (cl : List (Str × Addr)) (fp : List Addr), PE (X.blk s H scope (compEnvC scope cl C X.env) fp) vx tv) (hs : ∀ x, foldedSetIterable iter X.env x = pure x := by intro _; rfl) :
    PS X (.Assign [.Name y py] (.DictComp kx vx [⟨tg, iter, ifs, 0⟩] scope pos) spos) (tAsg (tDc wi g tt tk tv (own.map (·.2))) (gName i)) := by
  refine ⟨fun pins s σ H D I h => ?_⟩
  rw [exec_Assign_Name_used _ _ _ _ hsw]
  refine wpAny_bind (wpAny_standAt (wpAny_bind ?_))
  show wpAny _ X.A (do let _ ← comprehension (.DictComp kx vx [⟨tg, iter, ifs, 0⟩] scope pos) scope X.env (firstIterPos [⟨tg, iter, ifs, 0⟩] pos) newDict false (eval iter X.env) (some (assign (.Name y py) X.env))) _ _ s
  have h : tDc wi g tt tk tv (own.map (·.2)) σ H (fun x H1 => gName i x σ H1 D.nx) := h
  refine wpAny_bind (thn (dc_core (Qf := fun _ s' => SP X pins D .next s') hc hN I hi ok hg ht hk he hs h fun L C s' m H' I' q hn f => ?_) fun _ s' hq => wpAny_pure (wpAny_pure hq))
  show wpAny _ _ (assign (.Name y py) X.env (.ref L)) _ _ _
  refine wpAny_assign_Name (store_ok2 (v := V.ref L) I' hN hy (.inl hyl) rfl (fun s2 I2 ⟨a, sb, ha⟩ => ?_) (.inr hyl))
  obtain ⟨f0, f1, f2, f3, f4, f5⟩ := f
  have haC : C ≠ a := by
    rcases ha with z | z
    · rw [z]; exact f1
    · exact fun e => f4 y a z e.symm
  refine ⟨m, hn.sameBut sb haC, fun h3 sb3 => ?_⟩
  exact ⟨_, H', I2.turned (t' := s2.toks) (fun b o hb e => (sb3.2 b hb).trans e) f0 f1 f3 f4 f5, q⟩
end
/-! ### tables with texts as keys -/
abbrev Tab := List (Str × V)
def kT (t : Tab) : List (Key × V) := t.map fun p => (.inr p.1, p.2)
theorem valV_kT (t : Tab) (x : Str) : valV (kT t) (.inr x) = valV t x := by
  induction t with
  | nil => rfl
  | cons p r ih =>
    show valV ((.inr p.1, p.2) :: kT r) (.inr x) = _
    by_cases h : p.1 = x
    · rw [valV_pos (show (Sum.inr p.1 : Key) = .inr x by rw [h]), valV_pos h]
    · rw [valV_neg (fun e => h (Sum.inr.inj e)), valV_neg h, ih]
theorem any_kT (t : Tab) (x : Str) : ((kT t).any fun kv => decide (kv.1 = .inr x)) = t.any fun kv => decide (kv.1 = x) := by
  rw [valV_any, valV_any, valV_kT]
theorem putK_kT (t : Tab) (x : Str) (v : V) : putK (kT t) (.inr x) v = kT (putK t x v) := by
  unfold putK
  rw [any_kT]
  split
  · unfold kT
    rw [List.map_map, List.map_map]
    refine List.map_congr_left fun p _ => ?_
    show (if (Sum.inr p.1 : Key) = .inr x then _ else _) = _
    by_cases h : p.1 = x
    · rw [if_pos (by rw [h])]
      show _ = ((Sum.inr (if p.1 = x then (p.1, v) else p).1, (if p.1 = x then (p.1, v) else p).2) : Key × V)
      rw [if_pos h]
    · rw [if_neg (fun e => h (Sum.inr.inj e))]
      show _ = ((Sum.inr (if p.1 = x then (p.1, v) else p).1, (if p.1 = x then (p.1, v) else p).2) : Key × V)
      rw [if_neg h]
  · unfold kT
    rw [List.map_append]
    rfl
theorem dropK_kT (t : Tab) (x : Str) : dropK (kT t) (.inr x) = kT (dropK t x) := by
  unfold dropK kT
  rw [List.filter_map]
  congr 1
  refine List.filter_congr fun p _ => ?_
  show decide ((Sum.inr p.1 : Key) ≠ .inr x) = decide (p.1 ≠ x)
  exact decide_eq_decide.mpr ⟨fun n e => n (by rw [e]), fun n e => n (Sum.inr.inj e)⟩
theorem keys_kT (t : Tab) : (kT t).map (·.1) = (t.map (·.1)).map Sum.inr := by
  unfold kT
  rw [List.map_map, List.map_map]
  rfl
theorem kV_kT (t : Tab) : ((kT t).map fun p => kV p.1) = (t.map (·.1)).map V.str := by
  unfold kT
  rw [List.map_map, List.map_map]
  rfl
theorem len_kT (t : Tab) : (kT t).length = t.length := List.length_map ..
/-- what a[x] is -/
theorem dget_kT {H : Hp} {a : Addr} {t : Tab} (h : Rd H a (.dK (kT t))) (x : Str) : DGet H a (.str x) (valV t x) := .inl ⟨kT t, .inr x, h, rfl, (valV_kT t x).symm⟩
theorem valV_drop {κ : Type} [DecidableEq κ] (t : List (κ × V)) (x y : κ) : valV (dropK t x) y = if y = x then none else valV t y := by
  induction t with
  | nil => split <;> rfl
  | cons p r ih =>
    by_cases h : p.1 = x
    · rw [dropK_pos h, ih]
      by_cases e : y = x
      · rw [if_pos e, if_pos e]
      · rw [if_neg e, if_neg e, valV_neg (fun z => e (by rw [← z, h]))]
    · rw [dropK_neg h]
      by_cases e : p.1 = y
      · rw [valV_pos e, valV_pos e, if_neg (fun z => h (by rw [e, z]))]
      · rw [valV_neg e, valV_neg e, ih]
/-- no key twice -/
def Nd (t : Tab) : Prop := (t.map (·.1)).Nodup
theorem nd_put {t : Tab} (h : Nd t) (x : Str) (v : V) : Nd (putK t x v) := by
  cases e : valV t x with
  | none => exact nd_putK v h e
  | some u =>
    unfold Nd putK
    rw [if_pos (by rw [valV_any, e]; rfl), List.map_map]
    have : ((fun p : Str × V => p.1) ∘ fun kv : Str × V => if kv.1 = x then (kv.1, v) else kv) = fun p => p.1 := by
      funext p
      show (if p.1 = x then (p.1, v) else p).1 = p.1
      split <;> rfl
    rw [this]
    exact h
theorem nd_drop {t : Tab} (h : Nd t) (x : Str) : Nd (dropK t x) := nd_dropK h
theorem mem_val {t : Tab} {x : Str} : x ∈ t.map (·.1) ↔ (valV t x).isSome = true := by
  rw [← valV_any, List.any_eq_true]
  constructor
  · intro m
    obtain ⟨p, hp, e⟩ := List.mem_map.mp m
    exact ⟨p, hp, decide_eq_true e⟩
  · rintro ⟨p, hp, e⟩
    exact List.mem_map.mpr ⟨p, hp, of_decide_eq_true e⟩
/-- tables with the same keys -/
theorem keys_perm {t u : Tab} (ht : Nd t) (hu : Nd u) (h : ∀ x, (valV t x).isSome = (valV u x).isSome) : (t.map (·.1)).Perm (u.map (·.1)) :=
  (List.perm_ext_iff_of_nodup ht hu).mpr fun x => by rw [mem_val, mem_val, h]
/-! ### texts in order -/
def leS (a b : Str) : Prop := ¬ b.cps.toList < a.cps.toList
theorem leS_trans {a b c : Str} (h : leS a b) (k : leS b c) : leS a c := by
  unfold leS at *
  intro z
  exact h (List.lt_of_le_of_lt (List.not_lt.mp k) z)
theorem str_ext {a b : Str} (h : a.cps.toList = b.cps.toList) : a = b := by
  cases a; cases b
  congr 1
  exact Array.toList_inj.mp h
theorem leS_anti {a b : Str} (h : leS a b) (k : leS b a) : a = b := str_ext (List.le_antisymm (List.not_lt.mp h) (List.not_lt.mp k))
theorem rising_pw : ∀ (l : List Str) (p : Str), risingS p l = true → (p :: l).Pairwise leS
  | [], p, _ => List.pairwise_singleton _ _
  | x :: r, p, h => by
    have h : (!ltCps x.cps.toList p.cps.toList && risingS x r) = true := h
    obtain ⟨h1, h2⟩ := Bool.and_eq_true_iff.mp h
    have ih := rising_pw r x h2
    have px : leS p x := fun z => by
      rw [ltCps_eq, decide_eq_true z] at h1
      exact absurd h1 (by decide)
    refine List.pairwise_cons.mpr ⟨fun y hy => ?_, ih⟩
    rcases List.mem_cons.mp hy with e | hy
    · rw [e]
      exact px
    · exact leS_trans px ((List.pairwise_cons.mp ih).1 y hy)
theorem sorted_pw {l : List Str} (h : sortedS l = true) : l.Pairwise leS := by
  cases l with
  | nil => exact List.Pairwise.nil
  | cons x r => exact rising_pw r x h
theorem pw_uniq : ∀ {l m : List Str}, l.Pairwise leS → m.Pairwise leS → l.Perm m → l = m
  | [], m, _, _, p => (List.nil_perm.mp p).symm ▸ rfl
  | a :: r, [], _, _, p => absurd (List.perm_nil.mp p) (by simp)
  | a :: r, b :: s, h, k, p => by
    obtain ⟨h1, h2⟩ := List.pairwise_cons.mp h
    obtain ⟨k1, k2⟩ := List.pairwise_cons.mp k
    have e : a = b := by
      rcases List.mem_cons.mp (p.mem_iff.mp List.mem_cons_self) with z | z
      · exact z
      · rcases List.mem_cons.mp (p.mem_iff.mpr (List.mem_cons_self (a := b))) with y | y
        · exact y.symm
        · exact leS_anti (h1 b y) (k1 a z)
    subst e
    rw [pw_uniq h2 k2 ((List.perm_cons a).mp p)]
theorem sort_uniq {l m : List Str} (h : sortedS l = true) (k : sortedS m = true) (p : l.Perm m) : l = m := pw_uniq (sorted_pw h) (sorted_pw k) p
end Fk

set_option maxHeartbeats 4000000
/-! Statements that are never come to; methods with a keyword; methods that may raise. -/
namespace Fk
open PySem PySem.Spec PyProof.Rows L2
section
variable {X : Cx}
/-- what is never come to -/
theorem ps_never {st : Stmt} : PS X st (fun _ _ _ => False) := ⟨fun _ _ _ _ _ _ h => h.elim⟩
theorem pe_never {e : Expr} : PE X e (fun _ _ _ => False) := ⟨fun _ _ _ _ _ _ h => h.elim⟩
variable {k j : Nat} {C : Addr} {m : Str} {sp : Sp} {E : L2.St → XK} {o e : Expr} {es : List Expr} {kws : List Keyword} {ta : TE} {t tk : TA} {pos apos : Pos} {ks : List Str} {gV : List V → List V → List V}
/-- a method with these keywords -/
structure MetK (P : Program) (w : World) (K : PySem.W.Frag) (mg : Str → Option Value) (base : Heap) (k : Nat) (C : Addr) (m : Str) (sp : Sp) (ks : List Str) (gV : List V → List V → List V) : Prop where
  ex : ∃ (f : Addr) (fd : FuncData) (ps : List Str) (g : List Value → List Value → List Value), Cls K C ∧ Meth K C m f ∧ FnOk P w K mg base C8.CX0 k f fd ps sp ∧ KBinds K fd ps ks g gV
def tMeK (C : Addr) (m : Str) (sp : Sp) (gV : List V → List V → List V) (ta : TE) (t tk : TA) : TE := fun σ H Q => ta σ H fun x H1 => ∃ (a dx : Addr) (fs : List (Str × V)), x = .ref a ∧ H1 a = some (.ins C dx fs) ∧ fs.lookup m = none ∧
  t σ H1 fun vs H2 => tk σ H2 fun zs H3 => sp (gV (x :: vs) zs) H3 Q C8.E0
/-- o.m(e, .., k = v, ..) -/
theorem pe_mtK {pl : Sem Bool} (c : MetK X.prog X.w X.K X.mg X.base k C m sp ks gV) (hr : Room j X.A) (hk : k ≤ j) (he : PE X o ta) (ha : PA X (e :: es) t) (hkw : PK X kws tk)
    (hall : (backToKw pos (keywordEach kws X.env)).all (·.1.isSome) = true := by rfl) (hks : (backToKw pos (keywordEach kws X.env)).filterMap (·.1) = ks := by rfl)
    (hst : starEach (e :: es) X.env = (false, eval e X.env) :: starEach es X.env := by rfl) (hpl : ((backTo pos (starEach (e :: es) X.env)).any (·.1) || (backToKw pos (keywordEach kws X.env)).any (·.1.isNone)) = false := by rfl)
    (ht : eval (.Call (.Attribute o m apos) (e :: es) kws pos) X.env = (do
      let ov ← eval o X.env
      standAt apos.atName
      let (f, first) ← holding [ov] (getMethod ov m pl)
      callWith pos f first (backTo pos (starEach (e :: es) X.env)) (backToKw pos (keywordEach kws X.env))) := by rfl) :
    PE X (.Call (.Attribute o m apos) (e :: es) kws pos) (tMeK C m sp gV ta t tk) := by
  obtain ⟨f, fd, ps, g, cl, hm, F, b⟩ := c.ex
  refine ⟨fun pins s σ H Q I h => ?_⟩
  refine PySem.W.methodCall_KW (pl := pl) (thn (he.run pins s σ H _ I h) fun u s1 ⟨x, H1, I1, rx, a, dx, fs, ex, ea, l, q⟩ => ?_) ht
  subst ex
  obtain rfl : u = Value.ref a := rx
  refine getmeth_ok I1 ea cl hm l ?_
  refine PySem.W.callWith_KW (first := [.ref a]) (h₀ := X.base) I.ok.mod.kin hm.kp hall (thn (ha.run pos pins s1 σ H1 _ I1 q) fun us s2 ⟨vs, H2, I2, r, q2⟩ => ?_) hpl hst
  refine thn (hkw.run pos pins s2 σ H2 _ I2 q2) fun ws s3 ⟨zs, H3, I3, rz, q3⟩ => ⟨I3.kIn, ?_⟩
  rw [hks]
  exact run_fnk F (hr.mono hk) b C8.pass0 I3 (show Vals (.ref a :: vs) (.ref a :: us) from .cons rfl r) rz q3
end
section
variable {P : Program} {w : World} {K : PySem.W.Frag} {mg : Str → Option Value} {base : Heap}
/-- a method of the text as it stands behind the top, with no defaults -/
structure MDef (K : PySem.W.Frag) (C : Addr) (m qual : Str) (st : Stmt) : Prop where
  ex : ∃ (f : Addr) (fd : FuncData), C8.Fun K m qual st f fd ∧ Meth K C m f ∧ fd.defaults = .none
theorem met_of {m qual : Str} {C : Addr} {st : Stmt} {N ps : List Str} {k : Nat} {sp : Sp} (c : Cls K C) (D : MDef K C m qual st) (S : FnScope N ps (C8.fnScope st))
    (hb : ∀ (kV doc pm : Value) (an : Option Addr) (cdv ct : Value) (us : List Value), us.length = ps.length → bindArgs (PySem.W.fnOf m qual (C8.fnArgs st) (C8.fnBody st) (C8.fnScope st) .none kV doc pm an cdv ct) ⟨us, []⟩ = pure (ps.zip us))
    (len : ∀ vs H Q E, sp vs H Q E → vs.length = ps.length)
    (hbody : ∀ (f : Addr) (cdv : Value) (A : Around) (outer : List Env) (s : Shared) (H : Hp) (vs : List V) (Q : VK) (E : XK), Room k (A.deeper (envOfC qual (C8.fnScope st) s.heap.objs.size f cdv)) → sp vs H Q E →
      ∃ t, PSs (cxOf C8.CX0 P w K mg base N qual (C8.fnScope st) f cdv A outer s H E).nox (C8.fnBody st) t ∧ t { nx := fun _ H' => Q .non H', rt := Q } (start N vs) H) : C8.Met P w K mg base (k + 1) C m sp [] := by
  obtain ⟨f, fd, F, M, df⟩ := D.ex
  exact C8.met0 c M F (F.binds df hb) S len (hbody f)
/-- a method that may let errors out -/
theorem metX_of {m qual : Str} {C : Addr} {st : Stmt} {N ps : List Str} {k : Nat} {sp : Sp} (c : Cls K C) (D : MDef K C m qual st) (S : FnScope N ps (C8.fnScope st))
    (hb : ∀ (kV doc pm : Value) (an : Option Addr) (cdv ct : Value) (us : List Value), us.length = ps.length → bindArgs (PySem.W.fnOf m qual (C8.fnArgs st) (C8.fnBody st) (C8.fnScope st) .none kV doc pm an cdv ct) ⟨us, []⟩ = pure (ps.zip us))
    (len : ∀ vs H Q E, sp vs H Q E → vs.length = ps.length)
    (hbody : ∀ (f : Addr) (cdv : Value) (A : Around) (outer : List Env) (s : Shared) (H : Hp) (vs : List V) (Q : VK) (E : XK), Room k (A.deeper (envOfC qual (C8.fnScope st) s.heap.objs.size f cdv)) → sp vs H Q E →
      ∃ t, PSs (cxOf (L2.CX P w) P w K mg base N qual (C8.fnScope st) f cdv A outer s H E) (C8.fnBody st) t ∧ t { nx := fun _ H' => Q .non H', rt := Q } (start N vs) H) : MetX P w K mg base (L2.CX P w) (k + 1) C m sp [] := by
  obtain ⟨f, fd, F, M, df⟩ := D.ex
  obtain ⟨oc, od, dV, kV, doc, pm, an, cdv, ct, osl, rfl, lk, hcd⟩ := F.ex
  exact ⟨f, _, ps, [], c, M, fn_of lk hcd S len fun A outer s H vs Q E hr hsp => hbody f cdv A outer s H vs Q E hr hsp, F.binds df hb, .nil⟩
end
end Fk

set_option maxHeartbeats 4000000
/-! A comprehension with two fors that changes nothing; the prefixes of paths. -/
namespace Fk
open PySem PySem.Spec PyProof.Rows L2
theorem same_frl {D : Addr} {H1 H H' : Hp} (h : H1 D = none) (s : Same H1 H) (f : FrL [D] H H') : Same H1 H' := fun b o e => f b o (fun z => by
  rw [List.mem_singleton.mp z, h] at e
  cases e) (s b o e)
theorem lc2_pure {α β : Type} {J : It} {us : List α} {g : α → V} {h : β → V} {G : Hp → Prop} {H1 : Hp} {D : Addr} {σ : L2.St} {vs : List Nat} {i j : Nat} {wi1 : TI} {te : TE} {Q : Hp → Prop} (Y : Yields J (us.map g) G) (fs : α → List β) (f : α → β → V) (hD1 : H1 D = none) (hG : ∀ H, Same H1 H → G H)
    (e1 : ∀ x, wipe ((wipe σ vs).set i (some x)) vs = wipe σ vs)
    (e2 : ∀ x y, wipe ((wipe ((wipe σ vs).set i (some x)) [j]).set j (some y)) [j] = wipe ((wipe σ vs).set i (some x)) [j])
    (hw : ∀ H u, Same H1 H → H D ≠ none → u ∈ us → ∀ (R : It → Hp → Prop), (∀ J1 G1 H3, Yields J1 ((fs u).map h) G1 → Same H H3 → (∀ H', FrL [D] H3 H' → G1 H') → R J1 H3) → wi1 ((wipe σ vs).set i (some (g u))) H R)
    (he : ∀ H u w, Same H1 H → u ∈ us → w ∈ fs u → ∀ (R : VK), (∀ H3, Same H H3 → R (f u w) H3) → te ((wipe ((wipe σ vs).set i (some (g u))) [j]).set j (some (h w))) H R)
    (hl : (us.flatMap fs).length ≤ 1000000) (hd : ∀ H, Same H1 H → H D = some (.lst (us.flatMap fun u => (fs u).map (f u))) → Q H) :
    ∃ W : Nat → Nat → Hp → Prop, (∃ m, W 0 m (upd H1 D (.lst []))) ∧ ∀ k m H, W k m H →
      (J.stop k H ∧ Q H) ∨ (J.go k H ∧ ∃ Nx : Hp → Prop, (∀ H', Nx H' → ∃ m', m' < m ∧ W (k + 1) m' H') ∧ ∀ x H', J.yld k H x H' → gName i x (wipe σ vs) H' fun σ2 H2 => wipe σ2 vs = wipe σ vs ∧ tYes σ2 H2 fun b H3 =>
        if b = true then wi1 σ2 H3 fun J1 H4 => ∃ W1 : Nat → Nat → Hp → Prop, (∃ m, W1 0 m H4) ∧ ∀ k2 m2 H, W1 k2 m2 H →
          (J1.stop k2 H ∧ Nx H) ∨ (J1.go k2 H ∧ ∃ Nx1 : Hp → Prop, (∀ H', Nx1 H' → ∃ k', k' < m2 ∧ W1 (k2 + 1) k' H') ∧ ∀ x H', J1.yld k2 H x H' → gName j x (wipe σ2 [j]) H' fun σ3 H5 => wipe σ3 [j] = wipe σ2 [j] ∧ tYes σ3 H5 fun b H6 =>
            if b = true then te σ3 H6 fun y H7 => ∃ acc, H7 D = some (.lst acc) ∧ acc.length < sizeLine ∧ Nx1 (upd H7 D (.lst (acc ++ [y]))) else Nx1 H6)
        else Nx H3) := by
  refine ⟨fun k m H => m = us.length - k ∧ k ≤ us.length ∧ Same H1 H ∧ H D = some (.lst ((us.take k).flatMap fun u => (fs u).map (f u))), ⟨us.length, by omega, Nat.zero_le _, same_new hD1, upd_same⟩, ?_⟩
  rintro k m H ⟨rfl, hk, sm, hD⟩
  by_cases hlt : k < us.length
  · refine .inr ⟨Y.go k H (hG _ sm) (by rw [List.length_map]; exact hlt), fun H' => Same H1 H' ∧ H' D = some (.lst ((us.take (k + 1)).flatMap fun u => (fs u).map (f u))), fun H' q => ⟨us.length - (k + 1), by omega, rfl, hlt, q⟩, fun x H' y => ?_⟩
    obtain ⟨rfl, hx⟩ := Y.yld k H x H' (by rw [List.length_map]; exact hlt) (hG _ sm) y
    rw [List.getElem?_map, List.getElem?_eq_getElem hlt] at hx
    obtain rfl := Option.some.inj hx
    have hu : us[k] ∈ us := List.getElem_mem hlt
    refine ⟨e1 _, ?_⟩
    dsimp only [tYes]
    first | rw [if_pos (rfl : true = true)] | skip
    refine hw _ us[k] sm (by rw [hD]; exact fun z => nomatch z) hu _ fun J1 G1 H3 Y1 s3 hG1 => ?_
    have et : us.take (k + 1) = us.take k ++ [us[k]] := by rw [List.take_add_one, List.getElem?_eq_getElem hlt]; rfl
    have total : ((us.take k).flatMap fun u => (fs u).map (f u)).length + (fs us[k]).length ≤ 1000000 := by
      have e : us.flatMap fs = ((us.take (k + 1)) ++ us.drop (k + 1)).flatMap fs := by rw [List.take_append_drop]
      rw [e, List.flatMap_append, et, List.flatMap_append, List.length_append, List.length_append] at hl
      have e2 : ∀ l : List α, (l.flatMap fun u => (fs u).map (f u)).length = (l.flatMap fs).length := fun l => by
        induction l with
        | nil => rfl
        | cons a r ih => rw [List.flatMap_cons, List.flatMap_cons, List.length_append, List.length_append, ih, List.length_map]
      rw [e2]
      have : ([us[k]].flatMap fs).length = (fs us[k]).length := by simp
      omega
    refine ⟨fun k2 m2 H => m2 = (fs us[k]).length - k2 ∧ k2 ≤ (fs us[k]).length ∧ FrL [D] H3 H ∧ H D = some (.lst (((us.take k).flatMap fun u => (fs u).map (f u)) ++ ((fs us[k]).take k2).map (f us[k]))),
      ⟨(fs us[k]).length, by omega, Nat.zero_le _, FrL.refl _ _, by rw [List.take_zero, List.map_nil, List.append_nil]; exact s3 _ _ hD⟩, ?_⟩
    rintro k2 m2 H5 ⟨rfl, hk2, f5, hD5⟩
    by_cases hlt2 : k2 < (fs us[k]).length
    · refine .inr ⟨Y1.go k2 H5 (hG1 _ f5) (by rw [List.length_map]; exact hlt2), _, fun H' q => ⟨(fs us[k]).length - (k2 + 1), by omega, rfl, hlt2, q⟩, fun x H' y => ?_⟩
      obtain ⟨rfl, hx⟩ := Y1.yld k2 H5 x H' (by rw [List.length_map]; exact hlt2) (hG1 _ f5) y
      rw [List.getElem?_map, List.getElem?_eq_getElem hlt2] at hx
      obtain rfl := Option.some.inj hx
      refine ⟨e2 _ _, ?_⟩
      first | rw [if_pos (rfl : true = true)] | skip
      have s5 : Same H1 _ := same_frl hD1 (sm.trans s3) f5
      refine he _ us[k] (fs us[k])[k2] s5 hu (List.getElem_mem hlt2) _ fun H6 s6 => ?_
      refine ⟨_, s6 _ _ hD5, small_lt (by rw [List.length_append, List.length_map, List.length_take]; omega), FrL.trans (f5.trans (FrL.same s6)) (FrL.at (List.mem_singleton_self D)), ?_⟩
      rw [upd_same, List.take_add_one, List.getElem?_eq_getElem hlt2, List.append_assoc, List.map_append]
      rfl
    · have e : k2 = (fs us[k]).length := by omega
      subst e
      refine .inl ⟨by have := Y1.stop H5 (hG1 _ f5); rw [List.length_map] at this; exact this, same_frl hD1 (sm.trans s3) f5, ?_⟩
      rw [hD5, et, List.flatMap_append, List.take_length]
      simp
  · have e : k = us.length := by omega
    subst e
    refine .inl ⟨by have := Y.stop H (hG _ sm); rw [List.length_map] at this; exact this, hd _ sm ?_⟩
    rw [hD, List.take_length]
/-! ### prefixes -/
def prefixesF (x : Str) : List Str := (List.range ((segs x).length - 1)).map fun k => Txt.join "/" ((segs x).take (k + 1))
def haveF (ks : List Str) : Bool := ks.any fun x => (prefixesF x).any fun y => decide (y ∈ ks)
theorem have_perm {ks ls : List Str} (h : ks.Perm ls) : haveF ks = haveF ls := by
  have e : ∀ a b : List Str, a.Perm b → haveF a = true → haveF b = true := fun a b p z => by
    obtain ⟨x, hx, z⟩ := List.any_eq_true.mp z
    obtain ⟨y, hy, z⟩ := List.any_eq_true.mp z
    exact List.any_eq_true.mpr ⟨x, p.mem_iff.mp hx, List.any_eq_true.mpr ⟨y, hy, decide_eq_true (p.mem_iff.mp (of_decide_eq_true z))⟩⟩
  cases c : haveF ls with
  | true => exact e ls ks h.symm c
  | false => exact Bool.eq_false_iff.mpr fun z => by rw [e ks ls h z] at c; cases c
theorem pre_len (x : Str) (h : x.length ≤ 100000) : (prefixesF x).length ≤ 100000 := by
  unfold prefixesF
  rw [List.length_map, List.length_range]
  have := (segs_len x h).1
  omega
theorem any_flat {α β : Type} (us : List α) (fs : α → List β) (f : α → β → Bool) : (us.flatMap fun u => (fs u).map (f u)).any id = us.any fun u => (fs u).any (f u) := by
  induction us with
  | nil => rfl
  | cons a r ih => rw [List.flatMap_cons, List.any_append, ih, List.any_cons, List.any_map]; rfl
end Fk
namespace Fk
open PySem PySem.Spec PyProof.Rows L2
theorem segs_lens (x : Str) : (segs x).length ≤ x.length + 1 ∧ ∀ y ∈ segs x, y.length ≤ x.length := by
  have e := TL.split_spl x "/" (by decide +kernel) (TL.kind_ok (by decide +kernel))
  have e2 : ∀ l k acc, (TL.spl (TL.tl "/") k acc l).length ≤ l.length + 1 ∧ ∀ y ∈ TL.spl (TL.tl "/") k acc l, y.length ≤ acc.length + l.length := by
    intro l
    induction l with
    | nil => intro k acc; rw [TL.spl_nil]; exact ⟨Nat.le_refl _, fun y hy => by rw [List.mem_singleton.mp hy]; simp⟩
    | cons c r ih =>
      intro k acc
      cases k with
      | zero =>
        unfold TL.spl
        split
        · obtain ⟨i1, i2⟩ := ih ((TL.tl "/").length - 1) []
          refine ⟨by simp only [List.length_cons]; omega, fun y hy => ?_⟩
          rcases List.mem_cons.mp hy with rfl | hy
          · simp only [List.length_cons]; omega
          · have := i2 y hy
            simp only [List.length_cons, List.length_nil] at this ⊢
            omega
        · obtain ⟨i1, i2⟩ := ih 0 (acc ++ [c])
          refine ⟨by simp only [List.length_cons]; omega, fun y hy => ?_⟩
          have := i2 y hy
          simp only [List.length_cons, List.length_append, List.length_nil] at this ⊢
          omega
      | succ k =>
        obtain ⟨i1, i2⟩ := ih k acc
        unfold TL.spl
        refine ⟨by simp only [List.length_cons]; omega, fun y hy => ?_⟩
        have := i2 y hy
        simp only [List.length_cons] at this ⊢
        omega
  obtain ⟨i1, i2⟩ := e2 (TL.tl x) 0 []
  rw [← e] at i1 i2
  rw [List.length_map, ← TL.len_tl] at i1
  refine ⟨?_, fun y hy => ?_⟩
  · show (Txt.split x "/").length ≤ _
    omega
  · have := i2 (TL.tl y) (List.mem_map_of_mem hy)
    rw [← TL.len_tl, ← TL.len_tl] at this
    simp at this
    omega
theorem sum_most (n : Nat) : ∀ ps : List Str, (∀ p ∈ ps, p.length ≤ n) → (ps.map (·.length)).sum ≤ ps.length * n := by
  intro ps h
  induction ps with
  | nil => exact Nat.zero_le _
  | cons p r ih =>
    rw [List.map_cons, List.sum_cons, List.length_cons, Nat.succ_mul]
    have := ih fun q hq => h q (List.mem_cons_of_mem _ hq)
    have := h p List.mem_cons_self
    omega
theorem cut_front {α : Type} (l : List α) (g : α → V) (k : Nat) : cutV (l.map g) none (some (1 + (k : Int))) = (l.take (k + 1)).map g := by
  have e : (1 + (k : Int)) = ((k + 1 : Nat) : Int) := by omega
  unfold cutV
  rw [e, HT.sIx_none, HT.sIx_nat, List.drop_zero, Nat.sub_zero, List.map_take]
  rcases Nat.le_total (k + 1) (l.map g).length with h | h
  · rw [Nat.min_eq_left h]
  · rw [Nat.min_eq_right h, List.take_length, List.take_of_length_le h]
/-! ### rules whose reading names the written part, within a comprehension -/
section
variable {X : Cx} {K : PySem.W.Frag} {o e : Expr} {to te : TE} {f : Str}
theorem slK_list (h : X.K = K) : SlR X (rSlL K) := h ▸ sl_list
theorem ixK_list (h : X.K = K) : IxR X (rIxL K) := h ▸ ix_list
theorem ixK_tup (h : X.K = K) : IxR X (rIxT K) := h ▸ ix_tup
theorem pi_listK {tg : Expr} (h : X.K = K) (he : PE X e te) : PI X tg e (iList K te) := h ▸ pi_list he
theorem pi_tupK {tg : Expr} (h : X.K = K) (he : PE X e te) : PI X tg e (iTup K te) := h ▸ pi_tup he
theorem pg_tupK {es : List Expr} {k : Nat} {t : TGs} {n : Nat} {pos : Pos} (h : X.K = K) (hc : X.calm = true) (hp : PGs X es t)
    (hn : (assignEach es X.env).length = n := by rfl) (hst : (assignEach es X.env).findIdx? (·.1) = none := by rfl) : PG X (.Tuple es k pos) (gTup K n t) := h ▸ pg_tup hc hp hn hst
theorem pe_fldK {pos : Pos} (h : X.K = K) (he : PE X e te) (hb : attributeBase e f X.env (eval e X.env) = eval e X.env) : PE X (.Attribute e f pos) (tFld K te f) := h ▸ pe_fld he hb
def rJoin (K : PySem.W.Frag) : V → List V → Hp → VK → Prop := fun x xs H Q => ∃ a p, ∃ ys : List Str, x = .str a ∧ xs = [.ref p] ∧ (SqL K H p (ys.map V.str) ∨ SqT K H p (ys.map V.str)) ∧
  (ys.map (·.length)).sum + ys.length * a.length ≤ 16777216 ∧ Q (.str (Txt.join a ys)) H
theorem pe_joinK {apos pos : Pos} (h : X.K = K) (ho : PE X o to) (he : PE X e te) (hs : starEach [e] X.env = [(false, eval e X.env)] := by rfl) (hbase : attributeBase o "join" X.env (eval o X.env) = eval o X.env := by rfl) (hline : (apos.endLine == pos.line) = true := by rfl) :
    PE X (.Call (.Attribute o "join" apos) [e] [] pos) (tM1 (rJoin K) to te) := by
  subst h
  exact pe_join ho he hs hbase hline
end
end Fk

set_option maxHeartbeats 4000000
/-! Lists and dicts that comprehensions make of tuples; tuples of tuples. -/
namespace Fk
open PySem PySem.Spec PyProof.Rows L2
/-- at these addresses stand tuples of these things -/
def Tups (H : Hp) (as : List Addr) (ls : List (List V)) : Prop := as.length = ls.length ∧ ∀ (i : Nat) (a : Addr) (l : List V), as[i]? = some a → ls[i]? = some l → H a = some (.tup l)
def TupsAt (H : Hp) (p : Addr) (ls : List (List V)) : Prop := ∃ as : List Addr, H p = some (.tup (as.map V.ref)) ∧ Tups H as ls
/-- tuples stay -/
def TupKeep (H H' : Hp) : Prop := ∀ b xs, H b = some (.tup xs) → H' b = some (.tup xs)
theorem TupKeep.of {H H' : Hp} (s : Same H H') : TupKeep H H' := fun b xs e => s b _ e
theorem TupKeep.refl (H : Hp) : TupKeep H H := fun _ _ e => e
theorem TupKeep.trans {H H1 H2 : Hp} (a : TupKeep H H1) (b : TupKeep H1 H2) : TupKeep H H2 := fun c xs e => b c xs (a c xs e)
theorem TupKeep.at {a : Addr} {H : Hp} {o : HO} (n : ∀ xs, H a ≠ some (.tup xs)) : TupKeep H (upd H a o) := fun b xs e => by
  have z : b ≠ a := fun z => n xs (by rw [← z]; exact e)
  rw [upd_ne z]
  exact e
theorem Tups.keep {H H' : Hp} {as : List Addr} {ls : List (List V)} (t : Tups H as ls) (k : TupKeep H H') : Tups H' as ls := ⟨t.1, fun i a l h1 h2 => k _ _ (t.2 i a l h1 h2)⟩
theorem TupsAt.keep {H H' : Hp} {p : Addr} {ls : List (List V)} (t : TupsAt H p ls) (k : TupKeep H H') : TupsAt H' p ls := by
  obtain ⟨as, h, t⟩ := t
  exact ⟨as, k _ _ h, t.keep k⟩
theorem Tups.nil {H : Hp} : Tups H [] [] := ⟨rfl, fun i a l h => by simp at h⟩
theorem Tups.snoc {H : Hp} {as : List Addr} {ls : List (List V)} {a : Addr} {l : List V} (t : Tups H as ls) (h : H a = some (.tup l)) : Tups H (as ++ [a]) (ls ++ [l]) := by
  obtain ⟨e, t⟩ := t
  refine ⟨by rw [List.length_append, List.length_append, e]; rfl, fun i b m h1 h2 => ?_⟩
  by_cases hi : i < as.length
  · rw [List.getElem?_append_left hi] at h1
    rw [List.getElem?_append_left (by omega)] at h2
    exact t i b m h1 h2
  · rw [List.getElem?_append_right (by omega)] at h1
    rw [List.getElem?_append_right (by omega)] at h2
    have i1 := (List.getElem?_eq_some_iff.mp h1).1
    have e0 : i - as.length = 0 := by
      rw [List.length_singleton] at i1
      omega
    rw [e0] at h1
    rw [← e, e0] at h2
    rw [← Option.some.inj h1, ← Option.some.inj h2]
    exact h
theorem Tups.get {H : Hp} {as : List Addr} {ls : List (List V)} (t : Tups H as ls) {u : Addr × List V} (h : u ∈ as.zip ls) : H u.1 = some (.tup u.2) := by
  obtain ⟨i, hi⟩ := List.mem_iff_getElem?.mp h
  rw [List.getElem?_zip_eq_some] at hi
  exact t.2 i _ _ hi.1 hi.2
theorem zip_fst {as : List Addr} {ls : List (List V)} (e : as.length = ls.length) : (as.zip ls).map (fun u => V.ref u.1) = as.map V.ref := by
  have : (fun u : Addr × List V => V.ref u.1) = V.ref ∘ Prod.fst := rfl
  rw [this, ← List.map_map, List.map_fst_zip (by omega)]
theorem zip_snd {as : List Addr} {ls : List (List V)} (e : as.length = ls.length) : (as.zip ls).map (·.2) = ls := List.map_snd_zip (by omega)
/-- a tuple of the written part -/
def KTup (K : PySem.W.Frag) (a : Addr) (xs : List V) : Prop := ∃ (o : Obj) (its : Array Value) (n : Nat), K.lookup a = some o ∧ o.cls = .type "tuple" ∧ o.data = .seq its n ∧ its.size ≤ sizeLine ∧ Vals xs its.toList
/-- a tuple, tracked or of the written part -/
def TupK (K : PySem.W.Frag) (H : Hp) (a : Addr) (xs : List V) : Prop := H a = some (.tup xs) ∨
  ∃ (o : Obj) (its : Array Value) (n : Nat), K.lookup a = some o ∧ o.cls = .type "tuple" ∧ o.data = .seq its n ∧ its.size ≤ sizeLine ∧ Vals xs its.toList
theorem TupK.sq {K : PySem.W.Frag} {H : Hp} {a : Addr} {xs : List V} (h : TupK K H a xs) : SqT K H a xs := h.imp (fun e => .inl e) id
theorem TupK.keep {K : PySem.W.Frag} {H H' : Hp} {a : Addr} {xs : List V} (h : TupK K H a xs) (k : TupKeep H H') : TupK K H' a xs := h.imp (fun e => k _ _ e) id
def TupsK (K : PySem.W.Frag) (H : Hp) (p : Addr) (ls : List (List V)) : Prop := ∃ as : List Addr, TupK K H p (as.map V.ref) ∧ Tups H as ls
theorem TupsK.of {K : PySem.W.Frag} {H : Hp} {p : Addr} {ls : List (List V)} (h : TupsAt H p ls) : TupsK K H p ls := let ⟨as, a, b⟩ := h; ⟨as, .inl a, b⟩
theorem TupsK.keep {K : PySem.W.Frag} {H H' : Hp} {p : Addr} {ls : List (List V)} (h : TupsK K H p ls) (k : TupKeep H H') : TupsK K H' p ls := let ⟨as, a, b⟩ := h; ⟨as, a.keep k, b.keep k⟩
section
variable {α : Type} {J : It} {us : List α} {val : α → V} {G : Hp → Prop} {H1 : Hp} {D : Addr} {σ : L2.St} {vs : List Nat} {g : TG} {tt : TT} {te tk tv : TE} {Q : Hp → Prop}
/-- a list of new tuples -/
theorem lc_new (Y : Yields J (us.map val) G) (f : α → List V) (p : α → Bool) (σf : α → L2.St) (hD1 : H1 D = none) (hG : ∀ H, Same H1 H → G H) (hw : ∀ u ∈ us, wipe (σf u) vs = wipe σ vs)
    (hg : ∀ H u, Same H1 H → u ∈ us → ∀ (R : L2.St → Hp → Prop), R (σf u) H → g (val u) (wipe σ vs) H R)
    (ht : ∀ H u, Same H1 H → u ∈ us → ∀ (R : Bool → Hp → Prop), (∀ H3, Same H H3 → R (p u) H3) → tt (σf u) H R)
    (he : ∀ H u, Same H1 H → u ∈ us → p u = true → ∀ (R : VK), (∀ a H3, Same H H3 → H3 a = some (.tup (f u)) → R (.ref a) H3) → te (σf u) H R)
    (hl : us.length ≤ 1000000) (hd : ∀ as H, Same H1 H → H D = some (.lst (as.map V.ref)) → Tups H as ((us.filter p).map f) → Q H) :
    ∃ W : Nat → Nat → Hp → Prop, (∃ m, W 0 m (upd H1 D (.lst []))) ∧ ∀ k m H, W k m H →
      (J.stop k H ∧ Q H) ∨ (J.go k H ∧ ∃ Nx : Hp → Prop, (∀ H', Nx H' → ∃ m', m' < m ∧ W (k + 1) m' H') ∧ ∀ x H', J.yld k H x H' → g x (wipe σ vs) H' fun σ2 H2 => wipe σ2 vs = wipe σ vs ∧ tt σ2 H2 fun b H3 =>
        if b = true then te σ2 H3 fun y H4 => ∃ acc, H4 D = some (.lst acc) ∧ acc.length < sizeLine ∧ Nx (upd H4 D (.lst (acc ++ [y]))) else Nx H3) := by
  refine lcG Y (fun k acc H => Same H1 H ∧ ∃ as : List Addr, acc = as.map V.ref ∧ Tups H as (((us.take k).filter p).map f)) (fun k acc H h _ => hG H h.1) ⟨same_new hD1, [], rfl, by simpa using Tups.nil⟩ (fun k acc H x hI hD hx hacc hk => ?_) (by rw [List.length_map]; exact hl) (fun acc H hI hD _ => ?_)
  · obtain ⟨sm, as, ea, tp⟩ := hI
    rw [List.getElem?_map] at hx
    cases hu : us[k]? with
    | none => rw [hu] at hx; cases hx
    | some u =>
      rw [hu] at hx
      cases hx
      have hm : u ∈ us := List.mem_of_getElem? hu
      have et : us.take (k + 1) = us.take k ++ [u] := by
        rw [List.take_add_one, hu]
        rfl
      refine hg H u sm hm _ ⟨hw u hm, ?_⟩
      refine ht H u sm hm _ (fun H3 s3 => ?_)
      by_cases hp : p u = true
      · rw [if_pos hp]
        refine he H3 u (sm.trans s3) hm hp _ (fun a H4 s4 h4 => ?_)
        have hD4 := s4 _ _ (s3 _ _ hD)
        have kp : TupKeep H4 (upd H4 D (.lst (acc ++ [V.ref a]))) := TupKeep.at fun xs z => by rw [hD4] at z; cases z
        refine lc_take hD4 hacc hk ⟨same_mut ((sm.trans s3).trans s4) hD1, as ++ [a], by rw [ea, List.map_append]; rfl, ?_⟩
        rw [et, List.filter_append, List.map_append, List.filter_cons, hp]
        exact ((tp.keep (TupKeep.of (s3.trans s4))).snoc h4).keep kp
      · rw [if_neg hp]
        refine lc_skip (s3 _ _ hD) hacc ⟨sm.trans s3, as, ea, ?_⟩
        rw [et, List.filter_append, List.map_append, List.filter_cons, if_neg hp]
        simpa using tp.keep (TupKeep.of s3)
  · obtain ⟨sm, as, ea, tp⟩ := hI
    rw [List.length_map, List.take_length] at tp
    rw [ea] at hD
    exact hd as H sm hD tp
/-- a dict with texts as its keys -/
theorem dc_tab (Y : Yields J (us.map val) G) (kf : α → Str) (vf : α → V) (p : α → Bool) (σf : α → L2.St) (hD1 : H1 D = none) (hG : ∀ H, Same H1 H → G H) (hw : ∀ u ∈ us, wipe (σf u) vs = wipe σ vs)
    (hg : ∀ H u, Same H1 H → u ∈ us → ∀ (R : L2.St → Hp → Prop), R (σf u) H → g (val u) (wipe σ vs) H R)
    (ht : ∀ H u, Same H1 H → u ∈ us → ∀ (R : Bool → Hp → Prop), (∀ H3, Same H H3 → R (p u) H3) → tt (σf u) H R)
    (hk : ∀ H u, Same H1 H → u ∈ us → p u = true → ∀ (R : VK), (∀ H3, Same H H3 → R (.str (kf u)) H3) → tk (σf u) H R)
    (hv : ∀ H u, Same H1 H → u ∈ us → p u = true → ∀ (R : VK), (∀ H3, Same H H3 → R (vf u) H3) → tv (σf u) H R)
    (hl : us.length ≤ 1000000) (nd : ((us.filter p).map kf).Nodup) (hd : ∀ H, Same H1 H → H D = some (.dK (kT ((us.filter p).map fun u => (kf u, vf u)))) → Q H) :
    ∃ W : Nat → Nat → Hp → Prop, (∃ m, W 0 m (upd H1 D (.dK []))) ∧ ∀ k m H, W k m H →
      (J.stop k H ∧ Q H) ∨ (J.go k H ∧ ∃ Nx : Hp → Prop, (∀ H', Nx H' → ∃ m', m' < m ∧ W (k + 1) m' H') ∧ ∀ x H', J.yld k H x H' → g x (wipe σ vs) H' fun σ2 H2 => wipe σ2 vs = wipe σ vs ∧ tt σ2 H2 fun b H3 =>
        if b = true then tk σ2 H3 fun y H4 => tv σ2 H4 fun z H5 => ∃ kvs key, y = kV key ∧ H5 D = some (.dK kvs) ∧ kvs.length < sizeLine ∧ Nx (upd H5 D (.dK (putK kvs key z))) else Nx H3) := by
  refine dcG Y (fun k kvs H => Same H1 H ∧ kvs = kT (((us.take k).filter p).map fun u => (kf u, vf u))) (fun k acc H h _ => hG H h.1) ⟨same_new hD1, rfl⟩ (fun k kvs H x hI hD hx hacc hk' => ?_) (by rw [List.length_map]; exact hl) (fun acc H hI hD _ => ?_)
  · obtain ⟨sm, ea⟩ := hI
    rw [List.getElem?_map] at hx
    cases hu : us[k]? with
    | none => rw [hu] at hx; cases hx
    | some u =>
      rw [hu] at hx
      cases hx
      have hm : u ∈ us := List.mem_of_getElem? hu
      have et : us.take (k + 1) = us.take k ++ [u] := by
        rw [List.take_add_one, hu]
        rfl
      refine hg H u sm hm _ ⟨hw u hm, ?_⟩
      refine ht H u sm hm _ (fun H3 s3 => ?_)
      by_cases hp : p u = true
      · rw [if_pos hp]
        refine hk H3 u (sm.trans s3) hm hp _ (fun H4 s4 => ?_)
        refine hv H4 u ((sm.trans s3).trans s4) hm hp _ (fun H5 s5 => ?_)
        have new : valV (((us.take k).filter p).map fun u => (kf u, vf u)) (kf u) = none := by
          cases c : valV (((us.take k).filter p).map fun u => (kf u, vf u)) (kf u) with
          | none => rfl
          | some z =>
            have m := valV_in c
            rw [List.map_map] at m
            have e : us.filter p = (us.take k).filter p ++ (u :: (us.drop (k + 1)).filter p) := by
              conv => lhs; rw [← List.take_append_drop (k + 1) us, et, List.filter_append, List.filter_append, List.filter_cons, hp]
              simp
            rw [e, List.map_append] at nd
            have := (List.nodup_append.mp nd).2.2 (kf u) m (kf u) List.mem_cons_self
            exact absurd rfl this
        refine dc_take (key := .inr (kf u)) (s5 _ _ (s4 _ _ (s3 _ _ hD))) hacc hk' ⟨same_mut (((sm.trans s3).trans s4).trans s5) hD1, ?_⟩
        rw [ea, putK_kT, putK_new _ new, et, List.filter_append, List.map_append, List.filter_cons, hp]
        rfl
      · rw [if_neg hp]
        refine dc_skip (s3 _ _ hD) hacc ⟨sm.trans s3, ?_⟩
        rw [et, List.filter_append, List.map_append, List.filter_cons, if_neg hp]
        simp [ea]
  · obtain ⟨sm, ea⟩ := hI
    rw [List.length_map, List.take_length] at ea
    rw [ea] at hD
    exact hd H sm hD
end
theorem val_keys (f : Str → V) (z : Str) : ∀ ys : List Str, valV (ys.map fun x => (x, f x)) z = if z ∈ ys then some (f z) else none
  | [] => rfl
  | y :: r => by
    show valV ((y, f y) :: r.map fun x => (x, f x)) z = _
    by_cases h : y = z
    · rw [valV_pos h, if_pos (by rw [h]; exact List.mem_cons_self), h]
    · rw [valV_neg h, val_keys f z r]
      by_cases m : z ∈ r
      · rw [if_pos m, if_pos (List.mem_cons_of_mem _ m)]
      · rw [if_neg m, if_neg (fun k => (List.mem_cons.mp k).elim (fun e => h e.symm) m)]
/-- the rows of a table in order -/
def SortOf (t u : Tab) : Prop := sortedS (u.map (·.1)) = true ∧ (u.map (·.1)).Perm (t.map (·.1)) ∧ ∀ x, valV u x = valV t x
theorem sortOf_keys {t : Tab} {ys : List Str} (hp : ys.Perm (t.map (·.1))) (hs : sortedS ys = true) : SortOf t (ys.map fun x => (x, (valV t x).getD .non)) := by
  have e : (ys.map fun x => (x, (valV t x).getD .non)).map (·.1) = ys := by
    rw [List.map_map]
    exact List.map_id' ys
  refine ⟨by rw [e]; exact hs, by rw [e]; exact hp, fun z => ?_⟩
  rw [val_keys (fun x => (valV t x).getD .non)]
  cases c : valV t z with
  | none => rw [if_neg (fun m => by have := mem_val.mp (hp.mem_iff.mp m); rw [c] at this; cases this)]
  | some v => rw [if_pos (hp.mem_iff.mpr (mem_val.mpr (by rw [c]; rfl)))]; rfl
theorem SortOf.nd {t u : Tab} (h : SortOf t u) (n : Nd t) : Nd u := h.2.1.nodup_iff.mpr n
theorem SortOf.len {t u : Tab} (h : SortOf t u) : u.length = t.length := by
  have := h.2.1.length_eq
  rw [List.length_map, List.length_map] at this
  exact this
def rowL (e : Str × V) : List V := [.str e.1, e.2]
/-! ### moves -/
def moveL (m : Str × V × V) : List V := [.str m.1, m.2.1, m.2.2]
def newsT (ms : List (Str × V × V)) : Tab := ms.map fun m => (m.1, m.2.2)
def notNon : V → Bool
  | .non => false
  | _ => true
def keptT (t n : Tab) : Tab := t.filter fun p => (valV n p.1).isNone
def madeT (n : Tab) : Tab := n.filter fun p => notNon p.2
def afterT (t : Tab) (ms : List (Str × V × V)) : Tab := keptT t (newsT ms) ++ madeT (newsT ms)
theorem zip_ms {α : Type} {as : List Addr} {ms : List α} (e : as.length = ms.length) : (as.zip ms).map (fun u => V.ref u.1) = as.map V.ref := by
  have : (fun u : Addr × α => V.ref u.1) = V.ref ∘ Prod.fst := rfl
  rw [this, ← List.map_map, List.map_fst_zip (by omega)]
theorem tups_get {α : Type} {H : Hp} {as : List Addr} {ms : List α} {f : α → List V} (tp : Tups H as (ms.map f)) {u : Addr × α} (h : u ∈ as.zip ms) : H u.1 = some (.tup (f u.2)) := by
  obtain ⟨i, hi⟩ := List.mem_iff_getElem?.mp h
  rw [List.getElem?_zip_eq_some] at hi
  refine tp.2 i _ _ hi.1 ?_
  rw [List.getElem?_map, hi.2]
  rfl
theorem ne_of_none' {H : Hp} {D a : Addr} {o : HO} (h : H D = none) (k : H a = some o) : D ≠ a := (ne_of_none k h).symm
theorem same_unlock {H H2 : Hp} {d : Addr} {od : Obj} {u : HO} (s : Same (upd H d (.frz od u)) H2) (h : H d = some u) : Same H (upd H2 d u) := fun b o e => by
  by_cases hb : b = d
  · rw [hb, upd_same, ← h, ← hb, e]
  · rw [upd_ne hb]
    exact s _ _ (by rw [upd_ne hb]; exact e)
theorem lock_ne {H : Hp} {d D : Addr} {o : HO} (h : upd H d o D = none) : D ≠ d := fun z => by
  rw [z, upd_same] at h
  cases h
theorem lock_free {H : Hp} {d D : Addr} {o : HO} (h : upd H d o D = none) : H D = none := by
  have n := lock_ne h
  rw [upd_ne n] at h
  exact h
/-- a walk over a locked table -/
theorem yields_tab {d : Addr} {o : Obj} {t : Tab} : Yields (Itk d o (kT t)) (t.map fun e => V.str e.1) (fun H => H d = some (.frz o (.dK (kT t)))) := by
  have : (t.map fun e => V.str e.1) = (kT t).map fun p => kV p.1 := by
    unfold kT
    rw [List.map_map]
    rfl
  rw [this]
  exact yields_keys
theorem yields_zip {α : Type} {K : PySem.W.Frag} {a : Addr} {as : List Addr} {ms : List α} (e : as.length = ms.length) : Yields (Itt K a) ((as.zip ms).map fun u => V.ref u.1) (fun H => SqT K H a (as.map V.ref)) := by
  rw [zip_ms e]
  exact yields_tup
theorem nd_filter {t : Tab} (h : Nd t) (p : Str × V → Bool) : Nd (t.filter p) := List.Nodup.sublist ((List.filter_sublist).map _) h
theorem nd_news {ms : List (Str × V × V)} (h : (ms.map (·.1)).Nodup) : Nd (newsT ms) := by
  unfold Nd newsT
  rw [List.map_map]
  exact h
theorem nd_after {t : Tab} {ms : List (Str × V × V)} (h : Nd t) (k : (ms.map (·.1)).Nodup) : Nd (afterT t ms) := by
  unfold Nd afterT
  rw [List.map_append]
  refine List.nodup_append.mpr ⟨nd_filter h _, nd_filter (nd_news k) _, fun x hx y hy e => ?_⟩
  obtain ⟨p, hp, rfl⟩ := List.mem_map.mp hx
  obtain ⟨q, hq, rfl⟩ := List.mem_map.mp hy
  have h1 := (List.mem_filter.mp hp).2
  have h2 := val_nodup (nd_news k) q (List.mem_filter.mp hq).1
  rw [e, h2] at h1
  cases h1
theorem len_after {t : Tab} {ms : List (Str × V × V)} : (afterT t ms).length ≤ t.length + ms.length := by
  unfold afterT
  rw [List.length_append]
  have h1 := List.length_filter_le (fun p : Str × V => (valV (newsT ms) p.1).isNone) t
  have h2 := List.length_filter_le (fun p : Str × V => notNon p.2) (newsT ms)
  have h3 : (newsT ms).length = ms.length := List.length_map ..
  unfold keptT madeT
  omega
theorem val_app {t u : Tab} (x : Str) : valV (t ++ u) x = (valV t x).or (valV u x) := by
  induction t with
  | nil => rfl
  | cons p r ih =>
    by_cases h : p.1 = x
    · rw [List.cons_append, valV_pos h, valV_pos h]
      rfl
    · rw [List.cons_append, valV_neg h, valV_neg h, ih]
theorem merge_kT : ∀ {t u : Tab}, Nd (t ++ u) → mergeK (kT t) (kT u) = kT (t ++ u)
  | t, [], _ => by rw [List.append_nil]; rfl
  | t, p :: r, h => by
    have e : t ++ p :: r = (t ++ [p]) ++ r := by rw [List.append_assoc]; rfl
    have new : valV t p.1 = none := by
      cases c : valV t p.1 with
      | none => rfl
      | some v =>
        have h : ((t ++ p :: r).map (·.1)).Nodup := h
        rw [List.map_append] at h
        exact absurd rfl ((List.nodup_append.mp h).2.2 _ (valV_in c) p.1 List.mem_cons_self)
    show mergeK (putK (kT t) (.inr p.1) p.2) (kT r) = _
    rw [putK_kT, putK_new _ new, e]
    rw [e] at h
    exact merge_kT h
/-- what a table holds behind moves -/
theorem val_filter {t : Tab} (h : Nd t) (p : Str × V → Bool) (x : Str) : valV (t.filter p) x = (valV t x).bind fun v => if p (x, v) = true then some v else none := by
  induction t with
  | nil => rfl
  | cons q r ih =>
    obtain ⟨h1, h2⟩ := List.nodup_cons.mp (show ((q :: r).map (·.1)).Nodup from h)
    have ih := ih h2
    have nr : q.1 = x → valV r x = none := fun e => by
      cases c : valV r x with
      | none => rfl
      | some v => exact absurd (show q.1 ∈ r.map (·.1) by rw [e]; exact valV_in c) h1
    rw [List.filter_cons]
    by_cases e : q.1 = x
    · rw [valV_pos e]
      have eq : q = (x, q.2) := by rw [← e]
      by_cases hp : p q = true
      · rw [if_pos hp, valV_pos e]
        show some q.2 = if p (x, q.2) = true then some q.2 else none
        rw [← eq, if_pos hp]
      · rw [if_neg hp, ih, nr e]
        show none = if p (x, q.2) = true then some q.2 else none
        rw [← eq, if_neg hp]
    · rw [valV_neg e]
      by_cases hp : p q = true
      · rw [if_pos hp, valV_neg e, ih]
      · rw [if_neg hp, ih]
theorem val_after {t : Tab} {ms : List (Str × V × V)} (h : Nd t) (k : (ms.map (·.1)).Nodup) (x : Str) : valV (afterT t ms) x = match valV (newsT ms) x with
    | none => valV t x
    | some v => if notNon v = true then some v else none := by
  unfold afterT keptT madeT
  rw [val_app, val_filter h, val_filter (nd_news k)]
  cases c : valV (newsT ms) x with
  | none =>
    cases d : valV t x with
    | none => rfl
    | some v => simp [c]
  | some v =>
    cases d : valV t x with
    | none => simp
    | some w => simp [c]
/-! ### logs -/
/-- the table tells the logs: tuples of entries -/
def LogsOk (H : Hp) (t : Tab) (L : Str → List (List V)) : Prop := ∀ x, (valV t x = none ∧ L x = []) ∨ ∃ p, (L x ≠ [] ∧ valV t x = some (.ref p)) ∧ TupsAt H p (L x)
def logPut (L : Str → List (List V)) (x : Str) (e : List V) : Str → List (List V) := fun y => if y = x then L y ++ [e] else L y
def logMoves (L : Str → List (List V)) (note : List V) (ms : List (Str × V × V)) : Str → List (List V) := ms.foldl (fun L m => logPut L m.1 ([m.2.1, m.2.2] ++ note)) L
theorem LogsOk.keep {H H' : Hp} {t : Tab} {L : Str → List (List V)} (h : LogsOk H t L) (k : TupKeep H H') : LogsOk H' t L := fun x => (h x).imp id fun ⟨p, a, b⟩ => ⟨p, a, b.keep k⟩
theorem LogsOk.of {H : Hp} {t u : Tab} {L : Str → List (List V)} (h : LogsOk H t L) (e : ∀ x, valV u x = valV t x) : LogsOk H u L := fun x => by
  rw [e]
  exact h x
theorem LogsOk.put {H : Hp} {t : Tab} {L : Str → List (List V)} (h : LogsOk H t L) {x : Str} {p : Addr} {e : List V} (tp : TupsAt H p (L x ++ [e])) : LogsOk H (putK t x (.ref p)) (logPut L x e) := fun y => by
  unfold logPut
  rw [valV_put]
  by_cases c : y = x
  · rw [if_pos c, if_pos c, c]
    exact .inr ⟨p, ⟨List.append_ne_nil_of_right_ne_nil _ (fun z => nomatch z), rfl⟩, tp⟩
  · rw [if_neg c, if_neg c]
    exact h y
theorem len_put (t : Tab) (x : Str) (v : V) : (putK t x v).length ≤ t.length + 1 := length_putK t x v
theorem logMoves_take {L : Str → List (List V)} {note : List V} {ms : List (Str × V × V)} {i : Nat} {m : Str × V × V} (h : ms[i]? = some m) : logMoves L note (ms.take (i + 1)) = logPut (logMoves L note (ms.take i)) m.1 ([m.2.1, m.2.2] ++ note) := by
  unfold logMoves
  rw [List.take_add_one, h, List.foldl_append]
  rfl
theorem catA {K : PySem.W.Frag} {H : Hp} {a b : Addr} {xs ys : List V} {Q : VK} (ha : SqT K H a xs) (hb : H b = some (.tup ys)) (ny : ys ≠ []) (hz : xs.length + ys.length ≤ 1000000) (q : ∀ p H', Same H H' → H' p = some (.tup (xs ++ ys)) → Q (.ref p) H') : rCatA K (.ref a) (.ref b) H Q :=
  ⟨a, b, xs, ys, rfl, rfl, ha, SqT.of hb, small_line hz, fun e => q b H (Same.refl H) (by rw [e]; exact hb), fun _ e => absurd e ny, fun _ _ p hp => q p _ (same_new hp) upd_same⟩
/-- an entry is put behind the log of a name -/
theorem log_step {K : PySem.W.Frag} {H : Hp} {D2 nt : Addr} {lt : Tab} {L : Str → List (List V)} {x : Str} {v1 v2 n1 n2 n3 : V} {tk t1 t2 td tn : TE} {D : Ends} {σ : L2.St} (hD : H D2 = some (.dK (kT lt))) (lk : LogsOk H lt L) (hnt : H nt = some (.tup [n1, n2, n3]))
    (b : (L x).length ≤ 100000) (hl : lt.length ≤ 1000) (ek : ∀ H' Q, Q (.str x) H' → tk σ H' Q) (e1 : ∀ H' Q, Q v1 H' → t1 σ H' Q) (e2 : ∀ H' Q, Q v2 H' → t2 σ H' Q) (ed : ∀ H' Q, Q (.ref D2) H' → td σ H' Q) (en : ∀ H' Q, Q (.ref nt) H' → tn σ H' Q)
    (q : ∀ H' p, FrL [D2] H H' → TupKeep H H' → H' D2 = some (.dK (kT (putK lt x (.ref p)))) → LogsOk H' (putK lt x (.ref p)) (logPut L x ([v1, v2] ++ [n1, n2, n3])) → D.nx σ H') :
    sDPut td tk (tOp (rCatA K) (tDGet2 td tk (tTup tNil)) (tTup (tCons (tOp (rCatA K) (tTup (tCons t1 (tCons t2 tNil))) tn) tNil))) D σ H := by
  refine ed _ _ ⟨D2, rfl, .inl ⟨_, .inl hD⟩, ek _ _ ⟨Nat.zero_le _, fun pe hpe => ⟨valV lt x, ?_, ?_⟩⟩⟩
  · exact dget_kT (.inl (by rw [upd_ne (ne_of_none hD hpe)]; exact hD)) x
  · have s0 : Same H (upd H pe (.tup [])) := same_new hpe
    have p0 : (upd H pe (.tup [])) pe = some (.tup []) := upd_same
    generalize upd H pe (.tup []) = H0 at s0 p0
    obtain ⟨a, as, ea, ha, ta⟩ : ∃ (a : Addr) (as : List Addr), (valV lt x).getD (.ref pe) = .ref a ∧ H0 a = some (.tup (as.map V.ref)) ∧ Tups H0 as (L x) := by
      rcases lk x with ⟨e, l⟩ | ⟨p, ⟨_, e⟩, as, h, t⟩
      · exact ⟨pe, [], by rw [e]; rfl, p0, by rw [l]; exact Tups.nil⟩
      · exact ⟨p, as, by rw [e]; rfl, s0 _ _ h, t.keep (TupKeep.of s0)⟩
    rw [ea]
    have la : as.length ≤ 100000 := by rw [ta.1]; exact b
    refine e1 _ _ (e2 _ _ ⟨(by show 2 ≤ sizeLine; decide), fun p2 hp2 => en _ _ ?_⟩)
    refine catA (SqT.of upd_same) ((same_new hp2) _ _ (s0 _ _ hnt)) (fun z => nomatch z) (by show 2 + 3 ≤ _; decide) fun p3 H3 s3 h3 => ?_
    refine ⟨(by show 1 ≤ sizeLine; decide), fun p4 hp4 => ?_⟩
    have s04 : Same H0 (upd H3 p4 (.tup [V.ref p3])) := ((same_new hp2).trans s3).trans (same_new hp4)
    have h3' : (upd H3 p4 (.tup [V.ref p3])) p3 = some (.tup ([v1, v2] ++ [n1, n2, n3])) := (same_new hp4) _ _ h3
    have h4' : (upd H3 p4 (.tup [V.ref p3])) p4 = some (.tup [V.ref p3]) := upd_same
    generalize upd H3 p4 (.tup [V.ref p3]) = H4 at s04 h3' h4'
    refine catA (SqT.of (s04 _ _ ha)) h4' (fun z => nomatch z) (by rw [List.length_map]; show _ + 1 ≤ _; omega) fun p5 H5 s5 h5 => ?_
    have s05 := (s0.trans s04).trans s5
    have hD5 := s05 _ _ hD
    refine ed _ _ (ek _ _ ⟨D2, _, rfl, .inl ⟨kT lt, .inr x, hD5, rfl, small_lt (by rw [len_kT]; omega), rfl⟩, ?_⟩)
    rw [putK_kT]
    have kp : TupKeep H5 (upd H5 D2 (.dK (kT (putK lt x (.ref p5))))) := TupKeep.at fun xs z => by rw [hD5] at z; cases z
    have kp2 : TupKeep H (upd H5 D2 (.dK (kT (putK lt x (.ref p5))))) := (TupKeep.of s05).trans kp
    refine q _ p5 ((FrL.same s05).trans (FrL.at (List.mem_singleton_self D2))) kp2 upd_same ?_
    refine (lk.keep kp2).put ⟨as ++ [p3], ?_, ?_⟩
    · refine kp _ _ ?_
      rw [h5, List.map_append]
      rfl
    · exact ((ta.keep (TupKeep.of (s04.trans s5))).snoc (s5 _ _ h3')).keep kp
theorem logMoves_len (L : Str → List (List V)) (note : List V) (x : Str) : ∀ ms : List (Str × V × V), (logMoves L note ms x).length ≤ (L x).length + ms.length := by
  intro ms
  induction ms generalizing L with
  | nil => exact Nat.le_refl _
  | cons m r ih =>
    have := ih (logPut L m.1 ([m.2.1, m.2.2] ++ note))
    have e : (logPut L m.1 ([m.2.1, m.2.2] ++ note) x).length ≤ (L x).length + 1 := by
      unfold logPut
      split
      · rw [List.length_append]
        exact Nat.le_refl _
      · omega
    show (logMoves (logPut L m.1 ([m.2.1, m.2.2] ++ note)) note r x).length ≤ _
    rw [List.length_cons]
    omega
theorem dp_head {K : PySem.W.Frag} {H : Hp} {p : Addr} {a b : Str} (h : TupK K H p [.str a, .str b]) : Dp K H (.ref p) (.tuple [.str a, .str b]) := .tup h.sq (.cons (.str a) (.cons (.str b) .nil))
theorem shaped_head {a b : Str} (ha : OkS a) (hb : OkS b) : SeqAt.shaped (.tuple [.str a, .str b]) = true := by
  simp [SeqAt.shaped, PyData.canLay0, PyData.canLayAll0, strOk_of ha, strOk_of hb, PyData.depth, PyData.depthAll]
theorem eqv_head (a b c d : Str) : PyData.eqv (.tuple [.str a, .str b]) (.tuple [.str c, .str d]) = decide ((c, d) = (a, b)) := by
  simp only [PyData.eqv, PyData.eqvAll]
  rw [Bool.eq_iff_iff]
  simp only [Bool.and_eq_true, beq_iff_eq, decide_eq_true_eq, Prod.mk.injEq, and_true]
  exact ⟨fun ⟨x, y⟩ => ⟨x.symm, y.symm⟩, fun ⟨x, y⟩ => ⟨x.symm, y.symm⟩⟩
def flatN : V → Prop
  | .non => True
  | .str _ => True
  | _ => False
theorem scal_flat {x y : V} (hx : flatN x) (hy : flatN y) : scal x y = true := by
  cases x <;> cases y <;> first | rfl | exact hx.elim | exact hy.elim
def ledF (t : Tab) (x n : Str) : V := if x = "id" then .str n else (valV t n).getD .non
theorem flat_val {t : Tab} (h : ∀ e ∈ t, flatN e.2) (x : Str) : flatN ((valV t x).getD .non) := by
  induction t with
  | nil => exact True.intro
  | cons p r ih =>
    by_cases e : p.1 = x
    · rw [valV_pos e]
      exact h p List.mem_cons_self
    · rw [valV_neg e]
      exact ih fun q hq => h q (List.mem_cons_of_mem _ hq)
theorem flat_led {t : Tab} (h : ∀ e ∈ t, flatN e.2) (x n : Str) : flatN (ledF t x n) := by
  unfold ledF
  split
  · exact True.intro
  · exact flat_val h n
theorem flat_after {t : Tab} {ms : List (Str × V × V)} (h : ∀ e ∈ t, flatN e.2) (k : ∀ m ∈ ms, flatN m.2.2) : ∀ e ∈ afterT t ms, flatN e.2 := fun e he => by
  rcases List.mem_append.mp he with he | he
  · exact h e (List.mem_filter.mp he).1
  · obtain ⟨m, hm, rfl⟩ := List.mem_map.mp (List.mem_filter.mp he).1
    exact k m hm
end Fk

set_option maxHeartbeats 4000000
/-! What stands where references and edits are. -/
namespace Fk
open PySem PySem.Spec PyProof.Rows L2
/-- the fields of references -/
def rf (lk tb hd lg : Addr) : List (Str × V) := [("_locks", .ref lk), ("_table", .ref tb), ("_head", .ref hd), ("_logs", .ref lg)]
/-- the fields of an edit -/
def ef (R nt cl : Addr) (nh : V) (b : Bool) : List (Str × V) := [("_refs", .ref R), ("_note", .ref nt), ("_calls", .ref cl), ("_new_head", nh), ("closed", .bl b)]
/-- the calls of an edit: names, what they shall have, what they had -/
def CallsAt (H : Hp) (cl : Addr) (cs : List (Str × V × V)) : Prop := ∃ zs : List (Addr × (Str × V × V)), zs.map (·.2) = cs ∧ H cl = some (.dK (kT (zs.map fun z => (z.2.1, .ref z.1)))) ∧ ∀ z ∈ zs, H z.1 = some (.tup [z.2.2.1, z.2.2.2])
/-- the locks: those of closed edits and those of the edit at E -/
def LocksAt (H : Hp) (CE lk E : Addr) (n : Nat) : Prop := ∃ kt : Tab, H lk = some (.dK (kT kt)) ∧ Nd kt ∧ kt.length ≤ 64 ∧ (kt.filter fun p => decide (p.2 = .ref E)).length ≤ n ∧ ∀ p ∈ kt, p.2 = .ref E ∨ ∃ e dx fs, p.2 = .ref e ∧ H e = some (.ins CE dx fs) ∧ fs.lookup ("closed" : Str) = some (.bl true)
theorem mem_putK {t : Tab} {x : Str} {v : V} {p : Str × V} (h : p ∈ putK t x v) : p ∈ t ∨ p.2 = v := by
  unfold putK at h
  split at h
  · obtain ⟨q, hq, e⟩ := List.mem_map.mp h
    by_cases c : q.1 = x
    · rw [if_pos c] at e
      exact .inr (by rw [← e])
    · rw [if_neg c] at e
      exact .inl (by rw [← e]; exact hq)
  · rcases List.mem_append.mp h with h | h
    · exact .inl h
    · exact .inr (by rw [List.mem_singleton.mp h])
theorem LocksAt.keep {H H' : Hp} {CE lk E : Addr} {n : Nat} (h : LocksAt H CE lk E n) (e : ∀ o, H lk = some o → H' lk = some o) (k : ∀ a dx fs, H a = some (.ins CE dx fs) → fs.lookup ("closed" : Str) = some (.bl true) → H' a = some (.ins CE dx fs)) : LocksAt H' CE lk E n := by
  obtain ⟨kt, a, b, c, c', d⟩ := h
  exact ⟨kt, e _ a, b, c, c', fun p hp => (d p hp).imp id fun ⟨x, dx, fs, h1, h2, h3⟩ => ⟨x, dx, fs, h1, k _ _ _ h2 h3, h3⟩⟩
theorem LocksAt.same {H H' : Hp} {CE lk E : Addr} {n : Nat} (h : LocksAt H CE lk E n) (s : Same H H') : LocksAt H' CE lk E n := h.keep (fun o e => s _ _ e) fun _ _ _ e _ => s _ _ e
theorem FrL.out {L : List Addr} {H H' : Hp} (f : FrL L H H') {b : Addr} {o : HO} (e : H b = some o) (n : ∀ a ∈ L, b ≠ a) : H' b = some o := f b o (fun z => n b z rfl) e
theorem not1 {a b : Addr} (h : b ≠ a) : ∀ c ∈ [a], b ≠ c := fun c hc => by rw [List.mem_singleton.mp hc]; exact h
theorem not2 {a c b : Addr} (h : b ≠ a) (k : b ≠ c) : ∀ d ∈ [a, c], b ≠ d := fun d hd => by
  rcases List.mem_cons.mp hd with e | hd
  · rw [e]; exact h
  · rw [List.mem_singleton.mp hd]; exact k
theorem at_ne {H : Hp} {a b : Addr} {o u : HO} (h : H a = some o) (k : H b = some u) (n : o ≠ u) : a ≠ b := fun z => by
  rw [z, k] at h
  exact n (Option.some.inj h).symm
/-- what an edit has behind a call -/
def callPut (cs : List (Str × V × V)) (x : Str) (v o : V) : List (Str × V × V) := cs.filter (fun c => decide (c.1 ≠ x)) ++ [(x, v, o)]
theorem CallsAt.keep {H H' : Hp} {cl : Addr} {cs : List (Str × V × V)} (h : CallsAt H cl cs) (k : TupKeep H H') (e : ∀ o, H cl = some o → H' cl = some o) : CallsAt H' cl cs := by
  obtain ⟨zs, a, b, c⟩ := h
  exact ⟨zs, a, e _ b, fun z hz => k _ _ (c z hz)⟩
theorem calls_drop (zs : List (Addr × (Str × V × V))) (x : Str) : dropK (zs.map fun z => (z.2.1, V.ref z.1)) x = (zs.filter fun z => decide (z.2.1 ≠ x)).map fun z => (z.2.1, V.ref z.1) := by
  unfold dropK
  rw [List.filter_map]
  rfl
theorem calls_put {H : Hp} {cl p : Addr} {zs : List (Addr × (Str × V × V))} {x : Str} {v o : V} (hc : H cl = some (.dK (kT (putK (dropK (zs.map fun z => (z.2.1, V.ref z.1)) x) x (.ref p))))) (hz : ∀ z ∈ zs, H z.1 = some (.tup [z.2.2.1, z.2.2.2])) (hp : H p = some (.tup [v, o])) :
    CallsAt H cl (callPut (zs.map (·.2)) x v o) := by
  refine ⟨zs.filter (fun z => decide (z.2.1 ≠ x)) ++ [(p, x, v, o)], ?_, ?_, fun z h => ?_⟩
  · unfold callPut
    rw [List.map_append, List.filter_map]
    rfl
  · rw [hc, calls_drop, putK_new]
    · rw [List.map_append]
      rfl
    · rw [← calls_drop, valV_drop, if_pos rfl]
  · rcases List.mem_append.mp h with h | h
    · exact hz z (List.mem_filter.mp h).1
    · rw [List.mem_singleton.mp h]
      exact hp
/-! ### errors that are raised -/
def spErr (K : PySem.W.Frag) (f : Str) : Sp := fun vs H Q _ => ∃ (a C fI : Addr) (y : V), vs = [.ref a, y] ∧ XC K C fI ∧ PySem.W.findIn K (.ref C) f = some none ∧ H a = some (exo a C none) ∧
  ∀ dx, H dx = none → dx ≠ a → Q .non (upd (upd H dx (exd dx [(f, y)])) a (exo a C (some dx)))
structure ErrC (K : PySem.W.Frag) (mg : Str → Option Value) (nm f : Str) (C fI : Addr) : Prop where
  mgc : mg nm = some (.ref C)
  ox : OexC K C
  xc : XC K C fI
  nf : PySem.W.findIn K (.ref C) f = some none
  ini : ∃ fd, (∀ (P : Program) (w : World) (base : Heap), FnOk P w K mg base C8.CX0 1 fI fd ["self", f] (spErr K f)) ∧ Binds K fd ["self", f] []
section
variable {X : Cx} {nm f : Str} {C fI : Addr} {e : Expr} {es : List Expr} {t : TA} {p pos : Pos}
theorem rs_of (T : ErrC X.K X.mg nm f C fI) (hr : Room 2 X.A) (hg : Gl X nm) (ha : PA X (e :: es) t) (hdb : (nm == ("__debug__" : Str)) = false := by decide)
    (he : starEach (e :: es) X.env = (false, eval e X.env) :: starEach es X.env := by rfl) (hpl : (backTo pos (starEach es X.env)).any (·.1) = false := by rfl) :
    PMk X (.Call (.Name nm p) (e :: es) [] pos) (tMkO C (spErr X.K f) [] t) := by
  obtain ⟨fd, F, b⟩ := T.ini
  exact pmk_oex T.ox T.xc.iC T.xc.tI (F _ _ _) hr b .nil C8.pass0 hg T.mgc ha hdb he hpl
end
/-- an error made to be raised -/
theorem do_raise {K : PySem.W.Frag} {mg : Str → Option Value} {nm f : Str} {C fI : Addr} (T : ErrC K mg nm f C fI) {Hc : Hp} {y : V} {Q : XK} (q : ∀ d H', Same Hc H' → Hc d = none → H' d = some (.xd [(f, y)]) → Q (.ref C) (some d) H') :
    ∀ a, Hc a = none → spErr K f (.ref a :: ([y] ++ [])) (upd Hc a (exo a C none)) (fun v H2 => v = .non ∧ ∃ (d : Addr) (fs : List (Str × V)), H2 a = some (exo a C (some d)) ∧ H2 d = some (exd d fs) ∧ Hc d = none ∧ Q (.ref C) (some d) (upd (del H2 a) d (.xd fs))) (fun _ _ _ => False) := by
  intro a na
  refine ⟨a, C, fI, y, rfl, T.xc, T.nf, upd_same, fun dx nd ne => ⟨rfl, dx, [(f, y)], upd_same, by rw [upd_ne ne]; exact upd_same, ?_, ?_⟩⟩
  · rw [upd_ne ne] at nd
    exact nd
  · have nd' : Hc dx = none := by rw [upd_ne ne] at nd; exact nd
    refine q dx _ (fun b o e => ?_) nd' upd_same
    have n1 : b ≠ a := ne_of_none e na
    have n2 : b ≠ dx := ne_of_none e nd'
    rw [upd_ne n2]
    unfold del
    rw [if_neg n1, upd_ne n1, upd_ne n2, upd_ne n1]
    exact e
/-! ### what an edit moves -/
def bad (t : Tab) (c : Str × V × V) : Bool := !decide (c.2.2 = .str "") && !decide (c.2.2 = (valV t c.1).getD .non)
def staleF (t : Tab) (cs : List (Str × V × V)) : Option Str := (cs.find? (bad t)).map (·.1)
def newT (cs : List (Str × V × V)) : Tab := cs.map fun c => (c.1, c.2.1)
def rowsF (t : Tab) (cs : List (Str × V × V)) (ys : List Str) : List (Str × V × V) := ys.map fun x => (x, (valV t x).getD .non, (valV (newT cs) x).getD .non)
def movesF (t : Tab) (cs : List (Str × V × V)) (ys : List Str) : List (Str × V × V) := (rowsF t cs ys).filter fun m => !decide (m.2.1 = m.2.2)
theorem stale_at {t : Tab} {cs : List (Str × V × V)} {i : Nat} {c : Str × V × V} (h : cs[i]? = some c) (g : ∀ d ∈ cs.take i, bad t d = false) (b : bad t c = true) : staleF t cs = some c.1 := by
  have e : cs = cs.take i ++ c :: cs.drop (i + 1) := by
    have hi := (List.getElem?_eq_some_iff.mp h)
    obtain ⟨hi, hc⟩ := hi
    rw [← hc, List.getElem_cons_drop, List.take_append_drop]
  unfold staleF
  rw [e, List.find?_append]
  have n : (cs.take i).find? (bad t) = none := List.find?_eq_none.mpr fun d hd z => by rw [g d hd] at z; cases z
  rw [n, List.find?_cons, b]
  rfl
theorem stale_none {t : Tab} {cs : List (Str × V × V)} (g : ∀ d ∈ cs, bad t d = false) : staleF t cs = none := by
  unfold staleF
  rw [List.find?_eq_none.mpr fun d hd z => by rw [g d hd] at z; cases z]
  rfl
theorem movesF_nd {t : Tab} {cs : List (Str × V × V)} {ys : List Str} (h : ys.Nodup) : ((movesF t cs ys).map (·.1)).Nodup := by
  refine List.Nodup.sublist ((List.filter_sublist).map _) ?_
  unfold rowsF
  rw [List.map_map]
  have : ((fun x : Str × V × V => x.1) ∘ fun x : Str => (x, (valV t x).getD V.non, (valV (newT cs) x).getD V.non)) = id := rfl
  rw [this, List.map_id]
  exact h
theorem movesF_len (t : Tab) (cs : List (Str × V × V)) (ys : List Str) : (movesF t cs ys).length ≤ ys.length := by
  have := List.length_filter_le (fun m : Str × V × V => !decide (m.2.1 = m.2.2)) (rowsF t cs ys)
  unfold rowsF at this
  rw [List.length_map] at this
  exact this
theorem flat_new {cs : List (Str × V × V)} (h : ∀ c ∈ cs, flatN c.2.1) : ∀ e ∈ newT cs, flatN e.2 := fun e he => by
  obtain ⟨c, hc, rfl⟩ := List.mem_map.mp he
  exact h c hc
theorem flat_moves {t : Tab} {cs : List (Str × V × V)} {ys : List Str} (ht : ∀ e ∈ t, flatN e.2) (h : ∀ c ∈ cs, flatN c.2.1) : ∀ m ∈ rowsF t cs ys, flatN m.2.1 ∧ flatN m.2.2 := fun m hm => by
  obtain ⟨x, _, rfl⟩ := List.mem_map.mp hm
  exact ⟨flat_val ht x, flat_val (flat_new h) x⟩
theorem have_after {t u : Tab} {ms : List (Str × V × V)} (nt : Nd t) (so : SortOf t u) (nm : (ms.map (·.1)).Nodup) : haveF ((afterT u ms).map (·.1)) = haveF ((afterT t ms).map (·.1)) :=
  have_perm (keys_perm (nd_after (so.nd nt) nm) (nd_after nt nm) fun x => by rw [val_after (so.nd nt) nm, val_after nt nm, so.2.2])
theorem yields_zipL {α : Type} {K : PySem.W.Frag} {a : Addr} {as : List Addr} {ms : List α} (e : as.length = ms.length) : Yields (Itl K a) ((as.zip ms).map fun u => V.ref u.1) (fun H => SqL K H a (as.map V.ref)) := by
  rw [zip_ms e]
  exact yields_list
end Fk

set_option maxHeartbeats 4000000
/-! x[y] of an own class. -/
namespace Fk
open PySem PySem.Spec PyProof.Rows L2
section
variable {P : Program} {w : World} {K : PySem.W.Frag} {mg : Str → Option Value} {base : Heap} {k : Nat} {C : Addr} {m : Str} {sp : Sp}
theorem ownM_of (M : C8.Met P w K mg base k C m sp []) : OwnM P w K mg base C8.CX0 k C m sp := by
  obtain ⟨f, fd, ps, ds, _, hm, F, b, d⟩ := M.ex
  cases d
  exact ⟨f, fd, ps, hm.at_, hm.fn, F, b⟩
/-- .. whose def is known as a def -/
structure GetM (P : Program) (w : World) (K : PySem.W.Frag) (mg : Str → Option Value) (base : Heap) (k : Nat) (C : Addr) (sp : Sp) : Prop where
  ex : ∃ (f : Addr) (fd : FuncData) (ps : List Str), PySem.W.findIn K (.ref C) "__getitem__" = some (some (.ref f)) ∧ PySem.W.isFn K (.ref f) = true ∧ PySem.W.fnIn K f = true ∧ FnOk P w K mg base C8.CX0 k f fd ps sp ∧ Binds K fd ps []
theorem getM_of {qual : Str} {st : Stmt} {N ps : List Str} (D : MDef K C "__getitem__" qual st) (S : FnScope N ps (C8.fnScope st))
    (hb : ∀ (kV doc pm : Value) (an : Option Addr) (cdv ct : Value) (us : List Value), us.length = ps.length → bindArgs (PySem.W.fnOf "__getitem__" qual (C8.fnArgs st) (C8.fnBody st) (C8.fnScope st) .none kV doc pm an cdv ct) ⟨us, []⟩ = pure (ps.zip us))
    (len : ∀ vs H Q E, sp vs H Q E → vs.length = ps.length)
    (hbody : ∀ (f : Addr) (cdv : Value) (A : Around) (outer : List Env) (s : Shared) (H : Hp) (vs : List V) (Q : VK) (E : XK), Room k (A.deeper (envOfC qual (C8.fnScope st) s.heap.objs.size f cdv)) → sp vs H Q E →
      ∃ t, PSs (cxOf C8.CX0 P w K mg base N qual (C8.fnScope st) f cdv A outer s H E).nox (C8.fnBody st) t ∧ t { nx := fun _ H' => Q .non H', rt := Q } (start N vs) H) : GetM P w K mg base (k + 1) C sp := by
  obtain ⟨f, fd, F, M, df⟩ := D.ex
  have G := C8.fn0 (P := P) (w := w) (mg := mg) (base := base) F S len (hbody f)
  have b := F.binds df hb
  obtain ⟨oc, od, dV, kV, doc, pm, an, cdv, ct, osl, rfl, lk, hcd⟩ := F.ex
  refine ⟨f, _, ps, M.at_, M.fn, ?_, G, b⟩
  unfold PySem.W.fnIn
  rw [lk]
end
section
variable {X : Cx} {k : Nat} {C : Addr} {sp : Sp} {o i : Expr} {td ty : TE} {pos : Pos}
def tOwnGet (C : Addr) (sp : Sp) (td ty : TE) : TE := fun σ H Q => td σ H fun x H1 => ty σ H1 fun y H2 => ∃ (a dx : Addr) (fs : List (Str × V)), x = .ref a ∧ H2 a = some (.ins C dx fs) ∧ sp [x, y] H2 Q C8.E0
theorem pe_ownGet (M : GetM X.prog X.w X.K X.mg X.base k C sp) (hr : Room (k + 1) X.A) (ho : PE X o td) (hi : PE X i ty)
    (hsl : ∀ x iv, subscripted i true (.ref x) iv = runValue (.builtin "lifetime.subscript" ⟨[.ref x, iv], []⟩) := by intro _ _; with_unfolding_all rfl) : PE X (.Subscript o i pos) (tOwnGet C sp td ty) := by
  refine ⟨fun pins s σ H Q I h => ?_⟩
  refine Subscript_ (thn (ho.run pins s σ H _ I h) fun v s1 ⟨x, H1, I1, rx, q1⟩ => thn (hi.run pins s1 σ H1 _ I1 q1) fun u s2 ⟨y, H2, I2, ry, a, dx, fs, ex, ha, q⟩ => ?_)
  subst ex
  obtain rfl : v = Value.ref a := rx
  obtain ⟨f, fd, ps, hs, hf, hfi, F, hb⟩ := M.ex
  obtain ⟨mA, J, _⟩ := ins_get I2.hok ha
  obtain ⟨od, J, _⟩ := J.look
  obtain ⟨m, hF⟩ := I2.fr
  exact PySem.W.sub_K hF I2.ok.mod.kin J hs hfi hf (run_in F hr.in1 I2.env0.in1 hb noEx0 I2 (show Vals [V.ref a, y] [Value.ref a, u] from .cons rfl (.cons ry .nil)) q) (hsl _ _)
end
end Fk

set_option maxHeartbeats 4000000
/-! xs[::-1] of a list, t[::-1] of a tuple. -/
namespace Fk
open PySem PySem.Spec PyProof.Rows L2 HT
theorem back_places (n : Nat) : Builtin.Slice.sliceAdjust none none (-1) (n : Int) = ((n : Int) - 1, -1) ∧ Builtin.Slice.slicePlaces ((n : Int) - 1) (-1) (-1) = n := by
  constructor
  · first | rfl | simp [Builtin.Slice.sliceAdjust]
  · unfold Builtin.Slice.slicePlaces
    rw [if_neg (by decide)]
    by_cases h : (n : Int) - 1 > -1
    · rw [if_pos h, show (- -1 : Int) = 1 by decide, Int.ediv_one]
      omega
    · rw [if_neg h]
      omega
theorem sliceApplied_back {prog : Program} {w : World} {A : Around} {E : Value → Shared → Prop} {s : Shared} {sl : Addr} {vk : Value} {n : Nat} {Q : Int × Int × Nat → Shared → Prop} (hs : s.heap.IsSliceOf sl .none .none vk) (pk : IsPart vk (some (-1)))
    (h : Q ((n : Int) - 1, -1, n) s) : wpAny (model prog w) A (Builtin.Slice.sliceApplied (.ref sl) (pure (n : Int))) Q E s := by
  obtain ⟨os, hos, hcs, hds⟩ := id hs
  unfold Builtin.Slice.sliceApplied Builtin.Slice.sliceFields
  refine wpAny_bind (wpAny_bind (wpAny_field hos hds (x := .none) rfl (wpAny_bind (wpAny_field hos hds (x := .none) rfl (wpAny_bind (wpAny_field hos hds (x := vk) rfl (wpAny_pure ?_)))))))
  refine wpAny_bind (slicePart_ pk ?_)
  show wpAny _ _ (if ((-1 : Int) == 0) = true then _ else _) _ _ s
  rw [if_neg (by decide)]
  refine wpAny_bind (slicePart_ .none (wpAny_bind (slicePart_ .none (wpAny_bind (wpAny_pure ?_)))))
  show wpAny _ _ (match Builtin.Slice.sliceAdjust none none (-1) (n : Int) with | (lo, hi) => pure (lo, (-1 : Int), Builtin.Slice.slicePlaces lo hi (-1))) _ _ s
  rw [(back_places n).1]
  show wpAny _ _ (pure ((n : Int) - 1, (-1 : Int), Builtin.Slice.slicePlaces ((n : Int) - 1) (-1) (-1))) _ _ s
  rw [(back_places n).2]
  exact wpAny_pure h
theorem fm_congr {α β : Type} {f g : α → Option β} : ∀ {l : List α}, (∀ x ∈ l, f x = g x) → l.filterMap f = l.filterMap g
  | [], _ => rfl
  | a :: r, h => by
    rw [List.filterMap_cons, List.filterMap_cons, h a List.mem_cons_self, fm_congr fun x hx => h x (List.mem_cons_of_mem _ hx)]
theorem pick_back (items : Array Value) : ((List.range items.size).filterMap fun (k : Nat) => items[((items.size : Int) - 1 + (k : Int) * (-1)).toNat]?) = items.toList.reverse := by
  have e : ((List.range items.size).filterMap fun (k : Nat) => items[((items.size : Int) - 1 + (k : Int) * (-1)).toNat]?) = ((List.range items.size).map fun k => items.size - 1 - k).filterMap (items[·]?) := by
    rw [List.filterMap_map]
    refine fm_congr fun k hk => ?_
    have := List.mem_range.mp hk
    show _ = items[items.size - 1 - k]?
    congr 1
    omega
  rw [e, PySem.W.krv_range, List.filterMap_reverse, PySem.W.krv_all]
theorem getItem_tuple_back {prog : Program} {w : World} {A : Around} {E : Value → Shared → Prop} {s : Shared} {t sl : Addr} {items : Array Value} {vk : Value} {Q : Value → Shared → Prop} (ht : IsTup s.heap t items) (hs : s.heap.IsSliceOf sl .none .none vk) (pk : IsPart vk (some (-1)))
    (h : Q (.ref s.heap.objs.size) { s with heap := s.heap.push { cls := .type "tuple", data := .seq items.toList.reverse.toArray } }) (hsz : items.size ≤ sizeLine) : wpAny (model prog w) A (getItem (.ref t) (.ref sl)) Q E s := by
  have htake : sizeOk (.seq items.toList.reverse.toArray) := by
    show items.toList.reverse.toArray.size ≤ sizeLine
    rw [List.size_toArray, List.length_reverse, Array.length_toList]
    exact hsz
  obtain ⟨os, hos, hcs, hds⟩ := id hs
  have hTs : s.TypeIs (.ref sl) "slice" := ⟨os, hos, hcs⟩
  unfold getItem
  try with_reducible refine wpAny_holding ?_
  first | refine wpAny_bind (wpAny_pure ?_) | skip
  refine wpAny_bind (wpAny_sequenceKey ht.typeIs (by decide) ?_)
  refine wpAny_bind (wpAny_callSpecial?_slot (name := Str.ofString "__getitem__") ht.typeIs PyProof.Rows.slot_tuple_getitem
    (wpAny_call_entry PyProof.Rows.slot_tuple_getitem ht.typeIs entry_tuple_getitem ?_ (args_tuple_getitem _ _)))
  show wpAny _ _ (Builtin.Tuple.tupleItemsOf (.ref t) >>= _) _ _ s
  refine wpAny_bind (tupleItemsOf_ ht ?_)
  refine wpAny_bind (wpAny_typeOf hTs ?_)
  rw [if_pos (by decide)]
  refine wpAny_bind (sliceApplied_back hs pk ?_)
  have hno : ¬ ((((items.size : Int) - 1) == 0 && (-1 : Int) == 1 && items.size == items.size) = true) := by
    rw [show ((-1 : Int) == 1) = false from by decide, Bool.and_false, Bool.false_and]
    exact Bool.false_ne_true
  show wpAny _ _ (if (((items.size : Int) - 1) == 0 && (-1 : Int) == 1 && items.size == items.size) = true then _ else _) _ _ s
  rw [if_neg hno, pick_back]
  first
    | exact wpAny_bind (m := Builtin.Tuple.tupleExact _) (wpAny_newObj_type (wpAny_pure ⟨_, rfl, wpAny_pure h⟩) htake)
    | exact wpAny_bind (m := Builtin.Tuple.tupleExact _) (wpAny_newObj_type (wpAny_bind (wpAny_pure (wpAny_pure ⟨_, rfl, wpAny_pure h⟩))) htake)
    | exact wpAny_bind (wpAny_bind (m := Builtin.Tuple.tupleExact _) (wpAny_newObj_type (wpAny_pure (wpAny_pure ⟨_, rfl, wpAny_pure h⟩)) htake))
    | exact wpAny_bind (wpAny_bind (m := Builtin.Tuple.tupleExact _) (wpAny_newObj_type (wpAny_pure ⟨_, rfl, wpAny_pure h⟩) htake))
def rBack (K : PySem.W.Frag) : V → Hp → VK → Prop := fun x H Q => (∃ a xs, x = .ref a ∧ SqL K H a xs ∧ ∀ p, H p = none → Q (.ref p) (upd H p (.lst xs.reverse))) ∨ ∃ a xs, x = .ref a ∧ SqT K H a xs ∧ ∀ p, H p = none → Q (.ref p) (upd H p (.tup xs.reverse))
def tBack (K : PySem.W.Frag) (te ts : TE) : TE := fun σ H Q => te σ H fun x H1 => ts σ H1 fun y H2 => y = .int (-1) ∧ rBack K x H2 Q
theorem vals_rev {xs : List V} {us : List Value} (r : Vals xs us) : Vals xs.reverse us.reverse := by
  induction r with
  | nil => exact .nil
  | cons h t ih =>
    rw [List.reverse_cons, List.reverse_cons]
    exact ih.append (.cons h .nil)
/-- e[::-1] -/
theorem pe_back {X : Cx} {e st : Expr} {te ts : TE} {p2 pos : Pos} (he : PE X e te) (hst : PE X st ts) (hp : evalPart (some st) X.env = eval st X.env := by rfl)
    (hsub : ∀ x sl : Addr, ∃ ops, subscripted (.Slice none none (some st) p2) false (.ref x) (.ref sl) = operate ops (getItem (.ref x) (.ref sl)) := by intro x sl; exact ⟨_, by with_unfolding_all rfl⟩) : PE X (.Subscript e (.Slice none none (some st) p2) pos) (tBack X.K te ts) := by
  refine ⟨fun pins s σ H Q I h => ?_⟩
  refine Subscript_ (thn (he.run pins s σ H _ I h) fun v s1 ⟨x, H1, I1, r1, q1⟩ => ?_)
  refine wpAny_Slice ?_
  rw [evalPart_none]
  refine wpAny_pure (wpAny_pure ?_)
  rw [hp]
  refine thn (hst.run pins s1 σ H1 _ I1 q1) fun vk s3 ⟨y, H3, I3, pk, ey, q3⟩ => ?_
  subst ey
  obtain ⟨tk, rfl⟩ := (show ∃ t, vk = Value.int (-1) t from pk)
  have pk' : IsPart (.int (-1) tk) (some (-1)) := .int _ _
  have I4 : Inv X pins σ H3 { s3 with heap := s3.heap.push { cls := .type "slice", data := .fields #[.none, .none, .int (-1) tk] } } := I3.kept (t' := s3.toks) fun b ob q => Heap.get?_push_of_some _ q
  have hs : Heap.IsSliceOf (s3.heap.push { cls := .type "slice", data := .fields #[.none, .none, .int (-1) tk] }) s3.heap.objs.size .none .none (.int (-1) tk) := Heap.IsSliceOf.new ..
  generalize hS : ({ s3 with heap := s3.heap.push { cls := .type "slice", data := .fields #[.none, .none, .int (-1) tk] } } : Shared) = S at I4
  have hs' : S.heap.IsSliceOf s3.heap.objs.size .none .none (.int (-1) tk) := by rw [← hS]; exact hs
  show wpAny (model X.prog X.w) X.A (subscriptTail e (.Slice none none (some st) p2) v (.ref s3.heap.objs.size)) (EP X pins σ Q) X.xe S
  rcases q3 with ⟨a, xs, rfl, hx, q⟩ | ⟨a, xs, rfl, hx, q⟩
  · cases (show v = Value.ref a from r1)
    obtain ⟨its, r, hl, hz⟩ := I4.list hx
    have hlen : its.toArray.size = xs.length := by rw [List.size_toArray]; exact r.length.symm
    obtain ⟨ops, eo⟩ := hsub a s3.heap.objs.size
    refine tail_any (T := "list") (ops := ops) hl.isList.typeIs slot_list_getitem.lookup ?_ eo
    refine wpAny_getItem_list_slice hl.isList hs' .none .none pk' (by decide) ?_ (by rw [hlen]; exact hz)
    rw [PySem.W.krv_pick]
    refine ⟨.ref S.heap.objs.size, _, I4.laid (t' := S.toks) (o := .lst xs.reverse) (fun b ob q => Heap.get?_push_of_some _ q) (Nat.le_refl _) ?_, rfl, q _ (I4.hok.fresh (Nat.le_refl _))⟩
    exact ⟨by rw [List.length_reverse]; exact hz, _, 0, (vals_rev r), Heap.get?_push_size _ rfl⟩
  · cases (show v = Value.ref a from r1)
    obtain ⟨its, r, ht, hz⟩ := I4.tuple hx
    have hlen : its.toArray.size = xs.length := by rw [List.size_toArray]; exact r.length.symm
    obtain ⟨ops, eo⟩ := hsub a s3.heap.objs.size
    refine tail_any (T := "tuple") (ops := ops) ht.typeIs PyProof.Rows.slot_tuple_getitem.lookup ?_ eo
    refine getItem_tuple_back ht hs' pk' ?_ (by rw [hlen]; exact hz)
    refine ⟨.ref S.heap.objs.size, _, I4.laid (t' := S.toks) (o := .tup xs.reverse) (fun b ob q => Heap.get?_push_of_some _ q) (Nat.le_refl _) ?_, rfl, q _ (I4.hok.fresh (Nat.le_refl _))⟩
    exact ⟨by rw [List.length_reverse]; exact hz, _, (vals_rev r), IsTup.new _ _⟩
end Fk

set_option maxHeartbeats 4000000
/-! text.encode("ascii") of a text below 128 -/
namespace Fk
open PySem PySem.Spec PySem.Calls PyProof.Rows L2
open Builtin PySem.W
def AsX (x : PySem.Str) : Prop := ∀ c ∈ x.cps.toList, c < 128
def byts (x : PySem.Str) : Array UInt8 := ⟨x.cps.toList.map (·.toUInt8)⟩
theorem byts_size (x : PySem.Str) : (byts x).size = x.length := by simp only [byts, List.size_toArray, List.length_map, Array.length_toList]; rfl
theorem fold_b (l : List Nat) : ∀ acc : Array UInt8, l.foldl (fun a y => a ++ ([y.toUInt8] : List UInt8).toArray) acc = acc ++ (⟨l.map (·.toUInt8)⟩ : Array UInt8) := by
  induction l with
  | nil => intro acc; simp
  | cons c r ih => intro acc; rw [List.foldl_cons, ih]; apply Array.toList_inj.mp; simp
theorem none_bad {x : PySem.Str} (h : AsX x) : x.cps.findIdx? (fun c => decide (c ≥ 128)) = none := by
  refine Array.findIdx?_eq_none_iff.mpr fun c hc => decide_eq_false ?_
  have := h c (Array.mem_toList_iff.mpr hc); omega
section
variable {M : Model} {A : Around} {E : Value → Shared → Prop} {s : Shared} {x : PySem.Str} {id : String} {self : Value}
theorem all_of (y : Array Nat) : y.extract 0 y.size = y := by simp
theorem wp_narrow {Q : Array UInt8 → Shared → Prop} (ha : AsX x) (hz : x.length ≤ 16777216) (h : Q (byts x) s) : wpAny M A (_codecs.encodeNarrow id _codecs.asciiCodec none self x) Q E s := by
  have z0 : ¬ sizeLine < (#[] : Array UInt8).size := by rw [sizeLine_eq]; decide
  have z1 : ¬ sizeLine < (byts x).size := by rw [byts_size, sizeLine_eq]; omega
  have out : ((x.cps.extract 0 x.cps.size).extract 0 x.cps.size).foldl (fun a y => a ++ (_codecs.asciiCodec.bytesOf y).toArray) #[] = byts x := by
    rw [all_of, all_of, ← Array.foldl_toList]; exact (fold_b x.cps.toList #[]).trans (by simp [byts])
  unfold _codecs.encodeNarrow; refine wpAny_bind ?_; rw [KPc.range_list]
  cases hn : x.length with
  | zero =>
    have e : byts x = #[] := Array.eq_empty_of_size_eq_zero ((byts_size x).trans hn)
    rw [e] at h; show wpAny M A (forIn ([] : List Nat) _ _) _ E s; rw [List.forIn_nil]
    exact wpAny_pure (wpAny_pure h)
  | succ n =>
    have h0 : 0 < x.cps.size := by have : x.cps.size = n + 1 := hn; omega
    have hg : x.cps[0]? = some (x.cps[0]'h0) := Array.getElem?_eq_getElem h0
    have hb : _codecs.asciiCodec.bad (x.cps[0]'h0) = false := decide_eq_false (by have := ha _ (Array.mem_toList_iff.mpr (Array.getElem_mem h0)); omega)
    have hc : (((x.cps.extract 0 x.cps.size).findIdx? _codecs.asciiCodec.bad).getD (x.cps.extract 0 x.cps.size).size) = x.cps.size := by
      rw [all_of]; show ((x.cps.findIdx? (fun c => decide (c ≥ 128))).getD x.cps.size) = _; rw [none_bad ha]; rfl
    rw [List.range'_succ]; refine KPc.turn (wpAny_ite (KBy.ite_no z0 ?_)); (try dsimp only); rw [hg]; (try dsimp only)
    refine wpAny_ite (KBc.ite_yes (by rw [hb]; rfl) ?_); rw [hc, out]; (try dsimp only)
    cases n with
    | zero =>
      refine wpAny_pure ?_; show wpAny M A (forIn ([] : List Nat) _ _) _ E s; rw [List.forIn_nil]
      exact wpAny_pure (wpAny_pure h)
    | succ m =>
      refine wpAny_pure ?_; rw [List.range'_succ]; refine KPc.turn (wpAny_ite (KBy.ite_no z1 ?_)); (try dsimp only)
      have he : x.cps[0 + x.cps.size]? = none := Array.getElem?_eq_none (by omega)
      rw [he]; (try dsimp only); exact wpAny_pure (wpAny_pure h)
end
theorem enc_tree2 (x : PySem.Str) (t t2 : Tok) : «str.encode» ⟨[.str x t, .str (Str.ofString "ascii") t2], []⟩ = (do ret (← _codecs.encodeRoad "str.encode" (.str x t) x (Str.ofString "ascii") none)) := by
  first | rfl | kernel_rfl
theorem road_ascii (id : String) (self : Value) (x : PySem.Str) : _codecs.encodeRoad id self x (Str.ofString "ascii") none = (do mkBytes (← _codecs.encodeNarrow id _codecs.asciiCodec none self x)) := by
  first | rfl | (unfold _codecs.encodeRoad; rfl) | (unfold _codecs.encodeRoad; simp only []; rfl)
theorem meets_ascii {x : PySem.Str} {t t2 : Tok} (ha : AsX x) (hz : x.length ≤ 16777216) : Meets («str.encode» ⟨[.str x t, .str (Str.ofString "ascii") t2], []⟩) (fun _ R s => ∀ t' k, R (.ok (.ret (.bytes (byts x) t'))) { s with toks := k }) := by
  refine .of_wp fun prog w A R s h => ?_
  rw [enc_tree2, road_ascii]
  refine wpAny_bind (wpAny_bind (wp_narrow ha hz (wpAny_mkBytes ?_ (by rw [byts_size, sizeLine_eq]; exact hz))))
  exact wpAny_pure ⟨_, rfl, h _ _⟩
/-- text.encode("ascii") -/
theorem mt_ascii {X : Cx} : MtR X "str.encode" (fun x xs H Q => ∃ a : Str, x = .str a ∧ xs = [.str (Str.ofString "ascii")] ∧ AsX a ∧ a.length ≤ 16777216 ∧ Q (.byt (byts a)) H) := by
  intro pins s σ H x xs v us Q I rx rs h
  obtain ⟨a, rfl, rfl, ha, hz, q⟩ := h
  obtain ⟨t, rfl⟩ := rx
  cases rs with
  | cons r1 r2 =>
    cases r2
    obtain ⟨t2, rfl⟩ := r1
    exact call_meets F.slot_str_encode (typeIs_str s a t) F.entry_str_encode (F.args_str_encode_2 _ _) (meets_ascii ha hz) fun t' k => ⟨.byt (byts a), H, I.tok k, ⟨t', rfl⟩, q⟩
end Fk

set_option maxHeartbeats 4000000
/-! f"{n:016x}" of a number that is not negative -/
namespace Fk
open PySem PySem.Spec PySem.Calls PyProof.Rows L2
open Builtin PySem.W
def figs (n : Nat) : List Nat := (Nat.toDigits 16 n).map Char.toNat
def hex16 (n : Nat) : PySem.Str := ⟨(List.replicate (16 - (figs n).length) 48 ++ figs n).toArray⟩
def spec16 : Float.FormatSpec := match Float.parseFormatSpec (Str.ofString "016x").cps.toList "int" 62 with
  | .ok f => f
  | .error _ => ⟨0, 0, none, false, false, none, none, none, none⟩
def text16 (a : Int) : PySem.Str := intField' spec16 (decide (a < 0)) [] ((Nat.toDigits 16 a.natAbs).map fun c => (if (120 : Nat) == 88 then c.toUpper else c).toNat) [] 4
theorem spec_is : spec16.fill = 48 ∧ spec16.align = 61 ∧ spec16.width = some 16 ∧ spec16.grouping = none ∧ spec16.sign = none := by decide +kernel
theorem meets_hex {a : Int} {t : Tok} (hl : (text16 a).length ≤ sizeLine) : ∀ u, Meets («int.__format__» ⟨[.int a t, .str (Str.ofString "016x") u], []⟩) (fun _ R s => ∀ t' k, R (.ok (.ret (.str (text16 a) t'))) { s with toks := k }) := by
  intro _
  apply KPc.meets_of
  intro _ _ _ _ _ _ hq
  unfold Builtin.«int.__format__»; refine wpAny_bind (wpAny_of_eq (a := (_, _)) rfl ?_); refine wpAny_bind (wpAny_of_eq (a := _) rfl ?_)
  kxf_if
  refine wpAny_bind (wpAny_typeNameOf (T := "str") (typeIs_str _ _ _) (by decide) fun _ => ?_); refine wpAny_bind (wpAny_of_eq (a := some _) rfl ?_)
  kxf_if; kxf_if
  refine wpAny_bind (wpAny_typeNameOfCut_int ?_)
  repeat kxf_if
  refine KXf.ret_text (T := text16 a) ?_ ?_ hq
  · first | rfl | kernel_rfl
  · exact hl
theorem core_len (b : Nat) (hb : 1 < b) : ∀ (k fuel n : Nat) (ds : List Char), 1 ≤ k → n < b ^ k → (Nat.toDigitsCore b fuel n ds).length ≤ ds.length + k
  | _, 0, _, ds, _, _ => by unfold Nat.toDigitsCore; omega
  | k, fuel + 1, n, ds, hk, hn => by
    unfold Nat.toDigitsCore; simp only
    split
    · simp only [List.length_cons]; omega
    · rename_i h0
      cases k with
      | zero => omega
      | succ j =>
        cases j with
        | zero => exact absurd (Nat.div_eq_of_lt (by simpa using hn)) h0
        | succ i =>
          have h1 : n / b < b ^ (i + 1) := Nat.div_lt_of_lt_mul (by rw [Nat.pow_succ, Nat.mul_comm] at hn; exact hn)
          have := core_len b hb (i + 1) fuel (n / b) (Nat.digitChar (n % b) :: ds) (by omega) h1
          simp only [List.length_cons] at this; omega
theorem figs_len {n : Nat} (h : n < 16 ^ 16) : (figs n).length ≤ 16 := by
  have := core_len 16 (by decide) 16 (n + 1) n [] (by decide) h
  unfold figs; rw [List.length_map]; simpa [Nat.toDigits] using this
theorem figs_ne (n : Nat) : (figs n).isEmpty = false := by
  have := tDigits_len_ge 16 n
  cases e : figs n with
  | nil => have h2 : (figs n).length = 0 := by rw [e]; rfl
           unfold figs at h2; rw [List.length_map] at h2; omega
  | cons c r => rfl
theorem text_hex {n : Nat} (h : n < 16 ^ 16) : text16 (n : Int) = hex16 n := by
  obtain ⟨f1, f2, f3, f4, f5⟩ := spec_is
  have hl := figs_len h
  have hn := figs_ne n
  have e0 : decide ((n : Int) < 0) = false := decide_eq_false (by omega)
  have e1 : ((Nat.toDigits 16 (n : Int).natAbs).map fun c => (if (120 : Nat) == 88 then c.toUpper else c).toNat) = figs n := rfl
  unfold text16 intField' hex16
  rw [e0, e1]
  simp only [f1, f2, f3, f4, f5, hn, Bool.false_eq_true, if_false, List.length_nil, List.append_nil, List.nil_append, List.length_append, List.length_replicate, beq_self_eq_true, Bool.and_true, if_true]
  simp
  omega
theorem hex_len {n : Nat} (h : n < 16 ^ 16) : (hex16 n).length = 16 := by
  have := figs_len h
  show ((List.replicate (16 - (figs n).length) 48 ++ figs n).toArray).size = 16
  rw [List.size_toArray, List.length_append, List.length_replicate]; omega
def HX : List Nat := [48, 49, 50, 51, 52, 53, 54, 55, 56, 57, 97, 98, 99, 100, 101, 102]
theorem dig_in : ∀ d : Fin 16, (Nat.digitChar d).toNat ∈ HX := by decide +kernel
theorem core_in : ∀ (fuel n : Nat) (ds : List Char), (∀ c ∈ ds, c.toNat ∈ HX) → ∀ c ∈ Nat.toDigitsCore 16 fuel n ds, c.toNat ∈ HX
  | 0, _, ds, h => by unfold Nat.toDigitsCore; exact h
  | fuel + 1, n, ds, h => by
    have h2 : ∀ c ∈ Nat.digitChar (n % 16) :: ds, c.toNat ∈ HX := fun c hc => by
      rcases List.mem_cons.mp hc with rfl | hc
      · exact dig_in ⟨n % 16, Nat.mod_lt _ (by decide)⟩
      · exact h c hc
    unfold Nat.toDigitsCore; simp only
    split
    · exact h2
    · exact core_in fuel (n / 16) _ h2
theorem hex_in {n c : Nat} (h : c ∈ (hex16 n).cps.toList) : c ∈ HX := by
  have h : c ∈ List.replicate (16 - (figs n).length) 48 ++ figs n := h
  rcases List.mem_append.mp h with h | h
  · rw [(List.mem_replicate.mp h).2]; decide
  · obtain ⟨d, hd, rfl⟩ := List.mem_map.mp h
    exact core_in (n + 1) n [] (fun c hc => by cases hc) d hd
/-- {n:016x} -/
def tHex (te : TE) : TE := fun σ H Q => te σ H fun x H1 => ∃ n : Nat, x = .int n ∧ n < 16 ^ 16 ∧ Q (.str (hex16 n)) H1
theorem pe_hex {X : Cx} {e sp : Expr} {te : TE} {pos : Pos} (he : PE X e te) (hs : PE X sp (tC (.str (Str.ofString "016x")))) : PE X (.FormattedValue e (-1) (some sp) pos) (tHex te) := by
  refine ⟨fun pins s σ H Q I h => wpAny_FormattedValue_spec (thn (he.run pins s σ H _ I h) fun v s1 hv => ?_)⟩
  obtain ⟨x, H1, I1, r1, n, rfl, hn, q⟩ := hv
  obtain ⟨t, rfl⟩ := r1
  refine thn (hs.run pins s1 σ H1 (fun y H2 => y = .str (Str.ofString "016x") ∧ H2 = H1) I1 ⟨rfl, rfl⟩) fun u s2 hu => ?_
  obtain ⟨y, H2, I2, r2, rfl, rfl⟩ := hu
  obtain ⟨t2, rfl⟩ := r2
  have hz : (text16 (n : Int)).length ≤ sizeLine := by rw [text_hex hn, hex_len hn]; decide
  refine ⟨_, t2, rfl, KXf.field_int (y := text16 (n : Int)) rfl (by decide) (by decide) (fun u => meets_hex hz u) fun t' k => ?_⟩
  rw [text_hex hn]
  exact ⟨.str (hex16 n), H2, I2.tok k, ⟨t', rfl⟩, q⟩
end Fk

set_option maxHeartbeats 4000000
/-! What calls make of a table, one by one and by moves. -/
namespace Fk
open PySem PySem.Spec PyProof.Rows L2
def stepT (u : Tab) (c : Str × V × V) : Tab := if notNon c.2.1 = true then putK (dropK u c.1) c.1 c.2.1 else dropK u c.1
def lawT (t : Tab) (cs : List (Str × V × V)) : Tab := cs.foldl stepT t
theorem nd_step {t : Tab} (h : Nd t) (c : Str × V × V) : Nd (stepT t c) := by
  unfold stepT
  split
  · exact nd_put (nd_drop h c.1) _ _
  · exact nd_drop h c.1
theorem nd_lawT {t : Tab} (h : Nd t) : ∀ cs, Nd (lawT t cs) := fun cs => by
  unfold lawT
  induction cs generalizing t with
  | nil => exact h
  | cons c r ih => exact ih (nd_step h c)
theorem len_step (t : Tab) (c : Str × V × V) : (stepT t c).length ≤ t.length + 1 := by
  unfold stepT
  have h := dropK_le t c.1
  split
  · have := len_put (dropK t c.1) c.1 c.2.1
    omega
  · omega
theorem len_lawT (t : Tab) (cs : List (Str × V × V)) : (lawT t cs).length ≤ t.length + cs.length := by
  unfold lawT
  induction cs generalizing t with
  | nil => exact Nat.le_refl _
  | cons c r ih =>
    have := ih (stepT t c)
    have := len_step t c
    rw [List.foldl_cons, List.length_cons]
    omega
theorem val_step (t : Tab) (c : Str × V × V) (x : Str) : valV (stepT t c) x = if x = c.1 then (if notNon c.2.1 = true then some c.2.1 else none) else valV t x := by
  unfold stepT
  by_cases h : notNon c.2.1 = true
  · rw [if_pos h, valV_put, valV_drop]
    by_cases e : x = c.1
    · rw [if_pos e, if_pos e, if_pos h]
    · rw [if_neg e, if_neg e, if_neg e]
  · rw [if_neg h, valV_drop]
    by_cases e : x = c.1
    · rw [if_pos e, if_pos e, if_neg h]
    · rw [if_neg e, if_neg e]
theorem val_lawT (x : Str) : ∀ (cs : List (Str × V × V)) (t : Tab), (cs.map (·.1)).Nodup → valV (lawT t cs) x = match valV (newT cs) x with
    | none => valV t x
    | some v => if notNon v = true then some v else none
  | [], t, _ => rfl
  | c :: r, t, h => by
    obtain ⟨h1, h2⟩ := List.nodup_cons.mp (show (c.1 :: r.map (·.1)).Nodup from h)
    show valV (lawT (stepT t c) r) x = match valV ((c.1, c.2.1) :: newT r) x with
      | none => valV t x
      | some v => if notNon v = true then some v else none
    rw [val_lawT x r (stepT t c) h2]
    by_cases e : c.1 = x
    · have n : valV (newT r) x = none := by
        cases q : valV (newT r) x with
        | none => rfl
        | some v =>
          have m := valV_in q
          unfold newT at m
          rw [List.map_map] at m
          exact absurd (show c.1 ∈ r.map (·.1) by rw [e]; exact m) h1
      rw [n, valV_pos e]
      show valV (stepT t c) x = if notNon c.2.1 = true then some c.2.1 else none
      rw [val_step, if_pos e.symm]
    · rw [valV_neg e]
      cases q : valV (newT r) x with
      | none =>
        show valV (stepT t c) x = valV t x
        rw [val_step, if_neg (fun z => e z.symm)]
      | some v => rfl
theorem news_moves (t : Tab) (cs : List (Str × V × V)) {ys : List Str} (h : ys.Nodup) (x : Str) : valV (newsT (movesF t cs ys)) x = if x ∈ ys ∧ ¬ (valV t x).getD .non = (valV (newT cs) x).getD .non then some ((valV (newT cs) x).getD .non) else none := by
  have e : newsT (movesF t cs ys) = (ys.map fun x => (x, (valV (newT cs) x).getD .non)).filter fun p => !decide ((valV t p.1).getD .non = p.2) := by
    unfold newsT movesF rowsF
    rw [List.filter_map, List.filter_map, List.map_map]
    rfl
  have nd : Nd (ys.map fun x => (x, (valV (newT cs) x).getD .non)) := by
    unfold Nd
    rw [List.map_map]
    have : ((fun x : Str × V => x.1) ∘ fun x : Str => (x, (valV (newT cs) x).getD V.non)) = id := rfl
    rw [this, List.map_id]
    exact h
  rw [e, val_filter nd, val_keys (fun x => (valV (newT cs) x).getD .non)]
  by_cases m : x ∈ ys
  · rw [if_pos m]
    by_cases d : (valV t x).getD .non = (valV (newT cs) x).getD .non
    · rw [if_neg (fun z => z.2 d)]
      simp [d]
    · rw [if_pos ⟨m, d⟩]
      simp [d]
  · rw [if_neg m, if_neg (fun z => m z.1)]
    rfl
theorem notNon_some {v : V} (h : notNon v = true) : v ≠ .non := fun z => by rw [z] at h; cases h
theorem nn_of {v : V} (h : ¬ notNon v = true) : v = .non := by
  cases v <;> first | rfl | exact absurd rfl h
/-- moves and calls make the same -/
theorem after_law {t : Tab} {cs : List (Str × V × V)} {ys : List Str} (nt : Nd t) (vs : ∀ e ∈ t, notNon e.2 = true) (nc : (cs.map (·.1)).Nodup) (hp : ys.Perm (cs.map (·.1))) (x : Str) : valV (afterT t (movesF t cs ys)) x = valV (lawT t cs) x := by
  have ny : ys.Nodup := hp.nodup_iff.mpr nc
  rw [val_after nt (movesF_nd ny), news_moves t cs ny, val_lawT x cs t nc]
  have mk : x ∈ ys ↔ (valV (newT cs) x).isSome = true := by
    rw [hp.mem_iff, ← mem_val]
    unfold newT
    rw [List.map_map]
    rfl
  cases q : valV (newT cs) x with
  | none =>
    have nx : ¬ x ∈ ys := fun z => by have := mk.mp z; rw [q] at this; cases this
    rw [if_neg (fun z => nx z.1)]
  | some v =>
    have yx : x ∈ ys := mk.mpr (by rw [q]; rfl)
    by_cases d : (valV t x).getD .non = v
    · rw [if_neg (fun z => z.2 d)]
      show valV t x = if notNon v = true then some v else none
      cases c : valV t x with
      | none =>
        rw [c] at d
        rw [← d]
        rfl
      | some w =>
        rw [c] at d
        have d : w = v := d
        obtain ⟨p, hp2, ep⟩ := List.mem_map.mp (valV_in c)
        have v1 := val_nodup nt p hp2
        rw [ep, c] at v1
        have := vs p hp2
        rw [← Option.some.inj v1, d] at this
        rw [if_pos this, d]
    · rw [if_pos ⟨yx, d⟩]
      rfl
/-- moves, name by name -/
theorem movesF_snoc (t : Tab) (cs : List (Str × V × V)) (ys : List Str) (y : Str) : movesF t cs (ys ++ [y]) = movesF t cs ys ++ (if (valV t y).getD .non = (valV (newT cs) y).getD .non then [] else [(y, (valV t y).getD .non, (valV (newT cs) y).getD .non)]) := by
  unfold movesF rowsF
  rw [List.map_append, List.filter_append]
  congr 1
  by_cases d : (valV t y).getD .non = (valV (newT cs) y).getD .non
  · rw [if_pos d]
    simp [d]
  · rw [if_neg d]
    simp [d]
theorem logMoves_app (L : Str → List (List V)) (note : List V) (ms : List (Str × V × V)) (m : Str × V × V) : logMoves L note (ms ++ [m]) = logPut (logMoves L note ms) m.1 ([m.2.1, m.2.2] ++ note) := by
  unfold logMoves
  rw [List.foldl_append]
  rfl
/-- lists stay -/
def LstKeep (H H' : Hp) : Prop := ∀ b xs, H b = some (.lst xs) → H' b = some (.lst xs)
theorem LstKeep.of {H H' : Hp} (s : Same H H') : LstKeep H H' := fun b xs e => s b _ e
theorem LstKeep.trans {H H1 H2 : Hp} (a : LstKeep H H1) (b : LstKeep H1 H2) : LstKeep H H2 := fun c xs e => b c xs (a c xs e)
theorem LstKeep.at {a : Addr} {H : Hp} {o : HO} (n : ∀ xs, H a ≠ some (.lst xs)) : LstKeep H (upd H a o) := fun b xs e => by
  have z : b ≠ a := fun z => n xs (by rw [← z]; exact e)
  rw [upd_ne z]
  exact e
/-! ### the model -/
def modelT (mt mh ml : Addr) : Tab := [("table", .ref mt), ("head", .ref mh), ("logs", .ref ml)]
/-- the model's logs: lists of entries -/
def LogsL (H : Hp) (t : Tab) (L : Str → List (List V)) : Prop := ∀ x, (valV t x = none ∧ L x = []) ∨ ∃ (p : Addr) (as : List Addr), valV t x = some (.ref p) ∧ H p = some (.lst (as.map V.ref)) ∧ Tups H as (L x)
def ModAt (K : PySem.W.Frag) (H : Hp) (m mt mh ml : Addr) (t lt : Tab) (x n : Str) : Prop := H m = some (.dK (kT (modelT mt mh ml))) ∧ H mt = some (.dK (kT t)) ∧ TupK K H mh [.str x, .str n] ∧ H ml = some (.dK (kT lt))
theorem mod_get {H : Hp} {m mt mh ml : Addr} (h : H m = some (.dK (kT (modelT mt mh ml)))) : DGet H m (.str "table") (some (.ref mt)) ∧ DGet H m (.str "head") (some (.ref mh)) ∧ DGet H m (.str "logs") (some (.ref ml)) := ⟨dget_kT (.inl h) "table", dget_kT (.inl h) "head", dget_kT (.inl h) "logs"⟩
theorem ModAt.same {K : PySem.W.Frag} {H H' : Hp} {m mt mh ml : Addr} {t lt : Tab} {x n : Str} (h : ModAt K H m mt mh ml t lt x n) (s : Same H H') : ModAt K H' m mt mh ml t lt x n := ⟨s _ _ h.1, s _ _ h.2.1, h.2.2.1.keep (TupKeep.of s), s _ _ h.2.2.2⟩
theorem LogsL.same {H H' : Hp} {t : Tab} {L : Str → List (List V)} (h : LogsL H t L) (s : Same H H') : LogsL H' t L := fun x => (h x).imp id fun ⟨p, as, a, b, c⟩ => ⟨p, as, a, s _ _ b, c.keep (TupKeep.of s)⟩
theorem LogsL.keep {H H' : Hp} {t : Tab} {L : Str → List (List V)} (h : LogsL H t L) (k : TupKeep H H') (l : LstKeep H H') : LogsL H' t L := fun x => (h x).imp id fun ⟨p, as, a, b, c⟩ => ⟨p, as, a, l _ _ b, c.keep k⟩
theorem LogsL.put {H : Hp} {t : Tab} {L : Str → List (List V)} (h : LogsL H t L) {x : Str} {p : Addr} {e : List V} {as : List Addr} (hp : H p = some (.lst (as.map V.ref))) (tp : Tups H as (L x ++ [e])) : LogsL H (putK t x (.ref p)) (logPut L x e) := fun y => by
  unfold logPut
  rw [valV_put]
  by_cases c : y = x
  · rw [if_pos c, if_pos c, c]
    exact .inr ⟨p, as, rfl, hp, tp⟩
  · rw [if_neg c, if_neg c]
    exact h y
theorem log_stepL {H : Hp} {ml en : Addr} {lt : Tab} {L : Str → List (List V)} {x : Str} {ent : List V} {tk td te : TE} {D : Ends} {σ : L2.St} (hD : H ml = some (.dK (kT lt))) (ll : LogsL H lt L) (he : H en = some (.tup ent))
    (b : (L x).length ≤ 100000) (hl : lt.length ≤ 1000) (ek : ∀ H' Q, Q (.str x) H' → tk σ H' Q) (ed : ∀ H' Q, Same H H' → Q (.ref ml) H' → td σ H' Q) (ee : ∀ H' Q, Q (.ref en) H' → te σ H' Q)
    (q : ∀ H' p, FrL [ml] H H' → TupKeep H H' → LstKeep H H' → H' ml = some (.dK (kT (putK lt x (.ref p)))) → LogsL H' (putK lt x (.ref p)) (logPut L x ent) → D.nx σ H') :
    sDPut td tk (tOp rCat (tDGet2 td tk (tLst tNil)) (tLst (tCons te tNil))) D σ H := by
  refine ed _ _ (Same.refl H) ⟨ml, rfl, .inl ⟨_, .inl hD⟩, ek _ _ ⟨Nat.zero_le _, fun pe hpe => ⟨valV lt x, ?_, ?_⟩⟩⟩
  · exact dget_kT (.inl (by rw [upd_ne (ne_of_none hD hpe)]; exact hD)) x
  · have s0 : Same H (upd H pe (.lst [])) := same_new hpe
    have p0 : (upd H pe (.lst [])) pe = some (.lst []) := upd_same
    generalize upd H pe (.lst []) = H0 at s0 p0
    obtain ⟨a, as, ea, ha, ta⟩ : ∃ (a : Addr) (as : List Addr), (valV lt x).getD (.ref pe) = .ref a ∧ H0 a = some (.lst (as.map V.ref)) ∧ Tups H0 as (L x) := by
      rcases ll x with ⟨e, l⟩ | ⟨p, as, e, h, t⟩
      · exact ⟨pe, [], by rw [e]; rfl, p0, by rw [l]; exact Tups.nil⟩
      · exact ⟨p, as, by rw [e]; rfl, s0 _ _ h, t.keep (TupKeep.of s0)⟩
    rw [ea]
    have la : as.length ≤ 100000 := by rw [ta.1]; exact b
    refine ee _ _ ⟨(by show 1 ≤ sizeLine; decide), fun p2 hp2 => ⟨a, p2, _, _, rfl, rfl, (same_new hp2) _ _ ha, upd_same, small_line (by rw [List.length_map]; show _ + 1 ≤ _; omega), fun p3 hp3 => ?_⟩⟩
    have s03 : Same H0 (upd (upd H0 p2 (.lst [V.ref en])) p3 (.lst (as.map V.ref ++ [V.ref en]))) := (same_new hp2).trans (same_new hp3)
    have h3 : (upd (upd H0 p2 (.lst [V.ref en])) p3 (.lst (as.map V.ref ++ [V.ref en]))) p3 = some (.lst ((as ++ [en]).map V.ref)) := by
      rw [upd_same, List.map_append]
      rfl
    generalize upd (upd H0 p2 (.lst [V.ref en])) p3 (.lst (as.map V.ref ++ [V.ref en])) = H5 at s03 h3
    have s05 := s0.trans s03
    have hD5 := s05 _ _ hD
    refine ed _ _ s05 (ek _ _ ⟨ml, _, rfl, .inl ⟨kT lt, .inr x, hD5, rfl, small_lt (by rw [len_kT]; omega), rfl⟩, ?_⟩)
    rw [putK_kT]
    have kp : TupKeep H5 (upd H5 ml (.dK (kT (putK lt x (.ref p3))))) := TupKeep.at fun xs z => by rw [hD5] at z; cases z
    have kl : LstKeep H5 (upd H5 ml (.dK (kT (putK lt x (.ref p3))))) := LstKeep.at fun xs z => by rw [hD5] at z; cases z
    have kp2 := (TupKeep.of s05).trans kp
    have kl2 := (LstKeep.of s05).trans kl
    refine q _ p3 ((FrL.same s05).trans (FrL.at (List.mem_singleton_self ml))) kp2 kl2 upd_same ?_
    exact (ll.keep kp2 kl2).put (kl _ _ h3) (((ta.keep (TupKeep.of s03)).snoc (s05 _ _ he)).keep kp)
def callL (c : Str × V × V) : List V := [.str c.1, c.2.1, c.2.2]
/-- the law's own list of the calls -/
def CallsL (H : Hp) (lc : Addr) (cs : List (Str × V × V)) : Prop := ∃ as : List Addr, H lc = some (.lst (as.map V.ref)) ∧ Tups H as (cs.map callL)
theorem ok_prefixes {x : Str} (h : OkS x) : ∀ y ∈ prefixesF x, OkS y := fun y hy => by
  obtain ⟨k, _, rfl⟩ := List.mem_map.mp hy
  exact ok_join ok_slash fun p hp => segs_ok x h p (List.mem_of_mem_take hp)
theorem have_any {ks : List Str} (h : haveF ks = false) : ∀ x ∈ ks, ((prefixesF x).any fun y => decide (y ∈ ks)) = false := fun x hx => by
  unfold haveF at h
  exact Bool.eq_false_iff.mpr fun z => by
    rw [List.any_eq_true.mpr ⟨x, hx, z⟩] at h
    cases h
theorem law_new_at {t : Tab} {cs : List (Str × V × V)} {y : Str} (nc : (cs.map (·.1)).Nodup) (h : y ∈ cs.map (·.1)) : (valV (lawT t cs) y).getD .non = (valV (newT cs) y).getD .non := by
  rw [val_lawT y cs t nc]
  have m : (valV (newT cs) y).isSome = true := by
    rw [← mem_val]
    unfold newT
    rw [List.map_map]
    exact h
  cases c : valV (newT cs) y with
  | none => rw [c] at m; cases m
  | some v =>
    show (if notNon v = true then some v else none).getD .non = v
    by_cases d : notNon v = true
    · rw [if_pos d]
      rfl
    · rw [if_neg d, nn_of d]
      rfl
theorem mem_keys_put {t : Tab} {x y : Str} {v : V} (h : y ∈ (putK t x v).map (·.1)) : y ∈ t.map (·.1) ∨ y = x := by
  have := mem_val.mp h
  rw [valV_put] at this
  by_cases c : y = x
  · exact .inr c
  · rw [if_neg c] at this
    exact .inl (mem_val.mpr this)
theorem flat_lawT {t : Tab} {cs : List (Str × V × V)} (ht : ∀ e ∈ t, flatN e.2) (hc : ∀ c ∈ cs, flatN c.2.1) : ∀ e ∈ lawT t cs, flatN e.2 := by
  unfold lawT
  induction cs generalizing t with
  | nil => exact ht
  | cons c r ih =>
    refine ih (fun e he => ?_) fun d hd => hc d (List.mem_cons_of_mem _ hd)
    unfold stepT at he
    have dr : ∀ e ∈ dropK t c.1, flatN e.2 := fun e he => ht e (dropK_mem he)
    split at he
    · rcases mem_putK he with h | h
      · exact dr e h
      · rw [h]
        exact hc c List.mem_cons_self
    · exact dr e he
end Fk

set_option maxHeartbeats 4000000
/-! A try with several except clauses, of which any may have a name. -/
namespace Fk
open PySem PySem.Spec PyProof.Rows L2
/-- a clause with a name: slot i is the error's within the suite, and nothing's behind it -/
def asTS (i : Nat) (ts : Addr → Value → Option Addr → TS) : Addr → Value → Option Addr → TS := fun a cls d D σ H =>
  ts a cls d { nx := fun σ' H' => D.nx (σ'.set i none) H', rt := D.rt, bk := fun σ' H' => D.bk (σ'.set i none) H', ct := fun σ' H' => D.ct (σ'.set i none) H' } (σ.set i (some (.ref a))) H
inductive HdA (X : Cx) : List ExceptHandler → List (Value × (Addr → Value → Option Addr → TS)) → Prop
  | nil : HdA X [] []
  | cons {x : Str} {c : Value} {ts : Addr → Value → Option Addr → TS} {b₀ : Stmt} {suite : List Stmt} {np pos' : Pos} {hds : List ExceptHandler} {l : List (Value × (Addr → Value → Option Addr → TS))} (hc : Names X x c)
      (hsu : ∀ (a : Addr) (oe : Obj) (cls : Value) (d : Option Addr) (pn : List (Addr × Obj)), Zc cls d oe → (∃ vs, oe.data = .fields vs) → PSs (X.suite a ((a, oe) :: pn)) (b₀ :: suite) (ts a cls d)) (r : HdA X hds l) :
      HdA X (.ExceptHandler (some (.Name x np)) none (b₀ :: suite) pos' :: hds) ((c, ts) :: l)
  | as {x n : Str} {i : Nat} {c : Value} {ts : Addr → Value → Option Addr → TS} {b₀ : Stmt} {suite : List Stmt} {np pos' : Pos} {hds : List ExceptHandler} {l : List (Value × (Addr → Value → Option Addr → TS))} (hN : X.N.Nodup) (hi : X.N[i]? = some n) (hln : X.env.kindOf n = some .local) (hc : Names X x c)
      (hsu : ∀ (a : Addr) (oe : Obj) (cls : Value) (d : Option Addr) (pn : List (Addr × Obj)), Zc cls d oe → (∃ vs, oe.data = .fields vs) → PSs (X.suite a ((a, oe) :: pn)) (b₀ :: suite) (ts a cls d)) (r : HdA X hds l) :
      HdA X (.ExceptHandler (some (.Name x np)) (some n) (b₀ :: suite) pos' :: hds) ((c, asTS i ts) :: l)
section
variable {X : Cx} {body : List Stmt} {h₀ : ExceptHandler} {hds : List ExceptHandler} {l : List (Value × (Addr → Value → Option Addr → TS))} {pos : Pos} {tb : WX → TS} {Wout : WX}
theorem ps_tryA (hs : X.stack = X.env :: X.outer) (hf : X.env.frame = some X.env.locals) (tk : Takes X Wout)
    (hb : ∀ (W : WX) (pn : List (Addr × Obj)) (xe : Value → Shared → Prop), Takes (X.tr pn xe) W → PassesOwn (model X.prog X.w) X.A X.env xe → PSs (X.tr pn xe) body (tb W))
    (hh : HdA X (h₀ :: hds) l) : PS X (.Try body (h₀ :: hds) [] [] pos) (fun D σ H => tb (wMany X.K Wout D l) D σ H) := by
  refine ⟨fun pins s σ H D I h => ?_⟩
  have ok := I.ok
  have hfr : X.A.frames = some (X.env :: X.outer) := by rw [ok.frames, hs]
  refine wpAny_Try_except ?_
  refine wpAny_mono ((hb (wMany X.K Wout D l) (X.pn ++ pins) (fun e s₁ => wpAny (model X.prog X.w) X.A (noteFrame e X.env) (fun _ s₂ => wpAny (model X.prog X.w) X.A (setFlight e none) (fun _ s₃ =>
    wpAny (model X.prog X.w) X.A (handleBy e X.env (h₀ :: hds)) (SP X pins D) X.xe s₃) X.xe s₂) X.xe s₁) (fun u s' xx => ?_) PassesOwn.looking).run [] s σ H D (I.toTry _) h) (fun f s1 hsp => ?_) (fun e s1 he => he)
  · obtain ⟨a, B, sI, pins', σ', H', cls, d, rfl, J', nb, up, sky, na, os, ag, w⟩ := xx
    have J : Inv X pins σ' H' sI := J'.ofTry ok
    have sky' : Sky B (X.env :: X.outer) a (Zc cls d) X.env.locals s'.heap := by rw [← hs]; exact sky
    show wpAny (model X.prog X.w) X.A (noteFrame (.ref a) X.env) _ _ _
    refine Sky.land Zc.steady hfr hf sky' fun h3 fl3 up3 => ?_
    have J3 : Inv X pins σ' H' { s' with heap := h3 } := J.landed nb fl3.1 (up.trans up3) os ag
    obtain ⟨oe3, vs3, he3, hz3, hd3⟩ := fl3.there
    have notFr : ∀ {h : Heap} {o : Obj} {vs : Array Value}, h.FunFrames B (X.env :: X.outer) → h.get? a = some o → o.data = .fields vs → a ∉ frs (X.env :: X.outer) := fun {h o vs} ff e dd hm => by
      obtain ⟨_, o', e', hnf⟩ := ff.mem hm
      rw [e] at e'; cases e'
      exact hnf _ dd
    have nfr := notFr fl3.2.2.1 he3 hd3
    have nL : a ≠ X.env.locals := fun z => nfr (List.mem_filterMap.mpr ⟨X.env, List.mem_cons_self, by rw [hf, z]⟩)
    have nF : a ∉ X.fs := fun hm => by
      obtain ⟨e, he, q⟩ := List.mem_filterMap.mp hm
      exact nfr (List.mem_filterMap.mpr ⟨e, List.mem_cons_of_mem _ he, q⟩)
    have S3 := J3.suite he3 hd3 na nL nF
    have go : ∀ {hds' : List ExceptHandler} {l' : List (Value × (Addr → Value → Option Addr → TS))}, HdA X hds' l' → wMany X.K Wout D l' cls d σ' H' →
        wpAny (model X.prog X.w) X.A (handleBy (.ref a) X.env hds') (SP X pins D) X.xe { s' with heap := h3 } := by
      intro hds' l' hk
      induction hk with
      | nil =>
        intro w
        refine wpAny_handleBy_nil ?_
        obtain ⟨k1, k2, k3, oe, vs, T, oT, ts', he, hz, hd, h1, hr⟩ := id fl3
        unfold PySem.passOn
        refine wpAny_bind (wpAny_field he hd h1 ?_)
        rw [if_neg (show ¬ ((Value.ref T == Value.none) = true) from by simp)]
        have fin : wpAny (model X.prog X.w) X.A (setFlight (.ref a) X.env.frame) (fun _ s4 => wpAny (model X.prog X.w) X.A (throw (.ref a) : Sem Flow) (SP X pins D) X.xe s4) X.xe { s' with heap := h3 } := by
          rw [hf]
          refine HandSPX.setFlight_upZ fl3 fun h4 hh4 up4 => wpAny_throw (tk _ _ ?_)
          exact ⟨a, B, sI, pins, σ', H', cls, d, rfl, J, nb, (up.trans up3).trans up4, .inr (.inr (by rw [hs]; exact hh4)), na, os, ag, w⟩
        first
          | exact wpAny_bind (wpAny_pure (wpAny_bind fin))
          | exact wpAny_bind fin
      | @cons x c ts b₀ suite np pos' hds2 l2 hc hsu r ih =>
        intro w
        obtain ⟨b, hb1, hyes, hno⟩ := w
        refine wpAny_handleBy_cons (codeAny_handlers_test ?_) (by intro q; cases q)
        have LT : PySem.W.Looks (model X.prog X.w) h3 (typeOf (.ref a)) cls := fun A Q E s k q => wpAny_typeOf_ref (k _ _ he3) (by rw [hz3.1]; exact q)
        have LM := PySem.W.exm_one (M := model X.prog X.w) (J3.kIn) LT hb1
        have test : ∀ {Q : Value → Shared → Prop} {E : Value → Shared → Prop}, Q c { s' with heap := h3 } → wpAny (model X.prog X.w) (X.A.mark (some (.ref a))) (eval (.Name x np) X.env) Q E { s' with heap := h3 } := fun {Q E} q => by
          obtain ⟨hg, hdbg, hm | ⟨hm, hv, hnn⟩⟩ := hc
          · exact ld_glob (X := X.suite a ((a, oe3) :: (X.pn ++ pins))) S3 hg hm q hdbg
          · exact ld_blt (X := X.suite a ((a, oe3) :: (X.pn ++ pins))) S3 hg hm hv q hnn hdbg
        refine test (LM.here ?_)
        cases b with
        | true =>
          refine codeAny_handlers_suite ?_
          refine HandSPX.lands_againZ fl3 fun h4 fl4 up4 => ?_
          have J4 : Inv X pins σ' H' { s' with heap := h4 } := J.landed nb fl4.1 ((up.trans up3).trans up4) os ag
          obtain ⟨oe4, vs4, he4, hz4, hd4⟩ := fl4.there
          have S4 := J4.suite he4 hd4 na nL nF
          refine wpAny_mono ((hsu a oe4 cls d (X.pn ++ pins) hz4 ⟨_, hd4⟩).run [] _ _ H' _ S4 (hyes rfl a na)) (fun f s6 hsp => ?_) (fun _ _ z => False.elim z)
          cases f with
          | next =>
            obtain ⟨σ6, H6, S6, q6⟩ := hsp
            exact ⟨_, _, S6.unsuite ok, q6⟩
          | brk =>
            obtain ⟨σ6, H6, S6, q6⟩ := hsp
            exact ⟨_, _, S6.unsuite ok, q6⟩
          | cont =>
            obtain ⟨σ6, H6, S6, q6⟩ := hsp
            exact ⟨_, _, S6.unsuite ok, q6⟩
          | ret u =>
            obtain ⟨v6, σ6, H6, S6, r6, q6⟩ := hsp
            exact ⟨_, _, _, S6.unsuite ok, r6, q6⟩
        | false =>
          show wpAny _ X.A (handleBy (.ref a) X.env hds2) _ _ _
          exact ih (hno rfl)
      | @as x n i c ts b₀ suite np pos' hds2 l2 hN hi hln hc hsu r ih =>
        intro w
        have hloc : Loc X.env.scope n := .inl hln
        obtain ⟨b, hb1, hyes, hno⟩ := w
        refine wpAny_handleBy_cons (codeAny_handlers_test ?_) (by intro q; cases q)
        have LT : PySem.W.Looks (model X.prog X.w) h3 (typeOf (.ref a)) cls := fun A Q E s k q => wpAny_typeOf_ref (k _ _ he3) (by rw [hz3.1]; exact q)
        have LM := PySem.W.exm_one (M := model X.prog X.w) (J3.kIn) LT hb1
        have test : ∀ {Q : Value → Shared → Prop} {E : Value → Shared → Prop}, Q c { s' with heap := h3 } → wpAny (model X.prog X.w) (X.A.mark (some (.ref a))) (eval (.Name x np) X.env) Q E { s' with heap := h3 } := fun {Q E} q => by
          obtain ⟨hg, hdbg, hm | ⟨hm, hv, hnn⟩⟩ := hc
          · exact ld_glob (X := X.suite a ((a, oe3) :: (X.pn ++ pins))) S3 hg hm q hdbg
          · exact ld_blt (X := X.suite a ((a, oe3) :: (X.pn ++ pins))) S3 hg hm hv q hnn hdbg
        refine test (LM.here ?_)
        cases b with
        | true =>
          refine codeAny_handlers_suite_as ?_
          refine HandSPX.lands_againZ fl3 fun h4 fl4 up4 => ?_
          have J4 : Inv X pins σ' H' { s' with heap := h4 } := J.landed nb fl4.1 ((up.trans up3).trans up4) os ag
          obtain ⟨oe4, vs4, he4, hz4, hd4⟩ := fl4.there
          have S4 := J4.suite he4 hd4 na nL nF
          refine store_ok (X := X.suite a ((a, oe4) :: (X.pn ++ pins))) (v := .ref a) S4 hN hi hloc rfl (fun s5 S5 => ?_) (.inr hln)
          refine wpAny_mono ((hsu a oe4 cls d (X.pn ++ pins) hz4 ⟨_, hd4⟩).run [] s5 _ H' _ S5 (hyes rfl a na)) (fun f s6 hsp => ?_) (fun _ _ z => False.elim z)
          have end_ : ∀ {σ6 : L2.St} {H6 : Hp} {Q : Shared → Prop}, Inv (X.suite a ((a, oe4) :: (X.pn ++ pins))) [] σ6 H6 s6 → (∀ s7, Inv X pins (σ6.set i none) H6 s7 → Q s7) →
              wpAny (model X.prog X.w) X.A (do bindName X.env n .none; unbindBehindTheSuite X.env n pos') (fun _ s7 => Q s7) X.xe s6 := fun {σ6 H6 Q} S6 hq => gone_ok (S6.unsuite ok) hN hi hln hq
          cases f with
          | next =>
            obtain ⟨σ6, H6, S6, q6⟩ := hsp
            exact end_ S6 fun s7 J7 => ⟨_, _, J7, q6⟩
          | brk =>
            obtain ⟨σ6, H6, S6, q6⟩ := hsp
            exact end_ S6 fun s7 J7 => ⟨_, _, J7, q6⟩
          | cont =>
            obtain ⟨σ6, H6, S6, q6⟩ := hsp
            exact end_ S6 fun s7 J7 => ⟨_, _, J7, q6⟩
          | ret u =>
            obtain ⟨v6, σ6, H6, S6, r6, q6⟩ := hsp
            exact end_ S6 fun s7 J7 => ⟨_, _, _, J7, r6, q6⟩
        | false =>
          show wpAny _ X.A (handleBy (.ref a) X.env hds2) _ _ _
          exact ih (hno rfl)
    exact go hh w
  · cases f with
    | next =>
      obtain ⟨σ', H', J', q⟩ := hsp
      exact wpAny_execs_nil ⟨σ', H', J'.ofTry ok, q⟩
    | brk =>
      obtain ⟨σ', H', J', q⟩ := hsp
      exact ⟨σ', H', J'.ofTry ok, q⟩
    | cont =>
      obtain ⟨σ', H', J', q⟩ := hsp
      exact ⟨σ', H', J'.ofTry ok, q⟩
    | ret u =>
      obtain ⟨v, σ', H', J', r, q⟩ := hsp
      exact ⟨v, σ', H', J'.ofTry ok, r, q⟩
end
end Fk

set_option maxHeartbeats 4000000
/-! Frames one after the other; logs that stay; references and a model that agree, moved to another heap. -/
namespace Fk
open PySem PySem.Spec PyProof.Rows L2
theorem FrL.then {L M : List Addr} {H H1 H2 : Hp} (f : FrL L H H1) (g : FrL M H1 H2) (h : ∀ b ∈ M, b ∈ L ∨ H b = none) : FrL L H H2 := fun b o n e =>
  g b o (fun hm => (h b hm).elim n (fun z => by rw [e] at z; cases z)) (f b o n e)
theorem FrL.then1 {L : List Addr} {a : Addr} {H H1 H2 : Hp} (f : FrL L H H1) (g : FrL [a] H1 H2) (h : a ∈ L ∨ H a = none) : FrL L H H2 := f.then g fun b hb => by rw [List.mem_singleton.mp hb]; exact h
theorem FrL.free {L : List Addr} {H H1 : Hp} (f : FrL L H H1) {b : Addr} (n : b ∉ L) (e : H1 b = none) : H b = none := by
  cases c : H b with
  | none => rfl
  | some o => rw [f b o n c] at e; cases e
theorem val_mem {t : Tab} {x : Str} {v : V} (h : valV t x = some v) : (x, v) ∈ t := by
  unfold valV at h
  cases c : t.find? fun kv => decide (kv.1 = x) with
  | none => rw [c] at h; cases h
  | some p =>
    rw [c] at h
    have m := List.mem_of_find?_eq_some c
    have e : p.1 = x := by have := List.find?_some (p := fun kv : Str × V => decide (kv.1 = x)) c; exact of_decide_eq_true this
    obtain ⟨a, b⟩ := p
    cases h
    cases e
    exact m
theorem Tups.cons {H : Hp} {a : Addr} {as : List Addr} {l : List V} {ls : List (List V)} (h : H a = some (.tup l)) (t : Tups H as ls) : Tups H (a :: as) (l :: ls) := by
  refine ⟨by rw [List.length_cons, List.length_cons, t.1], fun i b m h1 h2 => ?_⟩
  cases i with
  | zero => cases h1; cases h2; exact h
  | succ j => exact t.2 j b m h1 h2
theorem Tups.head {H : Hp} {a : Addr} {as : List Addr} {l : List V} {ls : List (List V)} (t : Tups H (a :: as) (l :: ls)) : H a = some (.tup l) := t.2 0 a l rfl rfl
theorem Tups.tail {H : Hp} {a : Addr} {as : List Addr} {l : List V} {ls : List (List V)} (t : Tups H (a :: as) (l :: ls)) : Tups H as ls := ⟨by have := t.1; rw [List.length_cons, List.length_cons] at this; omega, fun i b m h1 h2 => t.2 (i + 1) b m h1 h2⟩
theorem tups_filter {α : Type} {H : Hp} (f : α → List V) (p : α → Bool) : ∀ (cs : List α) (as : List Addr), Tups H as (cs.map f) → ∃ bs : List Addr, ((as.zip cs).filter fun z => p z.2).map (fun z => V.ref z.1) = bs.map V.ref ∧ Tups H bs ((cs.filter p).map f)
  | [], as, _ => ⟨[], by rw [List.zip_nil_right]; rfl, Tups.nil⟩
  | c :: cs, [], t => absurd t.1 (by simp)
  | c :: cs, a :: as, t => by
    obtain ⟨bs, e, tb⟩ := tups_filter f p cs as t.tail
    rw [List.zip_cons_cons, List.filter_cons, List.filter_cons]
    by_cases h : p c = true
    · refine ⟨a :: bs, ?_, ?_⟩
      · rw [if_pos h, List.map_cons, List.map_cons, e]
      · rw [if_pos h, List.map_cons]
        exact Tups.cons t.head tb
    · refine ⟨bs, ?_, ?_⟩
      · rw [if_neg h, e]
      · rw [if_neg h]
        exact tb
theorem int_refs {x y z : Int} {as : List Addr} : ([V.int x, .int y, .int z] : List V) ≠ as.map V.ref := fun h => by
  cases as with
  | nil => cases h
  | cons b r => injection h with h _; cases h
theorem LogsL.out {H H' : Hp} {t : Tab} {L : Str → List (List V)} {M : List Addr} (h : LogsL H t L) (k : TupKeep H H') (f : FrL M H H') (n : ∀ b ∈ M, ∀ as : List Addr, H b ≠ some (.lst (as.map V.ref))) : LogsL H' t L := fun x =>
  (h x).imp id fun ⟨p, as, a, b, c⟩ => ⟨p, as, a, f p _ (fun hm => n p hm as b) b, c.keep k⟩
theorem CallsL.out {H H' : Hp} {lc : Addr} {cs : List (Str × V × V)} {M : List Addr} (h : CallsL H lc cs) (k : TupKeep H H') (f : FrL M H H') (n : lc ∉ M) : CallsL H' lc cs := by
  obtain ⟨as, a, b⟩ := h
  exact ⟨as, f lc _ n a, b.keep k⟩
theorem CallsL.same {H H' : Hp} {lc : Addr} {cs : List (Str × V × V)} (h : CallsL H lc cs) (s : Same H H') : CallsL H' lc cs := by
  obtain ⟨as, a, b⟩ := h
  exact ⟨as, s _ _ a, b.keep (TupKeep.of s)⟩
theorem callPut_nd {cs : List (Str × V × V)} {x : Str} {v o : V} (h : (cs.map (·.1)).Nodup) : ((callPut cs x v o).map (·.1)).Nodup := by
  unfold callPut
  rw [List.map_append, List.nodup_append]
  refine ⟨List.Nodup.sublist ((List.filter_sublist).map _) h, by simp, fun a ha b hb => ?_⟩
  obtain ⟨c, hc, rfl⟩ := List.mem_map.mp ha
  have := of_decide_eq_true (List.mem_filter.mp hc).2
  simp at hb
  rw [hb]
  exact this
theorem callPut_len (cs : List (Str × V × V)) (x : Str) (v o : V) : (callPut cs x v o).length ≤ cs.length + 1 := by
  unfold callPut
  rw [List.length_append]
  have := List.length_filter_le (fun c : Str × V × V => decide (c.1 ≠ x)) cs
  show _ + 1 ≤ _
  omega
theorem mem_callPut {cs : List (Str × V × V)} {x : Str} {v o : V} {c : Str × V × V} (h : c ∈ callPut cs x v o) : c ∈ cs ∨ c = (x, v, o) := by
  rcases List.mem_append.mp h with h | h
  · exact .inl (List.mem_filter.mp h).1
  · exact .inr (List.mem_singleton.mp h)
end Fk

set_option maxHeartbeats 4000000
/-! A comprehension over zip of two tuples. -/
namespace Fk
open PySem PySem.Spec PyProof.Rows L2 RZ
theorem lc_zipT {K : PySem.W.Frag} {a b D : Addr} {xs ys : List V} {σ : L2.St} {vs : List Nat} {g : TG} {tt : TT} {te : TE} {Q : Hp → Prop} {H1 : Hp} {n : Nat} (f : Nat → V) (hD1 : H1 D = none) (ha : ∀ H, Same H1 H → SqT K H a xs) (hb : ∀ H, Same H1 H → SqT K H b ys)
    (hx : n ≤ xs.length) (hy : n ≤ ys.length) (hn : xs.length ≤ n ∨ ys.length ≤ n) (hl : n ≤ 1000000)
    (hs : ∀ i x y T H, i < n → xs[i]? = some x → ys[i]? = some y → Same H1 H → H T = some (.tup [x, y]) → ∀ (N : VK) (M : Hp → Prop), (∀ H3, Same H H3 → N (f i) H3) →
      g (.ref T) (wipe σ vs) H fun σ2 H2 => wipe σ2 vs = wipe σ vs ∧ tt σ2 H2 fun bb H3 => if bb = true then te σ2 H3 N else M H3)
    (hd : ∀ H, Same H1 H → H D = some (.lst ((List.range n).map f)) → Q H) :
    ∃ W : Nat → Nat → Hp → Prop, (∃ m, W 0 m (upd H1 D (.lst []))) ∧ ∀ k m H, W k m H →
      ((ItzT K a b).stop k H ∧ Q H) ∨ ((ItzT K a b).go k H ∧ ∃ Nx : Hp → Prop, (∀ H', Nx H' → ∃ m', m' < m ∧ W (k + 1) m' H') ∧ ∀ x H', (ItzT K a b).yld k H x H' → g x (wipe σ vs) H' fun σ2 H2 => wipe σ2 vs = wipe σ vs ∧ tt σ2 H2 fun bb H3 =>
        if bb = true then te σ2 H3 fun y H4 => ∃ acc, H4 D = some (.lst acc) ∧ acc.length < sizeLine ∧ Nx (upd H4 D (.lst (acc ++ [y]))) else Nx H3) := by
  refine ⟨fun k m H => m = n - k ∧ k ≤ n ∧ Same H1 H ∧ H D = some (.lst ((List.range k).map f)), ⟨n, by omega, Nat.zero_le _, same_new hD1, upd_same⟩, ?_⟩
  rintro k m H ⟨rfl, hk, s1, hD⟩
  by_cases hlt : k < n
  · have lx : k < xs.length := by omega
    have ly : k < ys.length := by omega
    refine .inr ⟨⟨xs, ys, xs[k], ys[k], ha H s1, hb H s1, List.getElem?_eq_getElem lx, List.getElem?_eq_getElem ly⟩, fun H' => Same H1 H' ∧ H' D = some (.lst ((List.range (k + 1)).map f)), fun H' q => ⟨n - (k + 1), by omega, rfl, hlt, q⟩, fun x H' y => ?_⟩
    obtain ⟨T, u, v, rfl, hT, rfl, gx, gy⟩ := y
    have s2 := same_new (o := .tup [u, v]) hT
    refine hs k u v T _ hlt (gx xs (ha H s1)) (gy ys (hb H s1)) (s1.trans s2) upd_same _ _ fun H3 s3 => ⟨_, s3 _ _ (s2 _ _ hD), small_lt (by rw [List.length_map, List.length_range]; omega), fun c o e => ?_, ?_⟩
    · rw [upd_ne (ne_of_none e hD1)]
      exact s3 _ _ (s2 _ _ (s1 _ _ e))
    · rw [upd_same, List.range_succ, List.map_append]
      rfl
  · have e : k = n := by omega
    subst e
    exact .inl ⟨⟨xs, ys, ha H s1, hb H s1, hn⟩, hd H s1 hD⟩
theorem lc_gen {α : Type} {J : It} {us : List α} {val : α → V} {G : Hp → Prop} {H1 : Hp} {D : Addr} {σ : L2.St} {vs : List Nat} {g : TG} {tt : TT} {te : TE} {Q : Hp → Prop} (Y : Yields J (us.map val) G) (f : α → V) (p : α → Bool) (σf : α → L2.St) (hD1 : H1 D = none) (hG : ∀ H, Same H1 H → G H) (hw : ∀ u ∈ us, wipe (σf u) vs = wipe σ vs)
    (hg : ∀ H u, Same H1 H → u ∈ us → ∀ (R : L2.St → Hp → Prop), R (σf u) H → g (val u) (wipe σ vs) H R)
    (ht : ∀ H u, Same H1 H → u ∈ us → ∀ (R : Bool → Hp → Prop), (∀ H3, Same H H3 → R (p u) H3) → tt (σf u) H R)
    (he : ∀ H u, Same H1 H → u ∈ us → p u = true → ∀ (R : VK), (∀ H3, Same H H3 → R (f u) H3) → te (σf u) H R)
    (hl : us.length ≤ 1000000) (hd : ∀ H, Same H1 H → H D = some (.lst ((us.filter p).map f)) → Q H) :
    ∃ W : Nat → Nat → Hp → Prop, (∃ m, W 0 m (upd H1 D (.lst []))) ∧ ∀ k m H, W k m H →
      (J.stop k H ∧ Q H) ∨ (J.go k H ∧ ∃ Nx : Hp → Prop, (∀ H', Nx H' → ∃ m', m' < m ∧ W (k + 1) m' H') ∧ ∀ x H', J.yld k H x H' → g x (wipe σ vs) H' fun σ2 H2 => wipe σ2 vs = wipe σ vs ∧ tt σ2 H2 fun b H3 =>
        if b = true then te σ2 H3 fun y H4 => ∃ acc, H4 D = some (.lst acc) ∧ acc.length < sizeLine ∧ Nx (upd H4 D (.lst (acc ++ [y]))) else Nx H3) := by
  refine lcG Y (fun k acc H => Same H1 H ∧ acc = ((us.take k).filter p).map f) (fun k acc H h _ => hG H h.1) ⟨same_new hD1, rfl⟩ (fun k acc H x hI hD hx hacc hk => ?_) (by rw [List.length_map]; exact hl) (fun acc H hI hD _ => ?_)
  · obtain ⟨sm, ea⟩ := hI
    rw [List.getElem?_map] at hx
    cases hu : us[k]? with
    | none => rw [hu] at hx; cases hx
    | some u =>
      rw [hu] at hx
      cases hx
      have hm : u ∈ us := List.mem_of_getElem? hu
      have et : us.take (k + 1) = us.take k ++ [u] := by
        rw [List.take_add_one, hu]
        rfl
      refine hg H u sm hm _ ⟨hw u hm, ?_⟩
      refine ht H u sm hm _ (fun H3 s3 => ?_)
      by_cases hp : p u = true
      · rw [if_pos hp]
        refine he H3 u (sm.trans s3) hm hp _ (fun H4 s4 => ?_)
        refine lc_take (s4 _ _ (s3 _ _ hD)) hacc hk ⟨same_mut ((sm.trans s3).trans s4) hD1, ?_⟩
        rw [et, List.filter_append, List.map_append, List.filter_cons, hp, ea]
        rfl
      · rw [if_neg hp]
        refine lc_skip (s3 _ _ hD) hacc ⟨sm.trans s3, ?_⟩
        rw [et, List.filter_append, List.map_append, List.filter_cons, if_neg hp, ea]
        simp
  · obtain ⟨sm, ea⟩ := hI
    rw [List.length_map, List.take_length] at ea
    exact hd H sm (by rw [hD, ea])
def rLenQ (K : PySem.W.Frag) : List V → Hp → VK → Prop := fun xs H Q => ∃ p ys, xs = [.ref p] ∧ (SqL K H p ys ∨ SqT K H p ys) ∧ Q (.int ys.length) H
theorem ciK {X : Cx} {K : PySem.W.Frag} (h : X.K = K) : CallR X (.builtin "isinstance") (rIsi K) := h ▸ call_isi
theorem clK {X : Cx} {K : PySem.W.Frag} (h : X.K = K) : CallR X (.builtin "len") (rLenQ K) := h ▸ call_len_seq
end Fk

/-! truth of a thing within a comprehension, K given -/
namespace Fk
open PySem PySem.Spec PyProof.Rows L2
def tTruK (K : PySem.W.Frag) (ta : TE) : TT := fun σ H Q => ta σ H fun x H' => ∃ k, TruV K x H' k ∧ Q k H'
theorem ptK_truth {X : Cx} {K : PySem.W.Frag} {a : Expr} {ta : TE} (h : X.K = K) (ha : PE X a ta) (he : ∀ whole, isTrue a X.env whole = (do let v ← whole; standAt a.pos; holding [v] (truthy v))) : PT X a (tTruK K ta) := h ▸ pt_truth ha he
end Fk

set_option maxHeartbeats 4000000
/-! iter(bytes); a walk over zip of eight times the same iterator of bytes. -/
namespace Fk
open PySem PySem.Spec PyProof.Rows L2 PySem.W.KBw
open PySem.Sem (wp)
abbrev I8 (it : Addr) : Array Value := #[.ref it, .ref it, .ref it, .ref it, .ref it, .ref it, .ref it, .ref it]
abbrev IsT8 (h : Heap) (T : Addr) (xs : Array Value) : Prop := h.get? T = some { cls := .type "tuple", data := .seq xs }
section
variable {prog : Program} {w : World} {A : Around} {E : Value → Shared → Prop} {s : Shared} {b : Array UInt8} {t : Tok}
theorem nextOf_bytes_item {it : Addr} {i : Nat} {c : UInt8} {Q : Value → Shared → Prop} (hit : IsBytesIter s.heap it b t i) (hx : b[i]? = some c)
    (hQ : ∀ h', IsBytesIter h' it b t (i + 1) → Heap.SameBut it s.heap h' → Q (.int (c.toNat : Int) s.toks) { s with heap := h', toks := s.toks + 1 }) :
    wpAny (model prog w) A (Builtin.SmallTypes.nextOf (.ref it)) Q E s := by
  obtain ⟨o, ho, hc, hd⟩ := id hit
  unfold Builtin.SmallTypes.nextOf
  refine wpAny_bind (wpAny_callSpecial?_slot (name := Str.ofString "__next__") (iter_typeIs hit) slot_next
    (wpAny_call_entry slot_next (iter_typeIs hit) entry_next ?_ (args_next _)))
  show wpAny _ _ (field (.ref it) 0 >>= _) _ _ s
  refine wpAny_bind (wpAny_field ho hd (x := .bytes b t) rfl ?_)
  show wpAny _ _ (if (Value.bytes b t == Value.none) = true then _ else _) _ _ s
  rw [if_neg (show ¬ ((Value.bytes b t == Value.none) = true) from Bool.false_ne_true)]
  show wpAny _ _ (field (.ref it) 1 >>= _) _ _ s
  refine wpAny_bind (wpAny_field ho hd (x := .int i 0) rfl ?_)
  refine wpAny_bind (wpAny_of_eq (a := b) rfl ?_)
  simp only [Int.toNat_natCast, hx]
  refine wpAny_bind (wpAny_setField ho hd (by simp) (wpAny_bind (wpAny_mkInt (wpAny_pure ⟨_, rfl, wpAny_pure (hQ _ ?_ (Heap.SameBut.update ..))⟩))))
  exact ⟨_, Heap.get?_update_self _ ho (Obj.isFreed_of_fields (Obj.data_mapFields hd _)), (Obj.cls_mapFields ..).trans hc, by
    rw [Obj.data_mapFields hd]; simp [rawInt]⟩
theorem nextOf_bytes_end {it : Addr} {i : Nat} {Q : Value → Shared → Prop} (hh : A.handled = none) (hit : IsBytesIter s.heap it b t i) (hx : b[i]? = none)
    (hE : ∀ h' e, Heap.ExtBut it s.heap h' → (∃ o, h'.get? e = some o ∧ o.cls = .type "StopIteration") → E (.ref e) { s with heap := h' }) :
    wpAny (model prog w) A (Builtin.SmallTypes.nextOf (.ref it)) Q E s := by
  obtain ⟨o, ho, hc, hd⟩ := id hit
  unfold Builtin.SmallTypes.nextOf
  refine wpAny_bind (wpAny_callSpecial?_slot (name := Str.ofString "__next__") (iter_typeIs hit) slot_next
    (wpAny_call_entry slot_next (iter_typeIs hit) entry_next ?_ (args_next _)))
  show wpAny _ _ (field (.ref it) 0 >>= _) _ _ s
  refine wpAny_bind (wpAny_field ho hd (x := .bytes b t) rfl ?_)
  show wpAny _ _ (if (Value.bytes b t == Value.none) = true then _ else _) _ _ s
  rw [if_neg (show ¬ ((Value.bytes b t == Value.none) = true) from Bool.false_ne_true)]
  show wpAny _ _ (field (.ref it) 1 >>= _) _ _ s
  refine wpAny_bind (wpAny_field ho hd (x := .int i 0) rfl ?_)
  refine wpAny_bind (wpAny_of_eq (a := b) rfl ?_)
  simp only [Int.toNat_natCast, hx]
  refine wpAny_bind (wpAny_rule (wpAny_bind (wpAny_setField ho hd (by simp) ?_)))
  show wpAny _ _ (newExc (.type "StopIteration") [] >>= _) _ _ _
  refine wpAny_bind ?_
  simp only [newExc, newTuple]
  refine wpAny_bind (wpAny_newObj_type ?_ (by size_fits))
  refine wpAny_bind (m := firstArgMember _ _) (wpAny_of_eq (a := Value.none) (by first | rfl | (simp only [firstArgMember]; rfl)) ?_)
  refine wpAny_newObj_type ?_ (by size_fits)
  simp only [raiseNew]
  refine wpAny_bind (wpAny_handled ?_)
  first | rw [show A.in1.handled = none from hh] | rw [hh]
  refine wpAny_bind (wpAny_pure (wpAny_throw ?_))
  exact hE _ _ (((Heap.SameBut.update ..).extBut.push _).push _) ⟨_, Heap.get?_push_size _ rfl, rfl⟩
theorem updateSeq_t8 {T : Addr} {xs : Array Value} {x : Value} {k : Nat} {Q : Unit → Shared → Prop} (hT : IsT8 s.heap T xs) (hz : xs.size ≤ 100)
    (h : ∀ h', IsT8 h' T (xs.setIfInBounds k x) → Heap.SameBut T s.heap h' → Q () { s with heap := h' }) :
    wpAny (model prog w) A (updateSeq T (·.setIfInBounds k x)) Q E s := by
  refine wpAny_updateSeq hT rfl (h _ ?_ (Heap.SameBut.update ..)) (Nat.le_trans hz (by decide)) (by rw [Array.size_setIfInBounds]; exact Nat.le_trans hz (by decide))
  show (s.heap.update T _).get? T = _
  rw [Heap.get?_update_self _ hT rfl]
  simp [Obj.mapSeq]
end
section
variable {prog : Program} {w : World} {A : Around} {E : Value → Shared → Prop} {b : Array UInt8} {t : Tok}
theorem nextOf_bytes_item' {hp g d tk os} {it : Addr} {i : Nat} {c : UInt8} {Q : Value → Shared → Prop} (hit : IsBytesIter hp it b t i) (hx : b[i]? = some c)
    (hQ : ∀ h', IsBytesIter h' it b t (i + 1) → Heap.SameBut it hp h' → Q (.int (c.toNat : Int) tk) ⟨h', g, d, tk + 1, os⟩) :
    wpAny (model prog w) A (Builtin.SmallTypes.nextOf (.ref it)) Q E ⟨hp, g, d, tk, os⟩ := nextOf_bytes_item (s := ⟨hp, g, d, tk, os⟩) hit hx hQ
theorem updateSeq_t8' {hp g d tk os} {T : Addr} {xs : Array Value} {x : Value} {k : Nat} {Q : Unit → Shared → Prop} (hT : IsT8 hp T xs) (hz : xs.size ≤ 100)
    (h : ∀ h', IsT8 h' T (xs.setIfInBounds k x) → Heap.SameBut T hp h' → Q () ⟨h', g, d, tk, os⟩) :
    wpAny (model prog w) A (updateSeq T (·.setIfInBounds k x)) Q E ⟨hp, g, d, tk, os⟩ := updateSeq_t8 (s := ⟨hp, g, d, tk, os⟩) hT hz h
theorem seqItems_t8' {hp g d tk os} {T : Addr} {xs : Array Value} {Q : Option (Array Value) → Shared → Prop} (hT : IsT8 hp T xs) (h : Q (some xs) ⟨hp, g, d, tk, os⟩) : wpAny (model prog w) A (seqItems? (.ref T)) Q E ⟨hp, g, d, tk, os⟩ := wpAny_seqItems hT rfl h
theorem setField_z' {hp g d tk os} {a : Addr} {cls : Value} {vs : Array Value} {k : Nat} {x : Value} {Q : Unit → Shared → Prop}
    (ho : hp.get? a = some { cls := cls, dict := none, data := .fields vs, slots := #[] }) (hk : k < vs.size)
    (h : ∀ h', h'.get? a = some { cls := cls, dict := none, data := .fields (vs.setIfInBounds k x), slots := #[] } → Heap.SameBut a hp h' → Q () ⟨h', g, d, tk, os⟩) :
    wpAny (model prog w) A (setField (.ref a) k x) Q E ⟨hp, g, d, tk, os⟩ := wpAny_setField_rec (s := ⟨hp, g, d, tk, os⟩) ho hk h
theorem newTuple_z' {hp g d tk os} {items : List Value} {Q : Value → Shared → Prop} (h : Q (.ref hp.objs.size) ⟨hp.push { cls := .type "tuple", data := .seq items.toArray }, g, d, tk, os⟩)
    (hsz : items.length ≤ sizeLine) : wpAny (model prog w) A (newTuple items) Q E ⟨hp, g, d, tk, os⟩ := wpAny_newTuple (s := ⟨hp, g, d, tk, os⟩) h hsz
/-- the bytes from m0 on, as ints -/
def bI (b : Array UInt8) (k : Nat) : Int := ((b.getD k 0).toNat : Int)
theorem bI_get {b : Array UInt8} {k : Nat} (h : k < b.size) : b[k]? = some (b.getD k 0) := by
  rw [Array.getElem?_eq_getElem h, Array.getD_eq_getD_getElem?, Array.getElem?_eq_getElem h] <;> rfl
def RowI (b : Array UInt8) (m0 : Nat) (us : List Value) : Prop := ∀ i v, us[i]? = some v → ∃ t, v = Value.int (bI b (m0 + i)) t
theorem RowI.snoc {b : Array UInt8} {m0 : Nat} {us : List Value} (h : RowI b m0 us) (t : Tok) : RowI b m0 (us ++ [.int (bI b (m0 + us.length)) t]) := fun i v e => by
  by_cases c : i < us.length
  · rw [List.getElem?_append_left c] at e
    exact h i v e
  · rw [List.getElem?_append_right (by omega)] at e
    have e0 : i - us.length = 0 := by
      by_cases q : i - us.length = 0
      · exact q
      · rw [List.getElem?_eq_none (by simp; omega)] at e
        cases e
    rw [e0] at e
    have ei : i = us.length := by omega
    cases e
    exact ⟨t, by rw [ei]⟩
/-- what j draws leave -/
structure Dr (b : Array UInt8) (t : Tok) (z TI TO it : Addr) (h0 : Heap) (m0 j : Nat) (h : Heap) : Prop where
  hz : IsZip h z TI TO .ellipsis
  hTO : ∃ us rest : List Value, us.length = j ∧ us.length + rest.length = 8 ∧ RowI b m0 us ∧ IsT8 h TO (us ++ rest).toArray
  hit : IsBytesIter h it b t (m0 + j)
  hk : ∀ c o, c ≠ z → c ≠ TO → c ≠ it → h0.get? c = some o → h.get? c = some o
  sz : h.objs.size = h0.objs.size
/-- apart -/
structure Z8 (z TI TO it : Addr) : Prop where
  zi : z ≠ it
  zO : z ≠ TO
  Oi : TO ≠ it
  Iz : TI ≠ z
  IO : TI ≠ TO
  Ii : TI ≠ it
theorem forIn_draws {β : Type} {body : (Value × Nat) → β → Sem (ForInStep β)} {init : β} {z TI TO it : Addr} {h0 : Heap} {m0 : Nat} {gs dr os}
    (hbody : ∀ (h : Heap) (tk : Nat) (j : Nat) (Q : ForInStep β → Shared → Prop), Dr b t z TI TO it h0 m0 j h → j < 8 → (∀ h' tk', Dr b t z TI TO it h0 m0 (j + 1) h' → Q (.yield init) ⟨h', gs, dr, tk', os⟩) → wpAny (model prog w) A (body (.ref it, j) init) Q E ⟨h, gs, dr, tk, os⟩)
    {Q : β → Shared → Prop} (hQ : ∀ h tk, Dr b t z TI TO it h0 m0 8 h → Q init ⟨h, gs, dr, tk, os⟩) :
    ∀ (n j : Nat) (h : Heap) (tk : Nat), n + j = 8 → Dr b t z TI TO it h0 m0 j h → wpAny (model prog w) A (forIn ((List.replicate n (Value.ref it)).zipIdx j) init body) Q E ⟨h, gs, dr, tk, os⟩ := by
  intro n
  induction n with
  | zero =>
    intro j h tk e D
    rw [show j = 8 by omega] at D
    simp only [List.replicate_zero, List.zipIdx_nil, List.forIn_nil]
    exact wpAny_pure (hQ h tk D)
  | succ n ih =>
    intro j h tk e D
    rw [List.replicate_succ, List.zipIdx_cons, List.forIn_cons]
    refine wpAny_bind (hbody h tk j _ D (by omega) fun h' tk' D' => ?_)
    exact ih (j + 1) h' tk' (by omega) D'
theorem zip8_item {s : Shared} {z TI TO it : Addr} {m : Nat} {xs : List Value} {Q : Value → Shared → Prop} (Z : Z8 z TI TO it)
    (hz : IsZip s.heap z TI TO .none) (hTI : IsT8 s.heap TI (I8 it)) (hTO : IsT8 s.heap TO xs.toArray) (hxz : xs.length = 8) (hit : IsBytesIter s.heap it b t m) (hb : m + 8 ≤ b.size)
    (hQ : ∀ h' tk us, us.length = 8 → RowI b m us → IsZip h' z TI TO (rawInt s.heap.objs.size) → IsT8 h' TO us.toArray → IsBytesIter h' it b t (m + 8) → IsT8 h' s.heap.objs.size us.toArray →
      (∀ c o, c ≠ z → c ≠ TO → c ≠ it → s.heap.get? c = some o → h'.get? c = some o) → Q (.ref s.heap.objs.size) { s with heap := h', toks := tk }) :
    wpAny (model prog w) A (Builtin.«zip.__next__» ⟨[.ref z], []⟩) (fun fin s' => ∃ v, fin = .done (.ret v) ∧ Q v s') E s := by
  obtain ⟨hp, gs, dr, tk, os⟩ := s
  replace hz : IsZip hp z TI TO .none := hz
  replace hTO : IsT8 hp TO xs.toArray := hTO
  replace hTI : IsT8 hp TI (I8 it) := hTI
  replace hit : IsBytesIter hp it b t m := hit
  show wpAny _ _ (field (.ref z) 2 >>= _) _ _ _
  refine wpAny_bind (wpAny_field hz rfl (x := .bool false) rfl ?_)
  show wpAny _ _ (field (.ref z) 3 >>= _) _ _ _
  refine wpAny_bind (wpAny_field hz rfl (x := .ref TI) rfl ?_)
  refine wpAny_bind (seqItems_t8' hTI ?_)
  show wpAny _ _ (Builtin.SmallTypes.ownedTupleIsFree (.ref z) >>= _) _ _ _
  refine wpAny_bind ?_
  unfold Builtin.SmallTypes.ownedTupleIsFree
  refine wpAny_bind (wpAny_field hz rfl (x := .none) rfl (wpAny_pure ?_))
  simp only [if_true]
  refine wpAny_bind (wpAny_rule ?_)
  refine wpAny_bind (wpAny_field hz rfl (x := .ref TO) rfl ?_)
  refine wpAny_bind (setField_z' hz (by simp) fun h₀ hz₀ hs₀ => ?_)
  have D0 : Dr b t z TI TO it hp m 0 h₀ := ⟨hz₀, ⟨[], xs, rfl, by rw [hxz]; rfl, fun i v e => by simp at e, hs₀.extBut _ _ Z.zO.symm hTO⟩, (by obtain ⟨o, ho, r⟩ := hit; exact ⟨o, hs₀.extBut _ _ Z.zi.symm ho, r⟩), fun c o c1 _ _ e => hs₀.extBut _ _ c1 e, hs₀.1⟩
  clear hz₀ hs₀
  refine wpAny_bind ?_
  show wpAny _ _ (forIn ((List.replicate 8 (Value.ref it)).zipIdx 0) _ _) _ _ _
  refine forIn_draws (b := b) (t := t) (z := z) (TI := TI) (TO := TO) (h0 := hp) (m0 := m) (fun h tk j Q D hj hq => ?_) (fun h tk D => ?_) 8 0 h₀ tk rfl D0
  · refine wpAny_bind (wpAny_onRaise ?_)
    show wpAny _ _ (Builtin.SmallTypes.nextOf (.ref it) >>= _) _ _ _
    refine wpAny_bind (nextOf_bytes_item' D.hit (bI_get (by omega)) fun g ig sg => wpAny_pure ?_)
    obtain ⟨us, rest, e1, e2, ri, hT⟩ := D.hTO
    cases rest with
    | nil => simp at e2; omega
    | cons r rest =>
      have hT1 := sg.extBut _ _ Z.Oi hT
      refine wpAny_bind (seqItems_t8' hT1 ?_)
      refine wpAny_bind (updateSeq_t8' hT1 (by simp only [List.size_toArray, List.length_append]; omega) fun h1 t1 s1 => ?_)
      refine wpAny_bind (wpAny_letGo (wpAny_pure (hq h1 _ ?_)))
      refine ⟨s1.extBut _ _ Z.zO (sg.extBut _ _ Z.zi D.hz), ⟨us ++ [.int (bI b (m + us.length)) tk], rest, by rw [List.length_append, e1]; rfl, by rw [List.length_append]; simp at e2 ⊢; omega, ri.snoc tk, ?_⟩, ?_, fun c o c1 c2 c3 e => s1.extBut _ _ c2 (sg.extBut _ _ c3 (D.hk c o c1 c2 c3 e)), by rw [s1.1, sg.1, D.sz]⟩
      · have ex : ((us ++ r :: rest).toArray).setIfInBounds j (Value.int (bI b (m + us.length)) tk) = (us ++ [Value.int (bI b (m + us.length)) tk] ++ rest).toArray := by
          rw [List.setIfInBounds_toArray, List.set_append_right _ _ (by omega), show j - us.length = 0 by omega, List.append_assoc]
          rfl
        rw [← ex]
        rw [show m + us.length = m + j by rw [e1]]
        exact t1
      · obtain ⟨o, ho, rr⟩ := ig
        exact ⟨o, s1.extBut _ _ Z.Oi.symm ho, rr⟩
  · obtain ⟨us, rest, e1, e2, ri, hT⟩ := D.hTO
    have er : rest = [] := List.eq_nil_of_length_eq_zero (by omega)
    subst er
    rw [List.append_nil] at hT
    have hlz : z < h.objs.size := Heap.lt_size D.hz
    refine wpAny_bind (seqItems_t8' hT ?_)
    refine wpAny_bind (newTuple_z' ?_ (by show us.length ≤ sizeLine; rw [e1]; decide))
    show wpAny _ _ (Builtin.SmallTypes.ownedTupleHandOut (.ref z) (.ref h.objs.size) >>= _) _ _ _
    refine wpAny_bind ?_
    unfold Builtin.SmallTypes.ownedTupleHandOut
    refine wpAny_bind (setField_z' (Heap.get?_push_of_some _ D.hz) (by simp) fun h₇ hz₇ hs₇ => ?_)
    replace hz₇ : IsZip h₇ z TI TO (rawInt h.objs.size) := hz₇
    refine setField_z' hz₇ (by simp) fun h₈ hz₈ hs₈ => ?_
    replace hz₈ : IsZip h₈ z TI TO (rawInt h.objs.size) := hz₈
    have up : ∀ c o, c ≠ z → h.get? c = some o → h₈.get? c = some o := fun c o c1 e => hs₈.extBut _ _ c1 (hs₇.extBut _ _ c1 (Heap.get?_push_of_some _ e))
    have hT₈ : IsT8 h₈ h.objs.size us.toArray := hs₈.extBut _ _ (Nat.ne_of_gt hlz) (hs₇.extBut _ _ (Nat.ne_of_gt hlz) (Heap.get?_push_size _ rfl))
    rw [D.sz] at hz₈ hT₈
    refine wpAny_pure ⟨_, rfl, ?_⟩
    show Q (.ref h.objs.size) _
    rw [D.sz]
    refine hQ h₈ _ us e1 ri hz₈ (up _ _ Z.zO.symm hT) ?_ hT₈ fun c o c1 c2 c3 e => up c o c1 (D.hk c o c1 c2 c3 e)
    obtain ⟨o, ho, r⟩ := D.hit
    exact ⟨o, up _ o Z.zi.symm ho, r⟩
theorem zip8_end {s : Shared} {z TI TO it : Addr} {m : Nat} {xs : Array Value} {Q : Fin → Shared → Prop} (hh : A.handled = none) (Z : Z8 z TI TO it)
    (hz : IsZip s.heap z TI TO .none) (hTI : IsT8 s.heap TI (I8 it)) (hTO : IsT8 s.heap TO xs) (hit : IsBytesIter s.heap it b t m) (hx : b[m]? = none)
    (hE : ∀ h' e, (∀ c o, c ≠ z → c ≠ TO → c ≠ it → s.heap.get? c = some o → h'.get? c = some o) → (∃ o, h'.get? e = some o ∧ o.cls = .type "StopIteration") → E (.ref e) { s with heap := h' }) :
    wpAny (model prog w) A (Builtin.«zip.__next__» ⟨[.ref z], []⟩) Q E s := by
  show wpAny _ _ (field (.ref z) 2 >>= _) _ _ _
  refine wpAny_bind (wpAny_field hz rfl (x := .bool false) rfl ?_)
  show wpAny _ _ (field (.ref z) 3 >>= _) _ _ _
  refine wpAny_bind (wpAny_field hz rfl (x := .ref TI) rfl ?_)
  refine wpAny_bind (wpAny_seqItems hTI rfl ?_)
  show wpAny _ _ (Builtin.SmallTypes.ownedTupleIsFree (.ref z) >>= _) _ _ _
  refine wpAny_bind ?_
  unfold Builtin.SmallTypes.ownedTupleIsFree
  refine wpAny_bind (wpAny_field hz rfl (x := .none) rfl (wpAny_pure ?_))
  simp only [if_true]
  refine wpAny_bind (wpAny_rule ?_)
  refine wpAny_bind (wpAny_field hz rfl (x := .ref TO) rfl ?_)
  refine wpAny_bind (wpAny_setField_rec hz (by simp) fun h₁ hz₁ hs₁ => ?_)
  replace hz₁ : IsZip h₁ z TI TO .ellipsis := hz₁
  refine wpAny_bind ?_
  simp only [List.zipIdx_cons, List.zipIdx_nil, List.forIn_cons, List.forIn_nil]
  refine wpAny_bind (wpAny_bind (wpAny_onRaise ?_))
  show wpAny _ _ (Builtin.SmallTypes.nextOf (.ref it) >>= _) _ _ _
  have hit₁ : IsBytesIter h₁ it b t m := by obtain ⟨o, ho, r⟩ := hit; exact ⟨o, hs₁.extBut _ _ Z.zi.symm ho, r⟩
  refine wpAny_bind (nextOf_bytes_end hh hit₁ hx fun h₂ e hs₂ he => ?_)
  obtain ⟨oe, hoe, hce⟩ := he
  have hz₂ : IsZip h₂ z TI TO .ellipsis := hs₂ _ _ Z.zi hz₁
  have hez : e ≠ z := fun x => by subst x; rw [hz₂] at hoe; cases hoe; simp at hce
  exact wpAny_setField_rec hz₂ (by simp) fun h₃ _ hs₃ => hE h₃ e (fun c o c1 _ c3 x => hs₃.extBut _ _ c1 (hs₂ _ _ c3 (hs₁.extBut _ _ c1 x))) ⟨oe, hs₃.extBut _ _ hez hoe, hce⟩
end
end Fk

set_option maxHeartbeats 4000000
/-! iter(bytes); for .. in zip(it, .. eight times): the rules. -/
namespace Fk
open PySem PySem.Spec PyProof.Rows L2 PySem.W.KBw
theorem typeCall_zip_8 (a : Value) : checkTypeCall "zip" ⟨[a, a, a, a, a, a, a, a], []⟩ = pure () := by kernel_rfl
theorem newCall_zip_8 (a : Value) : checkBuiltinCall "zip.__new__" ⟨[.type "zip", a, a, a, a, a, a, a, a], []⟩ = pure () := by kernel_rfl
theorem args_oi_9 (o a : Value) : argsOk "object.__init__" ⟨[o, a, a, a, a, a, a, a, a], []⟩ := by
  unfold argsOk; rw [signature?_of (id := "object.__init__") (n := ['_', '_', 't', 'i', 'n', 'i', '_', '_']) (o := ['t', 'c', 'e', 'j', 'b', 'o']) (by kernel_rfl) F.owner_object]; kernel_rfl
abbrev z8H1 (h : Heap) (it : Addr) : Heap := h.push { cls := .type "tuple", data := .seq (I8 it) }
abbrev z8H2 (h : Heap) (it : Addr) : Heap := (z8H1 h it).push { cls := .type "tuple", data := .seq #[.none, .none, .none, .none, .none, .none, .none, .none] }
abbrev z8H3 (h : Heap) (it : Addr) : Heap := (z8H2 h it).push { cls := .type "zip", data := .fields #[.none, .bool false, .bool false, .ref h.objs.size, .ref (z8H1 h it).objs.size] }
theorem meets_zip8 (it : Addr) (b : Array UInt8) (t : Tok) :
    Meets (Builtin.«zip.__new__» ⟨[.type "zip", .ref it, .ref it, .ref it, .ref it, .ref it, .ref it, .ref it, .ref it], []⟩) (fun _ R s => IsBytesIter s.heap it b t 0 ∧
      R (.ok (.ret (.ref (z8H2 s.heap it).objs.size))) { s with heap := z8H3 s.heap it }) :=
  .of_wp fun prog w A R s h => by
    obtain ⟨hp, g, d, tk, os⟩ := s; obtain ⟨hi, h⟩ := h
    have hsub := sub_zip
    have hI : IsBytesIter (Shared.heap ⟨hp, g, d, tk, os⟩) it b t 0 := hi
    wp_walk using pyIter_self hI
    exact ⟨_, rfl, h⟩
section
variable {prog : Program} {w : World} {A : Around} {E : Value → Shared → Prop} {s : Shared} {b : Array UInt8} {t : Tok}
theorem call_zip8 {it : Addr} {Q : Value → Shared → Prop} (hi : IsBytesIter s.heap it b t 0)
    (h : ∀ h', IsZip h' (s.heap.objs.size + 2) s.heap.objs.size (s.heap.objs.size + 1) .none → IsT8 h' s.heap.objs.size (I8 it) → IsT8 h' (s.heap.objs.size + 1) #[.none, .none, .none, .none, .none, .none, .none, .none] →
      (∀ c o, s.heap.get? c = some o → h'.get? c = some o) → Q (.ref (s.heap.objs.size + 2)) { s with heap := h' }) :
    wpAny (model prog w) A (call (.type "zip") [.ref it, .ref it, .ref it, .ref it, .ref it, .ref it, .ref it, .ref it]) Q E s := by
  refine callType_new F.called_zip (by decide) (typeCall_zip_8 _) (newCall_zip_8 _) (fun obj => args_oi_9 obj _) F.entry_zip_new
    (meets_zip8 it b t) ⟨hi, ?_⟩
  have z1 : (z8H1 s.heap it).objs.size = s.heap.objs.size + 1 := Heap.size_push ..
  have z2 : (z8H2 s.heap it).objs.size = s.heap.objs.size + 2 := by rw [Heap.size_push, z1]
  have g3 : (z8H3 s.heap it).get? (z8H2 s.heap it).objs.size = some _ := Heap.get?_push_size _ rfl
  have g2 : (z8H3 s.heap it).get? (z8H1 s.heap it).objs.size = some _ := Heap.get?_push_of_some _ (Heap.get?_push_size _ rfl)
  have g1 : (z8H3 s.heap it).get? s.heap.objs.size = some _ := Heap.get?_push_of_some _ (Heap.get?_push_of_some _ (Heap.get?_push_size _ rfl))
  show _ ∧ _
  rw [z1, z2] at g3
  rw [z1] at g2
  rw [z2]
  exact ⟨⟨_, g3, rfl⟩, h _ g3 g1 g2 fun c o x => Heap.get?_push_of_some _ (Heap.get?_push_of_some _ (Heap.get?_push_of_some _ x))⟩
theorem pyNext_zip8_item {z TI TO it : Addr} {m : Nat} {xs : List Value} {Q : Option Value → Shared → Prop} (Z : Z8 z TI TO it)
    (hz : IsZip s.heap z TI TO .none) (hTI : IsT8 s.heap TI (I8 it)) (hTO : IsT8 s.heap TO xs.toArray) (hxz : xs.length = 8) (hit : IsBytesIter s.heap it b t m) (hb : m + 8 ≤ b.size)
    (hQ : ∀ h' tk us, us.length = 8 → RowI b m us → IsZip h' z TI TO (rawInt s.heap.objs.size) → IsT8 h' TO us.toArray → IsBytesIter h' it b t (m + 8) → IsT8 h' s.heap.objs.size us.toArray →
      (∀ c o, c ≠ z → c ≠ TO → c ≠ it → s.heap.get? c = some o → h'.get? c = some o) → Q (some (.ref s.heap.objs.size)) { s with heap := h', toks := tk }) :
    wpAny (model prog w) A (pyNext (.ref z)) Q E s := by
  have hT : s.TypeIs (.ref z) "zip" := ⟨_, hz, rfl⟩
  unfold pyNext
  exact wpAny_bind (wpAny_attempt (wpAny_callSpecial?_slot (name := Str.ofString "__next__") hT F.slot_zip_next
    (wpAny_call_entry F.slot_zip_next hT F.entry_zip_next
      (zip8_item Z hz hTI hTO hxz hit hb fun h' tk us a0 a1 a2 a3 a4 a5 a6 => wpAny_pure (hQ h' tk us a0 a1 a2 a3 a4 a5 a6)) (F.args_zip_next_1 _))))
theorem pyNext_zip8_end {z TI TO it : Addr} {m : Nat} {xs : Array Value} {Q : Option Value → Shared → Prop} (hh : A.handled = none) (Z : Z8 z TI TO it)
    (hz : IsZip s.heap z TI TO .none) (hTI : IsT8 s.heap TI (I8 it)) (hTO : IsT8 s.heap TO xs) (hit : IsBytesIter s.heap it b t m) (hx : b[m]? = none)
    (hQ : ∀ h', (∀ c o, c ≠ z → c ≠ TO → c ≠ it → s.heap.get? c = some o → h'.get? c = some o) → Q none { s with heap := h' }) : wpAny (model prog w) A (pyNext (.ref z)) Q E s := by
  have hT : s.TypeIs (.ref z) "zip" := ⟨_, hz, rfl⟩
  unfold pyNext
  refine wpAny_bind (wpAny_attempt (wpAny_callSpecial?_slot (name := Str.ofString "__next__") hT F.slot_zip_next
    (wpAny_call_entry F.slot_zip_next hT F.entry_zip_next (zip8_end hh Z hz hTI hTO hit hx fun h' e hk he => ?_) (F.args_zip_next_1 _))))
  obtain ⟨o, ho, hc⟩ := he
  refine wpAny_bind (wpAny_isInstance (T := "StopIteration") (b := true) ⟨o, ho, hc⟩ isSubtype_stop ?_)
  exact wpAny_pure (hQ _ hk)
end
theorem RowI.vals {b : Array UInt8} : ∀ (us : List Value) (m : Nat), RowI b m us → Vals ((List.range us.length).map fun k => V.int (bI b (m + k))) us := by
  intro us
  induction us with
  | nil => intro m _; exact .nil
  | cons u us ih =>
    intro m h
    rw [List.length_cons, List.range_succ_eq_map, List.map_cons, List.map_map]
    obtain ⟨t, rfl⟩ := h 0 u rfl
    refine .cons ⟨t, rfl⟩ ?_
    have q := ih (m + 1) fun i v e => by
      obtain ⟨t', e'⟩ := h (i + 1) v e
      exact ⟨t', by rw [e', show m + (i + 1) = m + 1 + i by omega]⟩
    refine (congrArg (fun l => Vals l us) (List.map_congr_left fun k _ => ?_)).mp q
    show V.int (bI b (m + 1 + k)) = V.int (bI b (m + (k + 1)))
    rw [show m + 1 + k = m + (k + 1) by omega]
def row8 (b : Array UInt8) (i : Nat) : List V := [.int (bI b (8 * i + 0)), .int (bI b (8 * i + 1)), .int (bI b (8 * i + 2)), .int (bI b (8 * i + 3)), .int (bI b (8 * i + 4)), .int (bI b (8 * i + 5)), .int (bI b (8 * i + 6)), .int (bI b (8 * i + 7))]
theorem row8_vals {b : Array UInt8} {us : List Value} {i : Nat} (h : RowI b (8 * i) us) (hl : us.length = 8) : Vals (row8 b i) us := by
  have q := h.vals us
  rw [hl] at q
  exact q
def It8 (b : Array UInt8) : It := ⟨fun i _ => 8 * i + 8 ≤ b.size, fun i H v H' => ∃ T, v = .ref T ∧ H T = none ∧ H' = upd H T (.tup (row8 b i)), fun i _ => b.size ≤ 8 * i⟩
theorem turn_zip8 {P : Program} {w : World} {K : PySem.W.Frag} {elts : List Expr} {kk : Nat} {tpos : Pos} {z TI TO it : Addr} (Z : Z8 z TI TO it) (b : Array UInt8) (t : Tok) :
    Turn P w K (.Tuple elts kk tpos) (It8 b) [z, TI, TO, it] z (fun i h => IsZip h z TI TO .none ∧ IsT8 h TI (I8 it) ∧ (∃ xs : List Value, xs.length = 8 ∧ IsT8 h TO xs.toArray) ∧ IsBytesIter h it b t (8 * i)) where
  mem := by simp
  obj := fun i h st c hc => by
    obtain ⟨hz, hTI, ⟨xs, hxz, hTO⟩, ⟨o1, e1, _, d1⟩⟩ := st
    have e' : c = z ∨ c = TI ∨ c = TO ∨ c = it := by simpa using hc
    rcases e' with q | q | q | q
    · rw [q]; exact ⟨_, hz, fun v q => nomatch q⟩
    · rw [q]; exact ⟨_, hTI, fun v q => nomatch q⟩
    · rw [q]; exact ⟨_, hTO, fun v q => nomatch q⟩
    · rw [q]; exact ⟨o1, e1, fun v q => by rw [d1] at q; cases q⟩
  keep := fun i h h' st k => by
    obtain ⟨hz, hTI, ⟨xs, hxz, hTO⟩, ⟨o1, e1, r⟩⟩ := st
    exact ⟨k z (by simp) _ hz, k TI (by simp) _ hTI, ⟨xs, hxz, k TO (by simp) _ hTO⟩, ⟨o1, k it (by simp) o1 e1, r⟩⟩
  item := by
    intro X hP hw hK hc i pins s σ H E I hf st hg
    subst hP hw hK
    obtain ⟨hz, hTI, ⟨xs, hxz, hTO⟩, hit⟩ := st
    have hg : 8 * i + 8 ≤ b.size := hg
    have hzl : z < s.heap.objs.size := Heap.lt_size hz
    refine pyNext_zip8_item Z hz hTI hTO hxz hit hg fun h' tk us hl ri z' TO' it' hT hk => ?_
    refine ⟨_, rfl, wpAny_letOwnedTupleGo_zip (s := { s with heap := h', toks := tk }) z' fun h'' z'' sb => ?_⟩
    have hT2 : IsT8 h'' s.heap.objs.size _ := (sb.2 _ (Nat.ne_of_gt hzl)).trans hT
    have new : ObjOk X.prog X.w (upd H s.heap.objs.size (.tup (row8 b i))) h'' s.heap.objs.size (.tup (row8 b i)) :=
      ⟨by show 8 ≤ sizeLine; decide, us, row8_vals ri hl, ⟨_, hT2, rfl, _, rfl⟩⟩
    have I1 : Inv X pins σ (upd H s.heap.objs.size (.tup (row8 b i))) { s with heap := h'', toks := tk } :=
      I.turnedNew (t' := tk) (ch := [z, TI, TO, it]) (fun c o hb q => (sb.2 c (fun q' => hb (by simp [q']))).trans (hk c o (fun q' => hb (by simp [q'])) (fun q' => hb (by simp [q'])) (fun q' => hb (by simp [q'])) q)) hf (Nat.le_refl _) new
    refine ⟨.ref s.heap.objs.size, _, I1, rfl, ⟨_, rfl, I.hok.fresh (Nat.le_refl _), rfl⟩, ⟨z'', ?_, ⟨us, hl, ?_⟩, ?_⟩, fun c hcm => ?_⟩
    · exact (sb.2 _ Z.Iz).trans (hk _ _ Z.Iz Z.IO Z.Ii hTI)
    · exact (sb.2 _ Z.zO.symm).trans TO'
    · obtain ⟨o, ho, r⟩ := it'
      exact ⟨o, (sb.2 _ Z.zi.symm).trans ho, r⟩
    · have hlt : c < s.heap.objs.size := by
        have e' : c = z ∨ c = TI ∨ c = TO ∨ c = it := by simpa using hcm
        rcases e' with q | q | q | q
        · rw [q]; exact hzl
        · rw [q]; exact Heap.lt_size hTI
        · rw [q]; exact Heap.lt_size hTO
        · rw [q]; obtain ⟨_, e1, _⟩ := hit; exact Heap.lt_size e1
      rw [upd_ne (Nat.ne_of_lt hlt)]
      exact (hf c hcm).1
  done := by
    intro X hP hw hK hc i pins s σ H E I hf st hg
    subst hP hw hK
    obtain ⟨hz, hTI, ⟨xs, hxz, hTO⟩, hit⟩ := st
    exact pyNext_zip8_end (I.ok.hd hc) Z hz hTI hTO hit (Array.getElem?_eq_none hg) fun h' hk => ⟨rfl, I.turnedL (t' := s.toks) (ch := [z, TI, TO, it]) (fun c o hb q =>
      hk c o (fun q' => hb (by simp [q'])) (fun q' => hb (by simp [q'])) (fun q' => hb (by simp [q'])) q) hf⟩
  self := fun A i s Q E st h => wpAny_pyIter_zip st.1 h
/-! ### iter(b) -/
def BiO (b : Array UInt8) (it : Addr) : HO := .ext fun h => ∃ t, IsBytesIter h it b t 0
theorem call_iterB {X : Cx} : CallR X (.builtin "iter") (fun xs H Q => ∃ b, xs = [.byt b] ∧ ∀ it, H it = none → X.s_0.heap.objs.size ≤ it → Q (.ref it) (upd H it (BiO b it))) := by
  intro pins s σ H xs us Q I r h
  obtain ⟨b, rfl, q⟩ := h
  obtain ⟨u, rfl, ru⟩ := vals1 r
  obtain ⟨t, rfl⟩ := ru
  refine Calls.call_function_entry (by decide +kernel) (by decide +kernel) PySem.W.kdk_entry_iter (PySem.W.kdk_args_iter _) ?_
  unfold Builtin.«iter»
  refine wpAny_bind (m := someArgs "iter" 1 2 _) (wpAny_of_eq (a := [Value.bytes b t]) (by first | rfl | kernel_rfl!) ?_)
  show wpAny _ _ (pyIter (.bytes b t) >>= _) _ _ _
  refine wpAny_bind (pyIter_bytes (wpAny_pure ⟨_, rfl, ?_⟩))
  have st : IsBytesIter (s.heap.push { cls := .type "bytes_iterator", data := .fields #[.bytes b t, .int 0 0] }) s.heap.objs.size b t 0 := ⟨_, Heap.get?_push_size _ rfl, rfl, rfl⟩
  refine ⟨.ref s.heap.objs.size, _, I.laid (t' := s.toks) (fun b u e => Heap.get?_push_of_some _ e) (Nat.le_refl _) (o := BiO b s.heap.objs.size) ⟨⟨t, st⟩, ⟨_, Heap.get?_push_size _ rfl⟩, fun h1 h2 ⟨t, o, ho, r⟩ k => ⟨t, o, k _ ho, r⟩⟩, rfl, q _ (I.hok.fresh (Nat.le_refl _)) I.sz⟩
/-! ### for .. in zip(it, ..) -/
def iZip8 (n : Nat) (ta : TA) : TI := fun σ H R => ta σ H fun vs H1 => ∃ it b, vs = [.ref it, .ref it, .ref it, .ref it, .ref it, .ref it, .ref it, .ref it] ∧ H1 it = some (BiO b it) ∧ n ≤ it ∧ R (It8 b) (ItX.dropH H1 it)
theorem pi_zip8 {X : Cx} {e0 e1 e2 e3 e4 e5 e6 e7 : Expr} {ta : TA} {p pos tpos : Pos} {elts : List Expr} {kk : Nat} (hg : Gl X "zip") (hm : X.mg "zip" = none) (ha : PA X [e0, e1, e2, e3, e4, e5, e6, e7] ta)
    (hs : starEach [e0, e1, e2, e3, e4, e5, e6, e7] X.env = (false, eval e0 X.env) :: starEach [e1, e2, e3, e4, e5, e6, e7] X.env := by rfl) (hpl : (backTo pos (starEach [e1, e2, e3, e4, e5, e6, e7] X.env)).any (·.1) = false := by rfl) :
    PI X (.Tuple elts kk tpos) (.Call (.Name "zip" p) [e0, e1, e2, e3, e4, e5, e6, e7] [] pos) (iZip8 X.s_0.heap.objs.size ta) := by
  refine ⟨fun pins s σ H R I h => ?_⟩
  refine Call_ (ld_blt I hg hm PyProof.Rows.boot_zip (PyProof.Rows.callWith_type1 (thn (ha.run pos pins s σ H _ I h) fun us s1 ⟨vs, H1, I1, r1, q1⟩ => ?_) hs hpl))
  obtain ⟨it, b, ex, hi, hn, q⟩ := q1
  subst ex
  obtain ⟨t, st⟩ := (I1.hok it _ hi).1
  have eu : us = [.ref it, .ref it, .ref it, .ref it, .ref it, .ref it, .ref it, .ref it] := by
    have z : ∀ (n : Nat) (us : List Value), Vals (List.replicate n (V.ref it)) us → us = List.replicate n (Value.ref it) := fun n => by
      induction n with
      | zero => intro us r; cases r; rfl
      | succ n ih =>
        intro us r
        cases r with
        | cons r0 r =>
          rw [ih _ r, show _ = Value.ref it from r0]
          rfl
    exact z 8 us r1
  subst eu
  have Id : Inv X pins σ (ItX.dropH H1 it) s1 := ItX.inv_drop I1 hi
  have hlt : it < s1.heap.objs.size := by obtain ⟨_, e1, _⟩ := st; exact Heap.lt_size e1
  refine call_zip8 st fun h' hz hTI hTO hk => wpAny_pyIter_zip hz ?_
  have I2 : Inv X pins σ (ItX.dropH H1 it) { s1 with heap := h' } := Id.kept (t' := s1.toks) hk
  have Z : Z8 (s1.heap.objs.size + 2) s1.heap.objs.size (s1.heap.objs.size + 1) it := ⟨by show s1.heap.objs.size + 2 ≠ it; exact Nat.ne_of_gt (Nat.lt_add_right 2 hlt), Nat.ne_of_gt (Nat.lt_succ_self _), by show s1.heap.objs.size + 1 ≠ it; exact Nat.ne_of_gt (Nat.lt_add_right 1 hlt), Nat.ne_of_lt (Nat.lt_add_of_pos_right (by decide)), Nat.ne_of_lt (Nat.lt_succ_self _), Nat.ne_of_gt hlt⟩
  refine ⟨s1.heap.objs.size + 2, [s1.heap.objs.size + 2, s1.heap.objs.size, s1.heap.objs.size + 1, it], _, It8 b, ItX.dropH H1 it, rfl, I2, turn_zip8 Z b t, ⟨hz, hTI, ⟨[.none, .none, .none, .none, .none, .none, .none, .none], rfl, hTO⟩, ?_⟩, fun c hcm => ?_, q⟩
  · obtain ⟨o, ho, r⟩ := st
    exact ⟨o, hk _ _ ho, r⟩
  · have e' : c = s1.heap.objs.size + 2 ∨ c = s1.heap.objs.size ∨ c = s1.heap.objs.size + 1 ∨ c = it := by simpa using hcm
    have fr : s1.heap.objs.size ≤ c → FpOk X pins (ItX.dropH H1 it) c := fun hle => Id.fpOk hle (Id.hok.fresh hle)
    rcases e' with z | z | z | z
    · exact fr (by rw [z]; exact Nat.le_add_right _ _)
    · exact fr (by rw [z]; exact Nat.le_refl _)
    · exact fr (by rw [z]; exact Nat.le_add_right _ _)
    · rw [z]; exact ItX.inv_fp I1 hi hn
/-- a loop over the bytes by eights -/
theorem for_zip8 {b : Array UInt8} {n : Nat} (hn : b.size = 8 * n) {g : TG} {tb : TS} {D : Ends} {σ : L2.St} {H : Hp} (Pv : Nat → L2.St → Hp → Prop) (h0 : Pv 0 σ H)
    (hs : ∀ (i : Nat) (T : Addr) (σ : L2.St) (H : Hp), i < n → Pv i σ H → H T = none → g (.ref T) σ (upd H T (.tup (row8 b i))) fun σ2 H2 => tb { D with nx := Pv (i + 1), ct := Pv (i + 1), bk := D.nx } σ2 H2) (hd : ∀ σ H, Pv n σ H → D.nx σ H) :
    ∃ W : Nat → Nat → L2.St → Hp → Prop, (∃ m, W 0 m σ H) ∧ ∀ i m σ H, W i m σ H →
      ((It8 b).stop i H ∧ D.nx σ H) ∨ ((It8 b).go i H ∧ ∃ N : L2.St → Hp → Prop, (∀ σ' H', N σ' H' → ∃ m', m' < m ∧ W (i + 1) m' σ' H') ∧ ∀ v H', (It8 b).yld i H v H' → g v σ H' fun σ2 H2 => tb { D with nx := N, ct := N, bk := D.nx } σ2 H2) := by
  refine ⟨fun i m σ H => m = n - i ∧ i ≤ n ∧ Pv i σ H, ⟨n, rfl, Nat.zero_le _, h0⟩, ?_⟩
  rintro i m σ H ⟨rfl, hi, p⟩
  by_cases hlt : i < n
  · refine .inr ⟨by show 8 * i + 8 ≤ b.size; omega, Pv (i + 1), fun σ' H' p' => ⟨n - (i + 1), by omega, rfl, hlt, p'⟩, fun v H' y => ?_⟩
    obtain ⟨T, rfl, hT, rfl⟩ := y
    exact hs i T σ H hlt p hT
  · have e : i = n := by omega
    subst e
    exact .inl ⟨by show b.size ≤ 8 * i; omega, hd σ H p⟩
end Fk

set_option maxHeartbeats 4000000
/-! list(text); classes and defs called with keywords; properties. -/
namespace Fk
open PySem PySem.Spec PyProof.Rows L2
section
variable {X : Cx}
/-- list(x), x a text -/
def rListS : List V → Hp → VK → Prop := fun xs H Q => ∃ x : Str, xs = [.str x] ∧ x.length ≤ sizeLine ∧ ∀ q, H q = none → Q (.ref q) (upd H q (.lst ((TL.tl x).map sgn)))
theorem call_listS (hc : X.calm = true) : CallR X (.type "list") rListS := by
  intro pins s σ H xs us Q I r h
  obtain ⟨x, e, hz, q⟩ := h
  subst e
  obtain ⟨u, eu, rx⟩ := vals1 r
  subst eu
  obtain ⟨t, rfl⟩ := rx
  refine PySem.call_list_str (I.ok.hd hc) x t (fun h' tk acc' c' hk hS hacc => ?_) hz
  refine ⟨.ref s.heap.objs.size, upd H s.heap.objs.size (.lst ((TL.tl x).map sgn)), I.laid hk (Nat.le_refl _) (show ObjOk X.prog X.w _ _ _ (.lst ((TL.tl x).map sgn)) from ⟨?_, acc'.toList, c', ?_, ?_⟩), rfl, q _ (I.hok.fresh (Nat.le_refl _))⟩
  · rw [List.length_map, ← TL.len_tl]; exact hz
  · have el : acc'.toList.length = acc'.size := by simp
    refine vals_of_at (by rw [List.length_map, el, hacc.1, ← TL.len_tl]; rfl) fun j x' w h1 h2 => ?_
    obtain ⟨c, u, hcx, rfl⟩ := hacc.2 j w (by rw [← Array.getElem?_toList]; exact h2)
    rw [List.getElem?_map, show (TL.tl x)[j]? = some c from by rw [← hcx]; exact Array.getElem?_toList] at h1
    cases h1
    exact ⟨u, rfl⟩
  · rw [Array.toArray_toList]; exact hS
end
/-! ### classes and defs called with keywords -/
def IniK (K : PySem.W.Frag) (C : Addr) (qual : Str) (st : Stmt) (ps : List Str) (n : Nat) (ks : List Str) (gV : List V → List V → List V) : Prop := ∃ (f : Addr) (fd : FuncData) (g : List Value → List Value → List Value), Mk K C f ∧ C8.Fun K "__init__" qual st f fd ∧ KBn K fd ps n ks g gV
structure MakK (P : Program) (w : World) (K : PySem.W.Frag) (mg : Str → Option Value) (base : Heap) (k : Nat) (x : Str) (C : Addr) (sp : Sp) (n : Nat) (ks : List Str) (gV : List V → List V → List V) : Prop where
  ex : ∃ (f : Addr) (fd : FuncData) (ps : List Str) (g : List Value → List Value → List Value), Mk K C f ∧ FnOk P w K mg base C8.CX0 k f fd ps sp ∧ mg x = some (.ref C) ∧ KBn K fd ps n ks g gV
def DefK (K : PySem.W.Frag) (mg : Str → Option Value) (x : Str) (st : Stmt) (ps : List Str) (n : Nat) (ks : List Str) (gV : List V → List V → List V) : Prop := ∃ (f : Addr) (fd : FuncData) (g : List Value → List Value → List Value), C8.Fun K x x st f fd ∧ mg x = some (.ref f) ∧ PySem.W.keepIn K (.ref f) = true ∧ KBn K fd ps n ks g gV
structure CalK (P : Program) (w : World) (K : PySem.W.Frag) (mg : Str → Option Value) (base : Heap) (k : Nat) (x : Str) (sp : Sp) (n : Nat) (ks : List Str) (gV : List V → List V → List V) : Prop where
  ex : ∃ (f : Addr) (fd : FuncData) (ps : List Str) (g : List Value → List Value → List Value), FnOk P w K mg base C8.CX0 k f fd ps sp ∧ mg x = some (.ref f) ∧ PySem.W.keepIn K (.ref f) = true ∧ KBn K fd ps n ks g gV
section
variable {P : Program} {w : World} {K : PySem.W.Frag} {mg : Str → Option Value} {base : Heap}
theorem makK {x qual : Str} {C : Addr} {st : Stmt} {ps ks : List Str} {n k : Nat} {sp : Sp} {gV : List V → List V → List V} (I : IniK K C qual st ps n ks gV) (hm : mg x = some (.ref C)) (F : ∀ f fd, C8.Fun K "__init__" qual st f fd → FnOk P w K mg base C8.CX0 k f fd ps sp) : MakK P w K mg base k x C sp n ks gV := by
  obtain ⟨f, fd, g, M, U, b⟩ := I
  exact ⟨f, fd, ps, g, M, F f fd U, hm, b⟩
theorem calK {x : Str} {st : Stmt} {ps ks : List Str} {n k : Nat} {sp : Sp} {gV : List V → List V → List V} (I : DefK K mg x st ps n ks gV) (F : ∀ f fd, C8.Fun K x x st f fd → FnOk P w K mg base C8.CX0 k f fd ps sp) : CalK P w K mg base k x sp n ks gV := by
  obtain ⟨f, fd, g, U, hm, hk, b⟩ := I
  exact ⟨f, fd, ps, g, F f fd U, hm, hk, b⟩
/-- a property of a class, by its getter -/
structure PDef (K : PySem.W.Frag) (C : Addr) (f qual : Str) (st : Stmt) : Prop where
  ex : ∃ (p g : Addr) (fd : FuncData), PropOf K C f p g ∧ C8.Fun K f qual st g fd ∧ fd.defaults = .none
structure Prp (P : Program) (w : World) (K : PySem.W.Frag) (mg : Str → Option Value) (base : Heap) (k : Nat) (C : Addr) (f : Str) (sp : Sp) : Prop where
  ex : ∃ (p g : Addr) (fd : FuncData) (ps : List Str), Cls K C ∧ PropOf K C f p g ∧ FnOk P w K mg base C8.CX0 k g fd ps sp ∧ Binds K fd ps []
theorem prp_of {f qual : Str} {C : Addr} {st : Stmt} {N ps : List Str} {k : Nat} {sp : Sp} (c : Cls K C) (D : PDef K C f qual st) (S : FnScope N ps (C8.fnScope st))
    (hb : ∀ (kV doc pm : Value) (an : Option Addr) (cdv ct : Value) (us : List Value), us.length = ps.length → bindArgs (PySem.W.fnOf f qual (C8.fnArgs st) (C8.fnBody st) (C8.fnScope st) .none kV doc pm an cdv ct) ⟨us, []⟩ = pure (ps.zip us))
    (len : ∀ vs H Q E, sp vs H Q E → vs.length = ps.length)
    (hbody : ∀ (f : Addr) (cdv : Value) (A : Around) (outer : List Env) (s : Shared) (H : Hp) (vs : List V) (Q : VK) (E : XK), Room k (A.deeper (envOfC qual (C8.fnScope st) s.heap.objs.size f cdv)) → sp vs H Q E →
      ∃ t, PSs (cxOf C8.CX0 P w K mg base N qual (C8.fnScope st) f cdv A outer s H E).nox (C8.fnBody st) t ∧ t { nx := fun _ H' => Q .non H', rt := Q } (start N vs) H) : Prp P w K mg base (k + 1) C f sp := by
  obtain ⟨p, g, fd, hp, F, df⟩ := D.ex
  exact ⟨p, g, fd, ps, c, hp, C8.fn0 F S len (hbody g), F.binds df hb⟩
end
section
variable {X : Cx} {k j n : Nat} {C : Addr} {x f : Str} {sp : Sp} {p pos : Pos} {e : Expr} {es : List Expr} {kws : List Keyword} {ks : List Str} {t tk : TA} {ta : TE} {gV : List V → List V → List V}
/-- C(e, .., k = v, ..) -/
theorem pe_mkK (c : MakK X.prog X.w X.K X.mg X.base k x C sp (n + 1) ks gV) (hr : Room j X.A) (hk : k + 1 ≤ j) (hg : Gl X x) (ha : PA X (e :: es) t) (hkw : PK X kws tk)
    (hall : (backToKw pos (keywordEach kws X.env)).all (·.1.isSome) = true := by rfl) (hks : (backToKw pos (keywordEach kws X.env)).filterMap (·.1) = ks := by rfl) (hdb : (x == ("__debug__" : Str)) = false := by decide)
    (he : starEach (e :: es) X.env = (false, eval e X.env) :: starEach es X.env := by rfl) (hpl : ((backTo pos (starEach (e :: es) X.env)).any (·.1) || (backToKw pos (keywordEach kws X.env)).any (·.1.isNone)) = false := by rfl) :
    PE X (.Call (.Name x p) (e :: es) kws pos) (tMakeK C n ks.length sp gV C8.E0 t tk) := by
  obtain ⟨f, fd, ps, g, M, F, hm, b⟩ := c.ex
  exact pe_makeK M F (hr.mono hk) hg hm b C8.pass0 ha hkw hall hks hdb he hpl
/-- C(k = v, ..) -/
theorem pe_mkK0 (c : MakK X.prog X.w X.K X.mg X.base k x C sp 1 ks gV) (hr : Room j X.A) (hk : k + 1 ≤ j) (hg : Gl X x) (hkw : PK X kws tk)
    (hall : (backToKw pos (keywordEach kws X.env)).all (·.1.isSome) = true := by rfl) (hks : (backToKw pos (keywordEach kws X.env)).filterMap (·.1) = ks := by rfl) (hdb : (x == ("__debug__" : Str)) = false := by decide)
    (hpl : ((backTo pos (starEach [] X.env)).any (·.1) || (backToKw pos (keywordEach kws X.env)).any (·.1.isNone)) = false := by rfl) :
    PE X (.Call (.Name x p) [] kws pos) (tMakeK C 0 ks.length sp gV C8.E0 tNil tk) := by
  obtain ⟨f, fd, ps, g, M, F, hm, b⟩ := c.ex
  exact pe_makeK0 M F (hr.mono hk) hg hm b C8.pass0 hkw hall hks hdb hpl
/-- x(e, .., k = v, ..) -/
theorem pe_cK (c : CalK X.prog X.w X.K X.mg X.base k x sp n ks gV) (hr : Room j X.A) (hk : k ≤ j) (hg : Gl X x) (ha : PA X (e :: es) t) (hkw : PK X kws tk)
    (hall : (backToKw pos (keywordEach kws X.env)).all (·.1.isSome) = true := by rfl) (hks : (backToKw pos (keywordEach kws X.env)).filterMap (·.1) = ks := by rfl) (hdb : (x == ("__debug__" : Str)) = false := by decide)
    (he : starEach (e :: es) X.env = (false, eval e X.env) :: starEach es X.env := by rfl) (hpl : ((backTo pos (starEach (e :: es) X.env)).any (·.1) || (backToKw pos (keywordEach kws X.env)).any (·.1.isNone)) = false := by rfl) :
    PE X (.Call (.Name x p) (e :: es) kws pos) (tCallN n ks.length sp gV C8.E0 t tk) := by
  obtain ⟨f, fd, ps, g, F, hm, hkp, b⟩ := c.ex
  exact pe_callN F (hr.mono hk) hg hm hkp b C8.pass0 ha hkw hall hks hdb he hpl
/-- e.f, a property -/
theorem pe_pr (c : Prp X.prog X.w X.K X.mg X.base k C f sp) (hr : Room j X.A) (hk : k + 1 ≤ j) (he : PE X e ta) (hab : attributeBase e f X.env (eval e X.env) = eval e X.env := by rfl) : PE X (.Attribute e f pos) (tProp C sp [] C8.E0 ta) := by
  obtain ⟨p, g, fd, ps, cl, hp, F, b⟩ := c.ex
  exact pe_prop he cl hp F (hr.mono hk) b .nil C8.pass0 hab
/-- e, locked behind its making: a thing of its own that is walked -/
def tLocked (te : TE) : TE := fun σ H Q => te σ H fun x H1 => ∃ d u, x = .ref d ∧ H1 d = some u ∧ Mut (some u) ∧ ∀ od, Q x (upd H1 d (.frz od u))
theorem pe_locked (he : PE X e ta) : PE X e (tLocked ta) := by
  refine ⟨fun pins s σ H Q I h => thn (he.run pins s σ H _ I h) fun v s1 ⟨x, H1, I1, r, d, u, ex, hd, mu, q⟩ => ?_⟩
  obtain ⟨od, I2⟩ := I1.lock hd mu
  exact ⟨x, _, I2, r, q od⟩
end
end Fk

set_option maxHeartbeats 4000000
/-! sorted(set(xs)), xs a list of texts. -/
namespace Fk
open PySem PySem.Spec PyProof.Rows L2 PySem.Froz

/-- what walking over the set asks of its table -/
def Pl (w : World) (t : SetTable) : Prop := Ris t.place.toList ∧ (w.params.followText "set-order" = true ∨ t.led = true)
theorem pl_add {w : World} {D : SD} {h : Int} {v : Value} (p : Pl w D.2.2) : Pl w (addTx h v D).2.2 := by
  obtain ⟨es, ep, t⟩ := D
  have p1 : Pl w (layNew t es h v).2.1 := ⟨layNew_ris t es h v p.1, p.2.imp id fun z => by rw [layNew_led t es h v]; exact z⟩
  have p2 : Pl w (if (layNew t es h v).2.1.plain = true then { (layNew t es h v).2.1 with plain := false } else (layNew t es h v).2.1) := by
    split <;> exact p1
  show Pl w (tailTx ep (layNew t es h v).1 (if (layNew t es h v).2.1.plain = true then { (layNew t es h v).2.1 with plain := false } else (layNew t es h v).2.1) (layNew t es h v).2.2.1).2.2
  generalize (if (layNew t es h v).2.1.plain = true then { (layNew t es h v).2.1 with plain := false } else (layNew t es h v).2.1) = t2 at p2 ⊢
  unfold tailTx
  split
  · exact ⟨relayAll_ris _ _ _, p2.2.imp id fun z => by rw [relayAll_led]; exact z⟩
  · exact p2
theorem perm_add (h : Int) (v : Value) (D : SD) : (addTx h v D).1.toList.Perm (D.1.toList ++ [(h, v)]) := by
  obtain ⟨es, ep, t⟩ := D
  have pm := layNew_perm t es h v
  rw [Array.toList_push] at pm
  show (tailTx ep (layNew t es h v).1 (if (layNew t es h v).2.1.plain = true then { (layNew t es h v).2.1 with plain := false } else (layNew t es h v).2.1) (layNew t es h v).2.2.1).1.toList.Perm _
  generalize (if (layNew t es h v).2.1.plain = true then { (layNew t es h v).2.1 with plain := false } else (layNew t es h v).2.1) = t2
  unfold tailTx
  split
  · exact (relayAll_perm _ _ _).trans pm
  · exact pm
def strOf : Value → Str
  | .str k _ => k
  | _ => Str.empty
/-- the set at a holds the texts l -/
structure TxR (P : Program) (w : World) (h : Heap) (a : Addr) (l : List Str) : Prop where
  ob : ∃ D : SD, h.get? a = some (sObj "set" D) ∧ TxOk P w D l ∧ Pl w D.2.2 ∧ (∀ e ∈ D.1.toList, ∃ k t, e.2 = Value.str k t) ∧ (D.1.toList.map fun e => strOf e.2).Perm l
  nd : l.Nodup
theorem TxR.at {P : Program} {w : World} {h h' : Heap} {a : Addr} {l : List Str} (R : TxR P w h a l) (k : ∀ o, h.get? a = some o → h'.get? a = some o) : TxR P w h' a l := by
  obtain ⟨⟨D, ho, r⟩, nd⟩ := R
  exact ⟨⟨D, k _ ho, r⟩, nd⟩
theorem txr_new {P : Program} {w : World} {h : Heap} {a : Addr} (ho : h.get? a = some { cls := .type "set", dict := none, data := .set #[] 0 (.fresh 0 0 (!w.params.followText "set-order")) }) : TxR P w h a [] := by
  refine ⟨⟨(#[], 0, .fresh 0 0 (!w.params.followText "set-order")), ho, TxOk.nil (by rfl), ⟨List.Pairwise.nil, ?_⟩, fun e he => by simp at he, by simp⟩, .nil⟩
  show _ ∨ (!w.params.followText "set-order") = true
  cases w.params.followText "set-order"
  · exact .inr rfl
  · exact .inl rfl
section
variable {P : Program} {w : World} {A : Around} {E : Value → Shared → Prop} {s : Shared}
theorem txr_same {a : Addr} {l : List Str} {k : Str} {u : Tok} {Q : Bool → Shared → Prop} (R : TxR P w s.heap a l) (hk : k ∈ l) (hb : l.length < scanBound) (h : Q false s) :
    wpAny (model P w) A (setAddHashed a (.str k u) ((strKind P w).hash k)) Q E s := by
  obtain ⟨⟨⟨es, ep, t⟩, ho, F, _⟩, _⟩ := R
  have hd : (sObj "set" (es, ep, t)).data = .set es ep t := rfl
  have hf : t.fits es.size = true := F.fit
  have hel : ElemsOf (strKind P w) es.toList := F.el
  have hsz : es.size = l.length := F.sz
  have hkey : (strKind P w).is k (.str k u) = true := is_str k u
  unfold setAddHashed setAddHashedIn
  refine wpAny_holding (wpAny_bind (wpAny_setState_of ho hd hf ?_))
  dsimp only
  rw [byScan_of rfl (by omega) hel]
  simp only [↓reduceIte]
  unfold setAddByScan
  refine wpAny_bind ?_
  refine wpAny_bind (wpAny_rule ?_)
  refine wpAny_bind (wpAny_setScan_of (knd := strKind P w) (k := k) hkey ho hd hf hel ?_)
  cases hr : List.findIdx? (fun e => (strKind P w).is k e.2) es.toList with
  | none =>
    obtain ⟨e, he, q⟩ := (F.mem k).mp hk
    have c := List.findIdx?_eq_none_iff.mp hr e he
    rw [q] at c
    cases c
  | some j =>
    dsimp only
    exact wpAny_pure (wpAny_pure h)
theorem txr_add {a : Addr} {l : List Str} {k : Str} {u : Tok} {Q : Bool → Shared → Prop} (R : TxR P w s.heap a l) (hb : l.length + 1 < scanBound)
    (h : ∀ (b : Bool) h', Heap.SameBut a s.heap h' → TxR P w h' a (if k ∈ l then l else k :: l) → Q b { s with heap := h' }) :
    wpAny (model P w) A (setAddHashed a (.str k u) ((strKind P w).hash k)) Q E s := by
  by_cases hk : k ∈ l
  · rw [if_pos hk] at h
    exact txr_same R hk (by omega) (h false s.heap (Heap.SameBut.refl a s.heap) R)
  · rw [if_neg hk] at h
    obtain ⟨⟨D, ho, F, p, st, pm⟩, nd⟩ := R
    refine add_x ho F hk hb (h true _ ?_ ⟨⟨_, get_upd _ ho rfl, add_ok u F, pl_add p, fun e he => ?_, ?_⟩, List.nodup_cons.mpr ⟨hk, nd⟩⟩)
    · exact Heap.SameBut.update _ _ _
    · rcases List.mem_append.mp ((perm_add _ _ D).mem_iff.mp he) with z | z
      · exact st e z
      · rw [List.mem_singleton] at z
        exact ⟨k, u, by rw [z]⟩
    · refine ((perm_add _ _ D).map fun e => strOf e.2).trans ?_
      rw [List.map_append]
      exact (List.perm_append_comm).trans (pm.cons k)

theorem set_update_strs {I : Addr} {fp wr : List Addr} {G : Array GenState → Array GenState → Prop} {n : Nat} {Pv : Nat → Value → Prop} {St : Nat → Shared → Prop} {R : Result → Shared → Prop}
    (W : WalksS P w A.in1 I fp wr G n Pv St) (S : Addr) (hSf : S ∉ fp) (ks : List Str) (hn : n = ks.length) (hb : ks.length + 1 < scanBound) (hval : ∀ i v, Pv i v → ∃ k t, ks[i]? = some k ∧ v = .str k t) :
    ∀ (m i : Nat) (s : Shared), n - i = m → i ≤ n → St i s → (∃ l, l.length ≤ i ∧ (∀ k, k ∈ l ↔ k ∈ ks.take i) ∧ TxR P w s.heap S l) →
      (∀ s' l, Moved (S :: wr) G s s' → l.length ≤ n → (∀ k, k ∈ l ↔ k ∈ ks) → TxR P w s'.heap S l → R (.ok (.ret .none)) s') →
      codeAny (model P w) A (.builtin "set.update.loop" ⟨[.ref S, .ref I], []⟩) R s := by
  have hSw : S ∉ wr := fun h => hSf (W.sub _ h)
  have hsub : ∀ b ∈ wr, b ∈ S :: wr := fun b hb => List.mem_cons_of_mem _ hb
  intro m
  induction m with
  | zero =>
    intro i s hk' hi hst ⟨l, hc, hm0, hS⟩ hR
    have hin : i = n := by omega
    subst hin
    refine codeAny_builtin F.entry_set_update_loop ?_
    rw [Around.under_plainId F.plain_set_update_loop _]
    show wpAny _ A.in1 (pyNext (.ref I) >>= _) _ _ s
    refine wpAny_bind (W.done s _ _ hst fun s' hm => ?_)
    show wpAny _ A.in1 (ret Value.none) _ _ s'
    rw [List.take_of_length_le (by omega)] at hm0
    exact wpAny_pure (hR s' l (hm.mono hsub) hc hm0 (hS.at fun o e => hm.heap S o hSw e))
  | succ m ih =>
    intro i s hk' hi hst ⟨l, hc, hm0, hS⟩ hR
    have hlt : i < n := by omega
    refine codeAny_builtin F.entry_set_update_loop ?_
    rw [Around.under_plainId F.plain_set_update_loop _]
    show wpAny _ A.in1 (pyNext (.ref I) >>= _) _ _ s
    refine wpAny_bind (W.item i s _ _ hlt hst fun v s' hP hst' hm => ?_)
    obtain ⟨z, t, hz, rfl⟩ := hval i v hP
    have hS' : TxR P w s'.heap S l := hS.at fun o e => hm.heap S o hSw e
    show wpAny _ A.in1 (holding [Value.str z t] (setAdd S (.str z t)) >>= _) _ _ s'
    refine wpAny_bind (wpAny_holding ?_)
    unfold setAdd
    refine wpAny_holding ?_
    refine wpAny_bind ((strKind P w).pyHash (k := z) (is_str _ _) ?_)
    refine txr_add (s := { s' with toks := s'.toks + 1 }) hS' (by omega) fun _ h' hsb hS2 => ?_
    have hm2 : ∀ k, k ∈ (if z ∈ l then l else z :: l) ↔ k ∈ ks.take (i + 1) := fun k => by
      have e : ks.take (i + 1) = ks.take i ++ [z] := by
        rw [List.take_add_one, hz]; rfl
      rw [e, List.mem_append, List.mem_singleton, ← hm0 k]
      by_cases c : z ∈ l
      · rw [if_pos c]
        exact ⟨.inl, fun q => q.elim id fun q => q ▸ c⟩
      · rw [if_neg c, List.mem_cons]
        exact Or.comm
    have hc2 : (if z ∈ l then l else z :: l).length ≤ i + 1 := by
      split
      · omega
      · rw [List.length_cons]; omega
    refine wpAny_pure ⟨plainId_quiet F.plain_set_update_loop _, ih (i + 1) _ (by omega) hlt (W.frame _ s' _ _ hst' (Nat.le_succ _) fun b hb o e => ?_) ⟨_, hc2, hm2, hS2⟩ fun s'' l2 hm'' hc'' hm3 hS'' => ?_⟩
    · rw [hsb.2 b (fun h : b = S => hSf (by rw [← h]; exact hb))]; exact e
    · refine hR s'' l2 (Moved.trans W.gtrans ((hm.mono hsub).then_heap (Nat.le_succ _) fun b o hb e => ?_) hm'') hc'' hm3 hS''
      rw [hsb.2 b (fun h : b = S => hb (by rw [h]; exact List.mem_cons_self))]; exact e

theorem str_vals : ∀ {us : List Value} {ks : List Str}, StrsAre us ks → ∀ (i : Nat) (v : Value), us[i]? = some v → ∃ k t, ks[i]? = some k ∧ v = .str k t
  | _, _, .nil, i, v, h => by simp at h
  | _, _, .cons n t hr, 0, v, h => ⟨n, t, rfl, (Option.some.inj h).symm⟩
  | _, _, .cons n t hr, i + 1, v, h => str_vals hr i v (by simpa using h)
theorem str_len : ∀ {us : List Value} {ks : List Str}, StrsAre us ks → us.length = ks.length
  | _, _, .nil => rfl
  | _, _, .cons n t hr => by rw [List.length_cons, List.length_cons, str_len hr]

set_option maxHeartbeats 6400000 in
theorem call_set_strs {l : Addr} {items : Array Value} (ks : List Str) {Q : Value → Shared → Prop} (hh : A.handled = none) (hl : s.heap.IsList l items) (hit : StrsAre items.toList ks) (hb : ks.length + 1 < scanBound)
    (h : ∀ (h' : Heap) (tk : Nat) L, TxR P w h' s.heap.objs.size L → L.length ≤ ks.length → (∀ k, k ∈ L ↔ k ∈ ks) → (∀ b o, s.heap.get? b = some o → h'.get? b = some o) → Q (.ref s.heap.objs.size) { s with heap := h', toks := tk }) :
    wpAny (model P w) A (call (.type "set") [.ref l]) Q E s := by
  have hisz : items.size = ks.length := by
    have q := str_len hit
    rw [Array.length_toList] at q
    exact q
  obtain ⟨c, tl, hmro⟩ := F.called_set.mro
  have hmade := F.called_set.made
  have hsub := F.called_set.sub
  refine wpAny_call (codeAny_of_tree ?_)
  show wpAny _ _ (callAny (.type "set") _) _ _ _
  refine wpAny_pure ⟨Code.quiet_builtin _ (by decide +kernel), codeAny_builtin F.entry_type_call ?_⟩
  rw [Around.under_plain (weight_type_call_type "set" [.ref l] []) rfl]
  have h1 := F.called_set.notType
  have h2 := F.called_set.canCreate
  have hct := F.typeCall_set_1 (.ref l)
  repeat (any_goals (first | assumption | wp_step))
  generalize hO : ({ cls := .type "set", dict := none, data := .set #[] 0 (.fresh 0 0 (!w.params.followText "set-order")) } : Obj) = O
  have hOc : O.cls = .type "set" := by rw [← hO]
  have hOf : O.isFreed = false := by rw [← hO]; rfl
  refine codeAny_mono (code_set_led1 (.ref l) (E := E) (Q₁ := fun obj s₁ => obj = .ref s.heap.objs.size ∧ s₁ = { s with heap := s.heap.push O }) ⟨rfl, by rw [hO]⟩) fun r s₁ hr => ?_
  cases r with
  | error e => exact hr
  | ok fl =>
    cases fl with
    | ret obj =>
      obtain ⟨rfl, rfl⟩ := hr
      have hS : (s.heap.push O).get? s.heap.objs.size = some O := Heap.get?_push_size _ hOf
      have hT : Shared.TypeIs { s with heap := s.heap.push O } (.ref s.heap.objs.size) "set" := ⟨_, hS, hOc⟩
      have hli := F.called_set.init.lookup
      have hbi := F.called_set.init.bind (.ref s.heap.objs.size)
      repeat (any_goals (first | assumption | wp_step))
      refine codeAny_mono (codeAny_call_builtin (R := wants (fun r s₂ => r = .none ∧ ∃ h' tk L, s₂ = { s with heap := h', toks := tk } ∧ TxR P w h' s.heap.objs.size L ∧ L.length ≤ ks.length ∧ (∀ k, k ∈ L ↔ k ∈ ks) ∧
          (∀ b o, s.heap.get? b = some o → h'.get? b = some o)) E) F.called_set.init.plain F.entry_set_init (check_set_init_1 hT ?_)) fun r₂ s₂ hr₂ => ?_
      · obtain ⟨ol, hol, hcl, nl, hdl⟩ := hl
        obtain ⟨ocls, odict, odata, oslots⟩ := ol
        simp only at hcl hdl
        subst hcl; subst hdl
        have hol' : (s.heap.push O).get? l = some { cls := .type "list", dict := odict, data := .seq items nl, slots := oslots } := Heap.get?_push_of_some _ hol
        subst hO
        have hsls := F.sub_list_set
        have hslf := F.sub_list_frozenset
        have hne : (Value.type "list" == Value.type "dict") = false := by decide
        have hl1 : (s.heap.push ({ cls := .type "set", dict := none, data := .set #[] 0 (.fresh 0 0 (!w.params.followText "set-order")) } : Obj)).IsList l items := ⟨_, hol', rfl, nl, rfl⟩
        unfold Builtin.«set.__init__» noKeywords Builtin.Frozenset.updateFrom
        generalize hPI : pyIter = PI
        wp_walk
        subst hPI
        refine wpAny_pyIter_list (s := { s with heap := s.heap.push ({ cls := .type "set", dict := none, data := .set #[] 0 (.fresh 0 0 (!w.params.followText "set-order")) } : Obj) }) hl1 ?_
        refine wpAny_bind (wpAny_runValue ?_)
        have hlS : l < s.heap.objs.size := Heap.lt_size hol
        have hh3 : A.in1.in1.in1.handled = none := by simp [hh]
        have hneI : l ≠ (s.heap.push ({ cls := .type "set", dict := none, data := .set #[] 0 (.fresh 0 0 (!w.params.followText "set-order")) } : Obj)).objs.size := by
          rw [Heap.size_push]; exact Nat.ne_of_lt (Nat.lt_succ_of_lt hlS)
        have hSf : s.heap.objs.size ∉ [(s.heap.push ({ cls := .type "set", dict := none, data := .set #[] 0 (.fresh 0 0 (!w.params.followText "set-order")) } : Obj)).objs.size, l] := by
          rw [Heap.size_push]; simp only [List.mem_cons, List.mem_singleton, List.not_mem_nil, or_false, not_or]
          exact ⟨Nat.ne_of_lt (Nat.lt_succ_self _), Nat.ne_of_gt hlS⟩
        refine set_update_strs ((Walks.list hh3 _ l hneI items).toS) s.heap.objs.size
          hSf ks hisz hb (fun i v hv => str_vals hit i v (by rw [Array.getElem?_toList]; exact hv)) (items.size - 0) 0 _ (by omega) (Nat.zero_le _)
          ⟨⟨_, Heap.get?_push_size _ rfl, rfl, rfl⟩, (hl1.push _)⟩ ⟨[], Nat.le_refl _, (fun k => by simp), txr_new (by exact Heap.get?_push_of_some _ hS)⟩ fun s' L hm hlen hmem hS' => ?_
        obtain ⟨h', g2, d', tk', os'⟩ := s'
        have eg : g2 = s.gens := hm.gens
        have ed : d' = s.drawn := hm.drawn
        have eo : os' = s.os := hm.os
        subst eg; subst ed; subst eo
        show wpAny _ _ _ _ _ _
        refine wpAny_pure ?_
        show wpAny _ _ (ret Value.none) _ _ _
        refine wpAny_pure ⟨rfl, h', tk', L, rfl, hS', by omega, hmem, fun b o e => ?_⟩
        have hb0 : b < s.heap.objs.size := Heap.lt_size e
        have hb2 : b ≠ (s.heap.push ({ cls := .type "set", dict := none, data := .set #[] 0 (.fresh 0 0 (!w.params.followText "set-order")) } : Obj)).objs.size := by
          rw [Heap.size_push]; exact Nat.ne_of_lt (Nat.lt_succ_of_lt hb0)
        exact hm.heap b o (by simp only [List.mem_cons, List.mem_singleton, List.not_mem_nil, or_false, not_or]; exact ⟨Nat.ne_of_lt hb0, hb2⟩) (Heap.get?_push_of_some _ (Heap.get?_push_of_some _ e))
      · cases r₂ with
        | error e => exact hr₂
        | ok fl₂ =>
          cases fl₂ with
          | ret r =>
            obtain ⟨rfl, h', tk, L, rfl, hS', hc', hm', hk'⟩ := hr₂
            repeat (any_goals (first | assumption | wp_step))
            exact h _ _ _ hS' hc' hm' hk'
          | _ => exact hr₂.elim
    | _ => exact hr.elim

theorem strs_of_vals : ∀ (vs : List Value), (∀ v ∈ vs, ∃ k t, v = Value.str k t) → StrsAre vs (vs.map strOf)
  | [], _ => .nil
  | v :: vs, h => by
    obtain ⟨k, t, rfl⟩ := h v List.mem_cons_self
    exact .cons k t (strs_of_vals vs fun u hu => h u (List.mem_cons_of_mem _ hu))
/-- sorted(the set) -/
theorem sorted_txr {a : Addr} {l : List Str} {Q : Value → Shared → Prop} (R : TxR P w s.heap a l) (hh : A.handled = none) (h64 : l.length < 64)
    (hQ : ∀ s' p (out : List Value) (c : Nat) (ys : List Str), (∀ b o, s.heap.get? b = some o → s'.heap.get? b = some o) → s'.gens = s.gens → s'.os = s.os → s.heap.objs.size ≤ p →
      s'.heap.get? p = some (seqObj "list" out.toArray c) → StrsAre out ys → ys.Perm l → sortedS ys = true → Q (.ref p) s') :
    wpAny (model P w) A (call (.builtin "sorted") [.ref a]) Q E s := by
  obtain ⟨⟨⟨es, ep, t⟩, ho, F, pl, st, pm0⟩, nd⟩ := R
  have hsz : es.size = l.length := F.sz
  refine Calls.call_function_entry PyProof.Rows.kind_sorted PyProof.Rows.plain_sorted PyProof.Rows.entry_sorted (PyProof.Rows.args_sorted1 _) ?_
  unfold Builtin.«sorted»
  refine wpAny_bind (m := checkCount "sorted" 1 1 _) (wpAny_pure ?_)
  refine wpAny_bind (collect_set (A := A.in1) hh ⟨_, ho, rfl, rfl⟩ F.fit (by show es.size < scanBound; unfold scanBound; omega) pl.1 pl.2 fun s1 vs k1 hz g1 o1 pm => ?_)
  have hvl : vs.length < 64 := by rw [pm.length_eq, List.length_map, Array.length_toList]; exact hsz ▸ h64
  have hS : StrsAre vs (vs.map strOf) := strs_of_vals vs fun v hv => by
    obtain ⟨e, he, q⟩ := List.mem_map.mp (pm.mem_iff.mp hv)
    obtain ⟨k, tk, z⟩ := st e he
    exact ⟨k, tk, by rw [← q]; exact z⟩
  have pk : (vs.map strOf).Perm l := by
    have q := pm.map strOf
    rw [List.map_map] at q
    exact q.trans pm0
  refine wpAny_bind (wpAny_newList ?_ (by rw [sizeLine_eq]; omega))
  have hoL : (s1.heap.push (seqObj "list" vs.toArray 0)).get? s1.heap.objs.size = some (seqObj "list" vs.toArray 0) := Heap.get?_push_size _ rfl
  refine wpAny_bind (wpAny_holding (wpAny_call_entry PyProof.Rows.slot_list_sort ⟨_, hoL, rfl⟩ PyProof.Rows.entry_list_sort
    (list_sort_treeK strKind_oneLt (s := { s1 with heap := s1.heap.push (seqObj "list" vs.toArray 0) }) hoL hS.keysOf (fun v₁ v₂ rest e => keyKind_strs (by rw [← e]; exact hS)) hvl fun st' hp hs => ⟨_, rfl, ?_⟩)
    (PyProof.Rows.args_list_sort _)))
  obtain ⟨ys, g1', g2, g3⟩ := sorted_out_str hS hp hs
  obtain ⟨c, hc⟩ := PyProof.Rows.sortedHeap_at (vs := vs) (out := (arrOf st').map (·.2)) hoL
  refine wpAny_pure ⟨_, rfl, hQ _ s1.heap.objs.size ((arrOf st').map (·.2)).toList c ys (fun b u e => ?_) g1 o1 hz (by rw [Array.toArray_toList]; exact hc) g1' (g2.trans pk) g3⟩
  have q := k1 b u e
  have hlt := Heap.lt_size q
  show (sortedHeap (s1.heap.push (seqObj "list" vs.toArray 0)) s1.heap.objs.size vs _).get? b = some u
  rw [PyProof.Rows.sortedHeap_old (Nat.ne_of_lt hlt) (by rw [size_push']; exact Nat.lt_succ_of_lt hlt)]
  exact Heap.get?_push_of_some _ q
end
section
variable {X : Cx}
/-- sorted(set(xs)), xs a list of fewer than 64 texts -/
def tSortSetS (K : PySem.W.Frag) (ta : TE) : TE := fun σ H Q => ta σ H fun x H1 => ∃ (l : Addr) (xs : List Str), x = .ref l ∧ SqL K H1 l (xs.map V.str) ∧ xs.length < 64 ∧
  ∀ ys p, ys.Nodup → (∀ k, k ∈ ys ↔ k ∈ xs) → sortedS ys = true → ys.length ≤ xs.length → H1 p = none → Q (.ref p) (upd H1 p (.lst (ys.map V.str)))
theorem pe_sortSetS {a : Expr} {ta : TE} {p p2 q pos : Pos} (hc : X.calm = true) (hg : Gl X "sorted") (hm : X.mg "sorted" = none) (hg2 : Gl X "set") (hm2 : X.mg "set" = none) (ha : PE X a ta)
    (na : starEach [a] X.env = (false, eval a X.env) :: starEach [] X.env := by rfl) : PE X (.Call (.Name "sorted" p) [.Call (.Name "set" p2) [a] [] q] [] pos) (tSortSetS X.K ta) := by
  refine ⟨fun pins s σ H Q I h => ?_⟩
  refine Call_ (ld_blt I hg hm boot_sorted ?_)
  refine PyProof.Rows.callWith_builtin1 (PyProof.Rows.args_cons ?_ rfl) rfl rfl
  refine Call_ (ld_blt I hg2 hm2 boot_set ?_)
  refine PyProof.Rows.callWith_type1 (PyProof.Rows.args_cons (thn (ha.run pins s σ H _ I h) fun v s1 ⟨x, H1, I1, r1, q1⟩ => PyProof.Rows.args_nil ?_) na) na rfl
  obtain ⟨l, xs, rfl, hq, h1, q1⟩ := q1
  cases r1
  obtain ⟨its, r, pl, hz⟩ := I1.list hq
  refine call_set_strs xs (I1.ok.hd hc) pl.isList (by simpa using strsAre_of r) (by unfold scanBound; omega) fun h' tk L R hl hmem hk => ?_
  refine PyProof.Rows.args_nil ?_
  obtain ⟨s2, e2⟩ : ∃ s2 : Shared, s2 = { s1 with heap := h', toks := tk } := ⟨_, rfl⟩
  rw [← e2]
  have I2 : Inv X pins σ H1 s2 := by rw [e2]; exact I1.kept fun b o e => hk b o e
  have R2 : TxR X.prog X.w s2.heap s1.heap.objs.size L := by rw [e2]; exact R
  refine sorted_txr R2 (I2.ok.hd hc) (by omega) fun s' p out c ys k g o hp hgp hs pm hsort => ?_
  have hlen : (ys.map V.str).length ≤ sizeLine := by rw [List.length_map, pm.length_eq, sizeLine_eq]; omega
  have hn : H1 p = none := I2.hok.fresh hp
  have J : Inv X pins σ (upd H1 p (.lst (ys.map V.str))) { s2 with heap := s'.heap, gens := s'.gens, drawn := s'.drawn, toks := s'.toks } :=
    I2.call (ch := []) (Un.laid k hp hn) (I2.hok.laid k hp ⟨hlen, out, c, vals_of_strs hs, hgp⟩) (by rw [g]; exact I2.bare) (fun _ z => nomatch z)
  have e : s' = { s2 with heap := s'.heap, gens := s'.gens, drawn := s'.drawn, toks := s'.toks } := by
    obtain ⟨h3, g3, d3, t3, o3⟩ := s'
    have eo : o3 = s2.os := o
    subst eo
    rfl
  rw [e]
  exact ⟨.ref p, _, J, rfl, q1 ys p (pm.nodup_iff.mpr R.nd) (fun k => by rw [pm.mem_iff, hmem k]) hsort (by rw [pm.length_eq]; exact hl) hn⟩
end
end Fk

set_option maxHeartbeats 4000000
/-! len(set(t)) of a tuple of texts. -/
namespace Fk
open PySem PySem.Spec PyProof.Rows L2 PySem.Froz
section
variable {P : Program} {w : World} {A : Around} {E : Value → Shared → Prop} {s : Shared}
set_option maxHeartbeats 6400000 in
theorem call_set_strsT {l : Addr} {items : Array Value} (ks : List Str) {Q : Value → Shared → Prop} (hh : A.handled = none) (hl : s.heap.IsTuple l items) (hit : StrsAre items.toList ks) (hb : ks.length + 1 < scanBound)
    (h : ∀ (h' : Heap) (tk : Nat) L, TxR P w h' s.heap.objs.size L → L.length ≤ ks.length → (∀ k, k ∈ L ↔ k ∈ ks) → (∀ b o, s.heap.get? b = some o → h'.get? b = some o) → Q (.ref s.heap.objs.size) { s with heap := h', toks := tk }) :
    wpAny (model P w) A (call (.type "set") [.ref l]) Q E s := by
  have hisz : items.size = ks.length := by
    have q := str_len hit
    rw [Array.length_toList] at q
    exact q
  obtain ⟨c, tl, hmro⟩ := F.called_set.mro
  have hmade := F.called_set.made
  have hsub := F.called_set.sub
  refine wpAny_call (codeAny_of_tree ?_)
  show wpAny _ _ (callAny (.type "set") _) _ _ _
  refine wpAny_pure ⟨Code.quiet_builtin _ (by decide +kernel), codeAny_builtin F.entry_type_call ?_⟩
  rw [Around.under_plain (weight_type_call_type "set" [.ref l] []) rfl]
  have h1 := F.called_set.notType
  have h2 := F.called_set.canCreate
  have hct := F.typeCall_set_1 (.ref l)
  repeat (any_goals (first | assumption | wp_step))
  generalize hO : ({ cls := .type "set", dict := none, data := .set #[] 0 (.fresh 0 0 (!w.params.followText "set-order")) } : Obj) = O
  have hOc : O.cls = .type "set" := by rw [← hO]
  have hOf : O.isFreed = false := by rw [← hO]; rfl
  refine codeAny_mono (code_set_led1 (.ref l) (E := E) (Q₁ := fun obj s₁ => obj = .ref s.heap.objs.size ∧ s₁ = { s with heap := s.heap.push O }) ⟨rfl, by rw [hO]⟩) fun r s₁ hr => ?_
  cases r with
  | error e => exact hr
  | ok fl =>
    cases fl with
    | ret obj =>
      obtain ⟨rfl, rfl⟩ := hr
      have hS : (s.heap.push O).get? s.heap.objs.size = some O := Heap.get?_push_size _ hOf
      have hT : Shared.TypeIs { s with heap := s.heap.push O } (.ref s.heap.objs.size) "set" := ⟨_, hS, hOc⟩
      have hli := F.called_set.init.lookup
      have hbi := F.called_set.init.bind (.ref s.heap.objs.size)
      repeat (any_goals (first | assumption | wp_step))
      refine codeAny_mono (codeAny_call_builtin (R := wants (fun r s₂ => r = .none ∧ ∃ h' tk L, s₂ = { s with heap := h', toks := tk } ∧ TxR P w h' s.heap.objs.size L ∧ L.length ≤ ks.length ∧ (∀ k, k ∈ L ↔ k ∈ ks) ∧
          (∀ b o, s.heap.get? b = some o → h'.get? b = some o)) E) F.called_set.init.plain F.entry_set_init (check_set_init_1 hT ?_)) fun r₂ s₂ hr₂ => ?_
      · obtain ⟨ol, hol, hcl, nl, hdl⟩ := hl
        obtain ⟨ocls, odict, odata, oslots⟩ := ol
        simp only at hcl hdl
        subst hcl; subst hdl
        have hol' : (s.heap.push O).get? l = some { cls := .type "tuple", dict := odict, data := .seq items nl, slots := oslots } := Heap.get?_push_of_some _ hol
        subst hO
        have hsls := F.sub_tuple_set
        have hslf := F.sub_tuple_frozenset
        have hne : (Value.type "tuple" == Value.type "dict") = false := by decide
        have hl1 : (s.heap.push ({ cls := .type "set", dict := none, data := .set #[] 0 (.fresh 0 0 (!w.params.followText "set-order")) } : Obj)).IsTuple l items := ⟨_, hol', rfl, nl, rfl⟩
        unfold Builtin.«set.__init__» noKeywords Builtin.Frozenset.updateFrom
        generalize hPI : pyIter = PI
        wp_walk
        subst hPI
        refine wpAny_pyIter_tuple (s := { s with heap := s.heap.push ({ cls := .type "set", dict := none, data := .set #[] 0 (.fresh 0 0 (!w.params.followText "set-order")) } : Obj) }) hl1 ?_
        refine wpAny_bind (wpAny_runValue ?_)
        have hlS : l < s.heap.objs.size := Heap.lt_size hol
        have hh3 : A.in1.in1.in1.handled = none := by simp [hh]
        have hneI : l ≠ (s.heap.push ({ cls := .type "set", dict := none, data := .set #[] 0 (.fresh 0 0 (!w.params.followText "set-order")) } : Obj)).objs.size := by
          rw [Heap.size_push]; exact Nat.ne_of_lt (Nat.lt_succ_of_lt hlS)
        have hSf : s.heap.objs.size ∉ [(s.heap.push ({ cls := .type "set", dict := none, data := .set #[] 0 (.fresh 0 0 (!w.params.followText "set-order")) } : Obj)).objs.size, l] := by
          rw [Heap.size_push]; simp only [List.mem_cons, List.mem_singleton, List.not_mem_nil, or_false, not_or]
          exact ⟨Nat.ne_of_lt (Nat.lt_succ_self _), Nat.ne_of_gt hlS⟩
        refine set_update_strs ((Walks.tuple hh3 _ l hneI items).toS) s.heap.objs.size
          hSf ks hisz hb (fun i v hv => str_vals hit i v (by rw [Array.getElem?_toList]; exact hv)) (items.size - 0) 0 _ (by omega) (Nat.zero_le _)
          ⟨⟨_, Heap.get?_push_size _ rfl, rfl, rfl⟩, (hl1.push _)⟩ ⟨[], Nat.le_refl _, (fun k => by simp), txr_new (by exact Heap.get?_push_of_some _ hS)⟩ fun s' L hm hlen hmem hS' => ?_
        obtain ⟨h', g2, d', tk', os'⟩ := s'
        have eg : g2 = s.gens := hm.gens
        have ed : d' = s.drawn := hm.drawn
        have eo : os' = s.os := hm.os
        subst eg; subst ed; subst eo
        show wpAny _ _ _ _ _ _
        refine wpAny_pure ?_
        show wpAny _ _ (ret Value.none) _ _ _
        refine wpAny_pure ⟨rfl, h', tk', L, rfl, hS', by omega, hmem, fun b o e => ?_⟩
        have hb0 : b < s.heap.objs.size := Heap.lt_size e
        have hb2 : b ≠ (s.heap.push ({ cls := .type "set", dict := none, data := .set #[] 0 (.fresh 0 0 (!w.params.followText "set-order")) } : Obj)).objs.size := by
          rw [Heap.size_push]; exact Nat.ne_of_lt (Nat.lt_succ_of_lt hb0)
        exact hm.heap b o (by simp only [List.mem_cons, List.mem_singleton, List.not_mem_nil, or_false, not_or]; exact ⟨Nat.ne_of_lt hb0, hb2⟩) (Heap.get?_push_of_some _ (Heap.get?_push_of_some _ e))
      · cases r₂ with
        | error e => exact hr₂
        | ok fl₂ =>
          cases fl₂ with
          | ret r =>
            obtain ⟨rfl, h', tk, L, rfl, hS', hc', hm', hk'⟩ := hr₂
            repeat (any_goals (first | assumption | wp_step))
            exact h _ _ _ hS' hc' hm' hk'
          | _ => exact hr₂.elim
    | _ => exact hr.elim

end
section
variable {X : Cx}
/-- len(set(t)), t a tuple of texts: how many different ones -/
def tLenSetT (K : PySem.W.Frag) (ta : TE) : TE := fun σ H Q => ta σ H fun x H1 => ∃ (l : Addr) (xs : List Str), x = .ref l ∧ SqT K H1 l (xs.map V.str) ∧ xs.length < 64 ∧ ∀ n : Nat, (∀ ys : List Str, ys.Nodup → (∀ k, k ∈ ys ↔ k ∈ xs) → ys.length = n → Q (.int n) H1) ∧ True
theorem pe_lenSetT {a : Expr} {ta : TE} {p p2 q pos : Pos} (hc : X.calm = true) (hg : Gl X "len") (hm : X.mg "len" = none) (hg2 : Gl X "set") (hm2 : X.mg "set" = none) (ha : PE X a ta)
    (na : starEach [a] X.env = (false, eval a X.env) :: starEach [] X.env := by rfl) : PE X (.Call (.Name "len" p) [.Call (.Name "set" p2) [a] [] q] [] pos) (tLenSetT X.K ta) := by
  refine ⟨fun pins s σ H Q I h => ?_⟩
  refine Call_ (ld_blt I hg hm boot_len ?_)
  refine PyProof.Rows.callWith_builtin1 (PyProof.Rows.args_cons ?_ rfl) rfl rfl
  refine Call_ (ld_blt I hg2 hm2 boot_set ?_)
  refine PyProof.Rows.callWith_type1 (PyProof.Rows.args_cons (thn (ha.run pins s σ H _ I h) fun v s1 ⟨x, H1, I1, r1, q1⟩ => PyProof.Rows.args_nil ?_) na) na rfl
  obtain ⟨l, xs, rfl, hq, h1, q1⟩ := q1
  cases r1
  obtain ⟨its, r, pl, hz⟩ := I1.tuple hq
  refine call_set_strsT xs (I1.ok.hd hc) pl (by simpa using strsAre_of r) (by unfold scanBound; omega) fun h' tk L R hl hmem hk => ?_
  refine PyProof.Rows.args_nil ?_
  have I2 : Inv X pins σ H1 { s1 with heap := h', toks := tk } := I1.kept fun b o e => hk b o e
  obtain ⟨⟨D, ho, F, _⟩, nd⟩ := R
  refine call_len_set ho ⟨rfl, rfl, rfl⟩ rfl F.fit (by rw [F.sz]; omega) ⟨.int L.length, H1, I2.tok _, ⟨_, by rw [F.sz]⟩, (q1 L.length).1 L nd hmem rfl⟩
end
end Fk

set_option maxHeartbeats 4000000
/-! bytes: find from a place on, isascii, decode("ascii"), startswith. -/
namespace Fk
open PySem PySem.Spec PySem.Calls PyProof.Rows L2
open Builtin PySem.W
/-- the place of c in b from n on, or -1 -/
def findB (b c : Array UInt8) (n : Nat) : Int := if (b.size : Int) - (n : Int) < (c.size : Int) then -1 else (Bytes.find? b c n b.size).elim (-1) fun i => (i : Int)
section
variable {M : Model} {A : Around} {E : Value → Shared → Prop} {s : Shared} {b c : Array UInt8} {t u v : Tok} {n : Nat}
theorem bound_none {Q : Option Int → Shared → Prop} (h : Q none s) : wpAny M A (Bytes.bound? none) Q E s := wpAny_of_eq (a := none) rfl h
theorem bound_int {Q : Option Int → Shared → Prop} (h : Q (some (n : Int)) s) : wpAny M A (Bytes.bound? (some (.int (n : Int) v))) Q E s := by
  unfold Bytes.bound?
  refine wpAny_bind (wpAny_specialOf (T := "int") (typeIs_int s n v) F.slot_int_index.lookup ?_)
  try dsimp only
  rw [if_neg (show ¬ (Option.isNone (some (Value.builtin "int.__index__")) = true) from Bool.false_ne_true)]
  refine wpAny_bind (wpAny_of_eq (a := (n : Int)) rfl ?_)
  exact wpAny_pure h
theorem window_from (m n : Nat) : Bytes.window m (some (n : Int)) none = ((n : Int), (m : Int)) := by
  unfold Bytes.window
  have h : ¬ ((n : Int) < 0) := by omega
  have h2 : ¬ ((m : Int) < 0) := by omega
  simp [h, h2]
theorem wp_args3 {name : String} {Q : Array UInt8 × Array UInt8 × Option (Nat × Nat) → Shared → Prop} (h : Q (b, c, if (b.size : Int) - (n : Int) < (c.size : Int) then none else some ((n : Int).toNat, (b.size : Int).toNat)) s) :
    wpAny M A (Bytes.searchArgs .bytes name ⟨[.bytes b t, .bytes c u, .int (n : Int) v], []⟩) Q E s := by
  unfold Bytes.searchArgs
  refine wpAny_bind (wpAny_of_eq (a := (Value.bytes b t, [Value.bytes c u, Value.int (n : Int) v])) rfl ?_)
  refine wpAny_bind (bound_int ?_)
  refine wpAny_bind (bound_none ?_)
  try dsimp only [List.headD]
  refine wpAny_bind (wpAny_of_eq KBy.buffer_eq ?_)
  first
    | refine wpAny_bind (wpAny_pure ?_)
    | (dsimp only; refine wpAny_bind (wpAny_pure ?_))
    | skip
  refine wpAny_bind (wpAny_of_eq (a := b) rfl ?_)
  try dsimp only
  rw [window_from]
  exact wpAny_pure h
end
section
variable {b c : Array UInt8} {t u v : Tok} {n : Nat}
theorem args_find3 (a b c : Value) : argsOk "bytes.find" ⟨[a, b, c], []⟩ := by
  unfold argsOk; rw [signature?_of (id := "bytes.find") (n := ['d', 'n', 'i', 'f']) (o := ['s', 'e', 't', 'y', 'b']) (by kernel_rfl) FB.owner_bytes]; kernel_rfl
theorem gives_find3 : Gives («bytes.find» ⟨[.bytes b t, .bytes c u, .int (n : Int) v], []⟩) (.int (findB b c n)) := by
  refine .of_wp fun M A E s Q hq => ?_
  show wpAny M A (Bytes.searchArgs .bytes "find" ⟨[.bytes b t, .bytes c u, .int (n : Int) v], []⟩ >>= fun r => _) _ E s
  refine wpAny_bind (wp_args3 ?_)
  unfold findB at hq
  by_cases hn : (b.size : Int) - (n : Int) < (c.size : Int)
  · rw [if_pos hn] at hq ⊢
    show wpAny M A (rule _ >>= fun _ => retInt (-1)) _ E s
    exact wpAny_bind (wpAny_rule (wpAny_bind (wpAny_mkInt (wpAny_pure ⟨_, rfl, hq⟩))))
  · rw [if_neg hn] at hq ⊢
    show wpAny M A (match Bytes.find? b c n b.size with | some i => retInt (i : Int) | none => rule _ >>= fun _ => retInt (-1)) _ E s
    cases e : Bytes.find? b c n b.size with
    | none =>
      rw [e] at hq
      exact wpAny_bind (wpAny_rule (wpAny_bind (wpAny_mkInt (wpAny_pure ⟨_, rfl, hq⟩))))
    | some i =>
      rw [e] at hq
      exact wpAny_bind (wpAny_mkInt (wpAny_pure ⟨_, rfl, hq⟩))
end
/-- b.find(c, n) -/
theorem mt_bfind {X : Cx} : MtR X "bytes.find" (fun x xs H Q => ∃ (b c : Array UInt8) (n : Nat), x = .byt b ∧ xs = [.byt c, .int n] ∧ Q (.int (findB b c n)) H) := by
  intro pins s σ H x xs v us Q I rx rs h
  obtain ⟨b, c, n, rfl, rfl, q⟩ := h
  obtain ⟨t, rfl⟩ := rx
  cases rs with
  | cons r1 r2 =>
    cases r2 with
    | cons r2 r3 =>
      cases r3
      obtain ⟨t1, rfl⟩ := r1
      obtain ⟨t2, rfl⟩ := r2
      exact call_gives KBf.slot_find (typeIs_bytes s b t) KBf.entry_find (args_find3 _ _ _) gives_find3 ⟨.int (findB b c n), H, I.tok _, ⟨_, rfl⟩, q⟩
/-- b.startswith(c) -/
theorem mt_bstarts {X : Cx} : MtR X "bytes.startswith" (fun x xs H Q => ∃ (b c : Array UInt8), x = .byt b ∧ xs = [.byt c] ∧ Q (.bl (KBf.starts (KBw.bInts b) (KBw.bInts c))) H) := by
  intro pins s σ H x xs v us Q I rx rs h
  obtain ⟨b, c, rfl, rfl, q⟩ := h
  obtain ⟨t, rfl⟩ := rx
  cases rs with
  | cons r1 r2 =>
    cases r2
    obtain ⟨t1, rfl⟩ := r1
    exact call_gives FB.slot_bytes_startswith (typeIs_bytes s b t) FB.entry_bytes_startswith (FB.args_bytes_startswith_2 _ _) (KBf.gives_starts rfl rfl) ⟨.bl _, H, I, rfl, q⟩
def ascB (b : Array UInt8) : Bool := b.toList.all fun x => decide (x < 128)
theorem gives_asc {b : Array UInt8} {t : Tok} : Gives («bytes.isascii» ⟨[.bytes b t], []⟩) (.val (.bool (ascB b))) := by
  refine .of_wp fun M A E s Q hq => ?_
  show wpAny M A (Bytes.testM .bytes "isascii" _ ⟨[.bytes b t], []⟩) _ E s
  unfold Bytes.testM
  refine wpAny_bind (wpAny_of_eq (a := Value.bytes b t) rfl ?_)
  refine wpAny_bind (wpAny_of_eq (a := b) rfl ?_)
  exact wpAny_pure ⟨_, rfl, hq⟩
theorem slot_isascii : Slot "bytes" "isascii" "bytes.isascii" :=
  .of (owner := "bytes") (n := "isascii") (by rw [typeLookup_type, builtinLookup_eq_fast]; kernel_rfl) (by decide +kernel) (by decide +kernel) (by decide +kernel)
    (by first | exact .inl (by decide +kernel) | exact .inr (by decide +kernel)) (by rw [isSubtype_type]; kernel_rfl)
theorem type_isascii : typeOf (.builtin "bytes.isascii") = pure (.type "method_descriptor") := by show builtinType _ = _; rw [builtinType_eq_fast]; kernel_rfl
theorem entry_isascii : entryFor table "bytes.isascii" = some Builtin.«bytes.isascii» := by first | exact entryFor_of_tree (by kernel_rfl) | exact entryFor_of_fast (by kernel_rfl)
theorem args_isascii (a : Value) : argsOk "bytes.isascii" ⟨[a], []⟩ := by
  unfold argsOk; rw [signature?_of (id := "bytes.isascii") (n := ['i', 'i', 'c', 's', 'a', 's', 'i']) (o := ['s', 'e', 't', 'y', 'b']) (by kernel_rfl) FB.owner_bytes]; kernel_rfl
/-- b.isascii() -/
theorem mt_bascii {X : Cx} : MtR X "bytes.isascii" (fun x xs H Q => ∃ b : Array UInt8, x = .byt b ∧ xs = [] ∧ Q (.bl (ascB b)) H) := by
  intro pins s σ H x xs v us Q I rx rs h
  obtain ⟨b, rfl, rfl, q⟩ := h
  obtain ⟨t, rfl⟩ := rx
  cases rs
  exact call_gives slot_isascii (typeIs_bytes s b t) entry_isascii (args_isascii _) gives_asc ⟨.bl _, H, I, rfl, q⟩
/-! ### decode -/
def strB (b : Array UInt8) : PySem.Str := ⟨(b.toList.map (·.toNat)).toArray⟩
theorem road_asc {id : String} {b : Array UInt8} : _codecs.decodeRoad id b (PySem.Str.ofString "ascii") none [] = (_codecs.runDecoder id _codecs.asciiDecoder none true b 0 [] >>= fun r => mkStr ⟨r.1⟩) := by kernel_rfl
theorem decode_entry {c : UInt8} {cs : List UInt8} {t t2 : Tok} : «bytes.decode» ⟨[.bytes (c :: cs).toArray t, .str (PySem.Str.ofString "ascii") t2], []⟩ = (mkStr (PySem.Str.ofString "utf-8") >>= fun e => mkStr (PySem.Str.ofString "ascii") >>= fun a => mkStr (PySem.Str.ofString "bytes.decode") >>= fun d =>
    call (.builtin "_codecs.decode.text") [.bytes (c :: cs).toArray t, a, .none, d] >>= fun v => ret v) := by first | kernel_rfl | rfl
def prefB (b : Array UInt8) (k : Nat) : Array Nat := ((b.toList.take k).map (·.toNat)).toArray
theorem prefB_size (b : Array UInt8) {k : Nat} (h : k ≤ b.size) : (prefB b k).size = k := by
  unfold prefB
  rw [List.size_toArray, List.length_map, List.length_take, Array.length_toList]
  omega
theorem prefB_succ (b : Array UInt8) {k : Nat} (h : k < b.size) : prefB b k ++ #[(b.getD k 0).toNat] = prefB b (k + 1) := by
  apply Array.toList_inj.mp
  unfold prefB
  have e : b.toList[k]? = some (b[k]) := by rw [Array.getElem?_toList, Array.getElem?_eq_getElem h]
  have g : b.getD k 0 = b[k] := by rw [Array.getD_eq_getD_getElem?, Array.getElem?_eq_getElem h]; rfl
  rw [List.take_add_one, e, g]
  simp
theorem loop_gen {M : Model} {A : Around} {E : Value → Shared → Prop} {s : Shared} {b : Array UInt8} {st : _codecs.Faults} {F : Nat → Nat × Array Nat × _codecs.Faults → Sem (ForInStep (Nat × Array Nat × _codecs.Faults))} {Q : Nat × Array Nat × _codecs.Faults → Shared → Prop}
    (step : ∀ (k x : Nat) (Q' : ForInStep (Nat × Array Nat × _codecs.Faults) → Shared → Prop), k < b.size → Q' (.yield (k + 1, prefB b (k + 1), st)) s → wpAny M A (F x (k, prefB b k, st)) Q' E s) (q : Q (b.size, prefB b b.size, st) s) :
    ∀ (m k : Nat), k + m = b.size → wpAny M A (forIn (List.range' k m) (k, prefB b k, st) F) Q E s
  | 0, k, h => by
    show wpAny M A (forIn ([] : List Nat) _ _) _ E s
    rw [List.forIn_nil]
    have : k = b.size := by omega
    subst this
    exact wpAny_pure q
  | m + 1, k, h => by
    rw [List.range'_succ]
    refine KPc.turn (step k k _ (by omega) ?_)
    exact loop_gen step q m (k + 1) (by omega)
theorem run_asc {M : Model} {A : Around} {E : Value → Shared → Prop} {s : Shared} {id : String} {b : Array UInt8} {Q : Array Nat × Nat → Shared → Prop} (ha : ascB b = true) (hz : b.size ≤ 16777216) (h : ∀ n, Q ((strB b).cps, n) s) : wpAny M A (_codecs.runDecoder id _codecs.asciiDecoder none true b 0 []) Q E s := by
  unfold _codecs.runDecoder
  refine wpAny_bind ?_
  rw [KPc.range_list]
  have e0 : (#[] : Array Nat) = prefB b 0 := rfl
  have all : (strB b).cps = prefB b b.size := by
    unfold strB prefB
    rw [List.take_of_length_le (by rw [Array.length_toList]; exact Nat.le_refl _)]
  refine loop_gen (b := b) (fun k x Q' hk hq => ?_) ?_ b.size 0 (by omega)
  · have z : ¬ sizeLine < (prefB b k).size := by rw [prefB_size b (by omega), sizeLine_eq]; omega
    refine wpAny_ite (KBy.ite_no z ?_)
    (try dsimp only)
    refine wpAny_ite (KBy.ite_no (show ¬ k ≥ b.size by omega) ?_)
    have g : b.getD k 0 = b[k] := by rw [Array.getD_eq_getD_getElem?, Array.getElem?_eq_getElem hk]; rfl
    have lt : (b.getD k 0).toNat < 128 := by
      rw [g]
      have := List.all_eq_true.mp ha (b[k]) (Array.getElem_mem_toList hk)
      exact of_decide_eq_true this
    have hf : _codecs.asciiDecoder.find true b k = _codecs.Found.text [(b.getD k 0).toNat] (k + 1) := if_pos lt
    rw [hf]
    (try dsimp only)
    have e : prefB b k ++ [(b.getD k 0).toNat].toArray = prefB b (k + 1) := prefB_succ b hk
    rw [e]
    exact wpAny_pure hq
  · refine wpAny_pure ?_
    rw [← all]
    exact h _
theorem strB_len (b : Array UInt8) : (strB b).length = b.size := by
  show (List.map _ b.toList).toArray.size = _
  rw [List.size_toArray, List.length_map, Array.length_toList]
theorem meets_dtext {b : Array UInt8} {t t1 t2 : Tok} {d : PySem.Str} (ha : ascB b = true) (hz : b.size ≤ 16777216) :
    Meets («_codecs.decode.text» ⟨[.bytes b t, .str (PySem.Str.ofString "ascii") t1, .none, .str d t2], []⟩) (fun _ R s => R (.ok (.ret (.str (strB b) s.toks))) { s with toks := s.toks + 1 }) := by
  refine .of_wp fun prog w A R s h => ?_
  show wpAny _ _ (Bytes.bytesLike _ (.bytes b t) >>= fun r => _) _ _ s
  refine wpAny_bind (wpAny_of_eq KBd.like_eq ?_)
  refine wpAny_bind (wpAny_of_eq KBd.held_eq ?_)
  show wpAny _ _ (_codecs.decodeRoad _ b (PySem.Str.ofString "ascii") none [] >>= fun v => _) _ _ s
  rw [road_asc]
  refine wpAny_bind (wpAny_bind (run_asc ha hz fun n => ?_))
  exact wpAny_mkStr (wpAny_pure ⟨_, rfl, h⟩) (by show (strB b).length ≤ _; rw [strB_len, sizeLine_eq]; exact hz)
theorem meets_dasc {b : Array UInt8} {t t2 : Tok} (ha : ascB b = true) (hz : b.size ≤ 16777216) :
    Meets («bytes.decode» ⟨[.bytes b t, .str (PySem.Str.ofString "ascii") t2], []⟩) (fun _ R s => ∀ t' k, R (.ok (.ret (.str (strB b) t'))) { s with toks := k }) := by
  refine .of_wp fun prog w A R s h => ?_
  cases hb : b.toList with
  | nil =>
    have e : b = #[] := Array.toList_inj.mp hb
    subst e
    have e2 : «bytes.decode» ⟨[.bytes #[] t, .str (PySem.Str.ofString "ascii") t2], []⟩ = (rule "bytes.decode.empty" >>= fun _ => mkStr PySem.Str.empty >>= fun v => ret v) := by first | kernel_rfl | rfl
    rw [e2]
    refine wpAny_bind (wpAny_rule (wpAny_bind (wpAny_mkStr ?_ (by decide))))
    exact wpAny_pure ⟨_, rfl, h _ _⟩
  | cons c cs =>
    have e : b = (c :: cs).toArray := Array.toList_inj.mp hb
    subst e
    rw [decode_entry]
    refine wpAny_bind (wpAny_mkStr ?_ (by decide))
    refine wpAny_bind (wpAny_mkStr ?_ (by decide))
    refine wpAny_bind (wpAny_mkStr ?_ (by decide))
    exact wpAny_bind (call_function_meets KBd.kind_text KBd.plain_text KBd.entry_text (KBd.args_text _ _ _ _) (meets_dtext ha hz) (wpAny_pure ⟨_, rfl, h _ _⟩))
theorem args_decode2 (a b : Value) : argsOk "bytes.decode" ⟨[a, b], []⟩ := by
  unfold argsOk; rw [signature?_of (id := "bytes.decode") (n := ['e', 'd', 'o', 'c', 'e', 'd']) (o := ['s', 'e', 't', 'y', 'b']) (by kernel_rfl) FB.owner_bytes]; kernel_rfl
/-- b.decode("ascii") -/
theorem mt_bdecode {X : Cx} : MtR X "bytes.decode" (fun x xs H Q => ∃ b : Array UInt8, x = .byt b ∧ xs = [.str (PySem.Str.ofString "ascii")] ∧ ascB b = true ∧ b.size ≤ 16777216 ∧ Q (.str (strB b)) H) := by
  intro pins s σ H x xs v us Q I rx rs h
  obtain ⟨b, rfl, rfl, ha, hz, q⟩ := h
  obtain ⟨t, rfl⟩ := rx
  cases rs with
  | cons r1 r2 =>
    cases r2
    obtain ⟨t1, rfl⟩ := r1
    exact call_meets FB.slot_bytes_decode (typeIs_bytes s b t) FB.entry_bytes_decode (args_decode2 _ _) (meets_dasc ha hz) fun t' k => ⟨.str (strB b), H, I.tok k, ⟨t', rfl⟩, q⟩
/-! ### methods of bytes -/
def tBB0 (r : V → List V → Hp → VK → Prop) (to : TE) : TE := fun σ H Q => to σ H fun x H1 => (∃ b, x = .byt b) ∧ r x [] H1 Q
def tBB (r : V → List V → Hp → VK → Prop) (to : TE) (t : TA) : TE := fun σ H Q => to σ H fun x H1 => (∃ b, x = .byt b) ∧ t σ H1 fun xs H2 => r x xs H2 Q
section
variable {X : Cx} {o e : Expr} {es : List Expr} {to : TE} {t : TA} {name : PySem.Str} {apos cpos : Pos} {id : String} {r : V → List V → Hp → VK → Prop}
theorem pe_bB0 (slot : Slot "bytes" name id) (hty : typeOf (.builtin id) = pure (.type "method_descriptor")) (hm : MtR X id r) (ho : PE X o to)
    (hbase : attributeBase o name X.env (eval o X.env) = eval o X.env := by rfl) (hline : (apos.endLine == cpos.line) = true := by rfl) : PE X (.Call (.Attribute o name apos) [] [] cpos) (tBB0 r to) := by
  refine ⟨fun pins s σ H Q I h => ?_⟩
  refine wpAny_Call_method0_late hbase hline (thn (ho.run pins s σ H _ I h) fun v s1 ⟨x, H1, I1, r1, ty, q1⟩ => ?_)
  obtain ⟨b, rfl⟩ := ty
  obtain ⟨tk, rfl⟩ := (show ∃ t, v = Value.bytes b t from r1)
  exact ⟨"bytes", id, FB.plainAttrs_bytes, slot, hty, typeIs_bytes _ _ _, (fun _ e => nomatch e), Calls.callWith_builtin rfl (PySem.evalArgs_none (hm pins s1 σ H1 _ [] _ [] Q I1 r1 .nil q1))⟩
theorem pe_bB (slot : Slot "bytes" name id) (hty : typeOf (.builtin id) = pure (.type "method_descriptor")) (hm : MtR X id r) (ho : PE X o to) (ha : PA X (e :: es) t)
    (hbase : attributeBase o name X.env (eval o X.env) = eval o X.env := by rfl)
    (hfew : ((backTo cpos (starEach (e :: es) X.env)).all (fun x => !x.1) && (backToKw cpos (keywordEach [] X.env)).all (fun x => x.1.isSome)
      && decide ((e :: es).length + ([] : List Keyword).length + (if ([] : List Keyword).isEmpty then 0 else 1) < 30)) = true := by rfl)
    (hline : (apos.endLine == cpos.line) = true := by rfl) (hs : starEach (e :: es) X.env = (false, eval e X.env) :: starEach es X.env := by rfl) (hplain : (backTo cpos (starEach es X.env)).any (·.1) = false := by rfl) :
    PE X (.Call (.Attribute o name apos) (e :: es) [] cpos) (tBB r to t) := by
  refine ⟨fun pins s σ H Q I h => ?_⟩
  refine wpAny_Call_method_late hbase hfew hline rfl (thn (ho.run pins s σ H _ I h) fun v s1 ⟨x, H1, I1, r1, ty, q1⟩ => ?_)
  obtain ⟨b, rfl⟩ := ty
  obtain ⟨tk, rfl⟩ := (show ∃ t, v = Value.bytes b t from r1)
  refine ⟨"bytes", id, FB.plainAttrs_bytes, slot, hty, typeIs_bytes _ _ _, (fun _ e => nomatch e), ?_⟩
  have hA := ha.run cpos pins s1 σ H1 _ I1 q1
  rw [hs] at hA ⊢
  refine Calls.callWith_builtin (by show (false || (backTo cpos (starEach es X.env)).any (·.1)) = false; rw [hplain] <;> rfl) (Calls.evalArgs_plain ?_)
  exact thn hA fun us s2 ⟨vs, H2, I2, r2, q2⟩ => hm pins s2 σ H2 _ vs _ us Q I2 r1 r2 q2
end
theorem slot_bdecode : Slot "bytes" "decode" "bytes.decode" := FB.slot_bytes_decode
theorem type_bdecode : typeOf (.builtin "bytes.decode") = pure (.type "method_descriptor") := FB.type_bytes_decode
theorem slot_bstarts : Slot "bytes" "startswith" "bytes.startswith" := FB.slot_bytes_startswith
theorem type_bstarts : typeOf (.builtin "bytes.startswith") = pure (.type "method_descriptor") := FB.type_bytes_startswith
end Fk

set_option maxHeartbeats 4000000
/-! The four kinds of objects: what they are, where they stand, their texts. -/
namespace Fk
open PySem PySem.Spec PyProof.Rows L2
inductive Ob where
  | blob (x : Str)
  | tree (es : List (Str × Str × Str))
  | commit (t : Str) (ps : List Str) (au : Str) (tm : Int) (msg : Str)
  | tag (tg lb msg : Str)
  deriving DecidableEq
def Ob.kd : Ob → Nat
  | .blob _ => 0
  | .tree _ => 1
  | .commit .. => 2
  | .tag .. => 3
theorem Ob.kd_lt (o : Ob) : o.kd < 4 := by cases o <;> simp [Ob.kd]
/-- the classes -/
structure C4 where
  B : Addr
  T : Addr
  C : Addr
  G : Addr
def C4.at (c : C4) : Nat → Addr
  | 0 => c.B
  | 1 => c.T
  | 2 => c.C
  | _ => c.G
abbrev Ent := Str × Str × Str
def entL (e : Ent) : List V := [.str e.2.1, .str e.2.2]
def KINDS : List Str := ["file", "exec", "dir"]
def EntOk (e : Ent) : Prop := isSegF e.1 = true ∧ e.2.1 ∈ KINDS ∧ isIdF e.2.2 = true
def EntsOk (es : List Ent) : Prop := es.length ≤ 30 ∧ (es.map (·.1)).Nodup ∧ sortedS (es.map (·.1)) = true ∧ ∀ e ∈ es, EntOk e
def Ob.ok : Ob → Prop
  | .blob x => isTextF x = true
  | .tree es => EntsOk es
  | .commit t ps au tm msg => isIdF t = true ∧ ps.length ≤ 6 ∧ ps.Nodup ∧ (∀ p ∈ ps, isIdF p = true) ∧ isWordF LET au = true ∧ 0 ≤ tm ∧ tm ≤ 1000000000000 ∧ isTextF msg = true ∧ msg.length ≤ 200
  | .tag tg lb msg => isIdF tg = true ∧ isSegF lb = true ∧ isTextF msg = true ∧ msg.length ≤ 200
/-- a table's entries -/
def EntsAt (K : PySem.W.Frag) (H : Hp) (t : Tab) (es : List Ent) : Prop := Paired (fun p e => p.1 = e.1 ∧ ∃ q, p.2 = V.ref q ∧ TupK K H q (entL e)) t es
def cmF (t : Str) (p : Addr) (au : Str) (tm : Int) (msg : Str) : List (Str × V) := [("_tree", .str t), ("_parents", .ref p), ("_author", .str au), ("_time", .int tm), ("_message", .str msg)]
def tgF (tg lb msg : Str) : List (Str × V) := [("_target", .str tg), ("_label", .str lb), ("_message", .str msg)]
/-- at a stands the object o; d: the dict of a tree -/
def ObAt (K : PySem.W.Frag) (c : C4) (H : Hp) (a d : Addr) : Ob → Prop
  | .blob x => ∃ dx, H a = some (.ins c.B dx [("_text", .str x)])
  | .tree es => ∃ dx t, H a = some (.ins c.T dx [("_entries", .ref d)]) ∧ H d = some (.dK (kT t)) ∧ EntsAt K H t es
  | .commit t ps au tm msg => ∃ dx p, H a = some (.ins c.C dx (cmF t p au tm msg)) ∧ TupK K H p (ps.map V.str)
  | .tag tg lb msg => ∃ dx, H a = some (.ins c.G dx (tgF tg lb msg))
theorem EntsAt.keep {K : PySem.W.Frag} {H H' : Hp} {t : Tab} {es : List Ent} (h : EntsAt K H t es) (k : TupKeep H H') : EntsAt K H' t es := Paired.mapP h fun _ _ ⟨e, q, e1, e2⟩ => ⟨e, q, e1, e2.keep k⟩
/-- instances and tuples stay -/
def InsKeep (H H' : Hp) : Prop := ∀ b C dx fs, H b = some (.ins C dx fs) → H' b = some (.ins C dx fs)
theorem InsKeep.of {H H' : Hp} (s : Same H H') : InsKeep H H' := fun b _ _ _ e => s b _ e
theorem InsKeep.trans {H H1 H2 : Hp} (a : InsKeep H H1) (b : InsKeep H1 H2) : InsKeep H H2 := fun c _ _ _ e => b c _ _ _ (a c _ _ _ e)
theorem InsKeep.at {a : Addr} {H : Hp} {o : HO} (n : ∀ C dx fs, H a ≠ some (.ins C dx fs)) : InsKeep H (upd H a o) := fun b C dx fs e => by
  have z : b ≠ a := fun z => n C dx fs (by rw [← z]; exact e)
  rw [upd_ne z]
  exact e
theorem ObAt.keep {K : PySem.W.Frag} {c : C4} {H H' : Hp} {a d : Addr} {o : Ob} (h : ObAt K c H a d o) (k : TupKeep H H') (i : InsKeep H H') (e : ∀ u, H d = some (.dK u) → H' d = some (.dK u)) : ObAt K c H' a d o := by
  cases o with
  | blob x => obtain ⟨dx, h⟩ := h; exact ⟨dx, i _ _ _ _ h⟩
  | tree es => obtain ⟨dx, t, h, h2, h3⟩ := h; exact ⟨dx, t, i _ _ _ _ h, e _ h2, h3.keep k⟩
  | commit t ps au tm msg => obtain ⟨dx, p, h, h2⟩ := h; exact ⟨dx, p, i _ _ _ _ h, h2.keep k⟩
  | tag tg lb msg => obtain ⟨dx, h⟩ := h; exact ⟨dx, i _ _ _ _ h⟩
theorem ObAt.same {K : PySem.W.Frag} {c : C4} {H H' : Hp} {a d : Addr} {o : Ob} (h : ObAt K c H a d o) (s : Same H H') : ObAt K c H' a d o := h.keep (TupKeep.of s) (InsKeep.of s) fun _ e => s _ _ e
/-- only the list at a changed -/
theorem Fr.tups {a : Addr} {H H' : Hp} {l : List V} (f : Fr a H H') (h : H a = some (.lst l)) : TupKeep H H' := fun b xs e => f b _ (fun z => by rw [z, h] at e; cases e) e
theorem Fr.inss {a : Addr} {H H' : Hp} {l : List V} (f : Fr a H H') (h : H a = some (.lst l)) : InsKeep H H' := fun b C dx fs e => f b _ (fun z => by rw [z, h] at e; cases e) e
theorem Fr.dict {a d : Addr} {H H' : Hp} {l : List V} {u : List (Key × V)} (f : Fr a H H') (h : H a = some (.lst l)) (e : H d = some (.dK u)) : H' d = some (.dK u) := f d _ (fun z => by rw [z, h] at e; cases e) e
theorem ObAt.wl {K : PySem.W.Frag} {cl : C4} {H H' : Hp} {a d w : Addr} {c : Int} {o : Ob} (h : ObAt K cl H a d o) (hw : Wl H w c) (f : Fr w H H') : ObAt K cl H' a d o := by
  obtain ⟨_, x, y, e⟩ := hw
  exact h.keep (f.tups e) (f.inss e) fun _ z => f.dict e z
/-- where an object stands -/
theorem ObAt.ins {K : PySem.W.Frag} {c : C4} {H : Hp} {a d : Addr} {o : Ob} (h : ObAt K c H a d o) : ∃ dx fs, H a = some (.ins (c.at o.kd) dx fs) := by
  cases o with
  | blob x => obtain ⟨dx, h⟩ := h; exact ⟨dx, _, h⟩
  | tree es => obtain ⟨dx, t, h, _⟩ := h; exact ⟨dx, _, h⟩
  | commit t ps au tm msg => obtain ⟨dx, p, h, _⟩ := h; exact ⟨dx, _, h⟩
  | tag tg lb msg => obtain ⟨dx, h⟩ := h; exact ⟨dx, _, h⟩
/-! ### trees that are equal -/
def datE (es : List Ent) : List (Key × PyData) := es.map fun e => (.inr e.1, .tuple [.str e.2.1, .str e.2.2])
theorem dat_at {K : PySem.W.Frag} {H : Hp} : ∀ {t : Tab} {es : List Ent}, EntsAt K H t es → DD K H (kT t) (datE es)
  | _, _, .nil => .nil
  | _, _, .cons (a := p) (b := e) ⟨e1, q, e2, e3⟩ r => by
    refine .cons ⟨by show Sum.inr p.1 = Sum.inr e.1; rw [e1], ?_⟩ (dat_at r)
    show Dp K H p.2 _
    rw [e2]
    exact dp_head e3
theorem kinds_ok : ∀ k ∈ KINDS, OkS k := fun k hk => by
  have : ∀ k ∈ KINDS, ((TL.tl k).all fun u => decide (u < 1114112)) = true := by decide +kernel
  exact ok_by (this k hk)
theorem id_ok {x : Str} (h : isIdF x = true) : OkS x := by
  unfold isIdF at h
  exact ok_sub (only_sub (Bool.and_eq_true_iff.mp h).2) ok_hex
theorem shaped_ents {es : List Ent} (h : ∀ e ∈ es, EntOk e) : shapedAll (datE es) := fun p hp => by
  obtain ⟨e, he, rfl⟩ := List.mem_map.mp hp
  exact shaped_head (kinds_ok _ (h e he).2.1) (id_ok (h e he).2.2)
theorem valD_ents {es : List Ent} (nd : (es.map (·.1)).Nodup) {e : Ent} (he : e ∈ es) : valD (datE es) (.inr e.1) = some (.tuple [.str e.2.1, .str e.2.2]) := by
  induction es with
  | nil => exact absurd he (by simp)
  | cons f r ih =>
    obtain ⟨n1, n2⟩ := List.nodup_cons.mp (show (f.1 :: r.map (·.1)).Nodup from nd)
    show valD ((.inr f.1, _) :: datE r) _ = _
    rcases List.mem_cons.mp he with z | z
    · rw [z]
      exact valD_pos rfl
    · rw [valD_neg (fun q => n1 (by rw [show f.1 = e.1 from Sum.inr.inj q]; exact List.mem_map.mpr ⟨e, z, rfl⟩))]
      exact ih n2 z
theorem valD_mem {es : List Ent} {k : Str} {d : PyData} (h : valD (datE es) (.inr k) = some d) : ∃ e ∈ es, e.1 = k ∧ d = .tuple [.str e.2.1, .str e.2.2] := by
  induction es with
  | nil => cases h
  | cons f r ih =>
    have h : valD ((.inr f.1, .tuple [.str f.2.1, .str f.2.2]) :: datE r) (.inr k) = some d := h
    by_cases c : f.1 = k
    · rw [valD_pos (by rw [c])] at h
      exact ⟨f, List.mem_cons_self, c, (Option.some.inj h).symm⟩
    · rw [valD_neg (fun q => c (Sum.inr.inj q))] at h
      obtain ⟨e, he, r⟩ := ih h
      exact ⟨e, List.mem_cons_of_mem _ he, r⟩
theorem nodup_inj {α : Type} {l : List α} (h : l.Nodup) {i j : Nat} (hi : i < l.length) (hj : j < l.length) (e : l[i] = l[j]) : i = j := by
  have p := List.pairwise_iff_getElem.mp h
  rcases Nat.lt_trichotomy i j with c | c | c
  · exact absurd e (p i j hi hj c)
  · exact c
  · exact absurd e.symm (p j i hj hi c)
theorem sub_perm {α : Type} [DecidableEq α] : ∀ {l m : List α}, l.Nodup → (∀ x ∈ l, x ∈ m) → m.length ≤ l.length → l.Perm m
  | [], m, _, _, h => by rw [List.eq_nil_of_length_eq_zero (Nat.le_zero.mp h)]
  | x :: r, m, nd, hs, h => by
    obtain ⟨n1, n2⟩ := List.nodup_cons.mp nd
    have hx := hs x List.mem_cons_self
    have hl := List.length_erase_of_mem hx
    have h : m.length ≤ r.length + 1 := h
    exact ((sub_perm n2 (fun y hy => (List.mem_erase_of_ne (fun (z : y = x) => n1 (by rw [← z]; exact hy))).mpr (hs y (List.mem_cons_of_mem _ hy))) (by omega)).cons x).trans (List.perm_cons_erase hx).symm
theorem ents_eq {es fs : List Ent} (he : es.map (·.1) = fs.map (·.1)) (nd : (fs.map (·.1)).Nodup) (hm : ∀ e ∈ es, e ∈ fs) : es = fs := by
  have hl : es.length = fs.length := by
    have := congrArg List.length he
    rwa [List.length_map, List.length_map] at this
  refine List.ext_getElem hl fun i h1 h2 => ?_
  obtain ⟨j, hj, e⟩ := List.mem_iff_getElem.mp (hm _ (List.getElem_mem h1))
  have k1 : (fs.map (·.1))[j]'(by rw [List.length_map]; exact hj) = (fs.map (·.1))[i]'(by rw [List.length_map]; exact h2) := by
    rw [List.getElem_map, e]
    have := List.getElem_of_eq he (i := i) (by rw [List.length_map]; exact h1)
    rw [List.getElem_map, List.getElem_map] at this
    rw [this, List.getElem_map]
  have : j = i := nodup_inj nd _ _ k1
  subst this
  exact e.symm
theorem eqv_ents2 {es fs : List Ent} (h : EntsOk es) (k : EntsOk fs) : eqvDict (datE es) (datE fs) = decide (es = fs) := by
  obtain ⟨_, n1, s1, _⟩ := h
  obtain ⟨_, n2, s2, _⟩ := k
  by_cases c : es = fs
  · subst c
    rw [decide_eq_true rfl]
    unfold eqvDict
    rw [decide_eq_true rfl, Bool.true_and, List.all_eq_true]
    intro p hp
    obtain ⟨e, he, rfl⟩ := List.mem_map.mp hp
    unfold hitD
    show (match valD (datE es) (.inr e.1) with | none => false | some d => PyData.eqv _ d) = true
    rw [valD_ents n1 he]
    show PyData.eqv _ _ = true
    rw [eqv_head, decide_eq_true rfl]
  · rw [decide_eq_false c]
    refine Bool.eq_false_iff.mpr fun z => c ?_
    unfold eqvDict at z
    obtain ⟨z1, z2⟩ := Bool.and_eq_true_iff.mp z
    have hl : es.length = fs.length := by
      have := of_decide_eq_true z1
      unfold datE at this
      rwa [List.length_map, List.length_map] at this
    have hm : ∀ e ∈ es, e ∈ fs := fun e he => by
      have q := List.all_eq_true.mp z2 _ (List.mem_map.mpr ⟨e, he, rfl⟩)
      unfold hitD at q
      cases v : valD (datE fs) (.inr e.1) with
      | none =>
        have q : (match valD (datE fs) (.inr e.1) with | none => false | some d => PyData.eqv _ d) = true := q
        rw [v] at q
        cases q
      | some d =>
        obtain ⟨f, hf, e1, e2⟩ := valD_mem v
        have q : (match valD (datE fs) (.inr e.1) with | none => false | some d => PyData.eqv _ d) = true := q
        rw [v] at q
        rw [e2] at q
        have q : PyData.eqv _ _ = true := q
        rw [eqv_head] at q
        have q := of_decide_eq_true q
        have : e = f := by
          obtain ⟨a, b, d⟩ := e
          obtain ⟨a', b', d'⟩ := f
          simp only [Prod.mk.injEq] at q e1 ⊢
          exact ⟨e1.symm, by first | exact q.1 | exact q.1.symm, by first | exact q.2 | exact q.2.symm⟩
        rw [this]
        exact hf
    have kp : (es.map (·.1)).Perm (fs.map (·.1)) := by
      refine sub_perm n1 (fun k hk => ?_) (by rw [List.length_map, List.length_map, hl]; exact Nat.le_refl _)
      obtain ⟨e, he, rfl⟩ := List.mem_map.mp hk
      exact List.mem_map.mpr ⟨e, hm e he, rfl⟩
    exact ents_eq (sort_uniq s1 s2 kp) n2 hm
/-! ### operators by one of two rules -/
theorem op_or {X : Cx} {f : Value → Value → Sem Value} {r1 r2 : R2} (h1 : OpR X f r1) (h2 : OpR X f r2) : OpR X f (fun x y H Q => r1 x y H Q ∨ r2 x y H Q) := fun pins s σ H x y v u Q I rx ry h => h.elim (h1 pins s σ H x y v u Q I rx ry) (h2 pins s σ H x y v u Q I rx ry)
theorem op_mono {X : Cx} {f : Value → Value → Sem Value} {r1 r2 : R2} (h : OpR X f r1) (k : ∀ x y H Q, r2 x y H Q → r1 x y H Q) : OpR X f r2 := fun pins s σ H x y v u Q I rx ry q => h pins s σ H x y v u Q I rx ry (k x y H Q q)
end Fk

set_option maxHeartbeats 4000000
/-! The texts of objects. -/
namespace Fk
open PySem PySem.Spec PyProof.Rows L2
theorem ax_app {x y : Str} (hx : AsX x) (hy : AsX y) : AsX (x ++ y) := fun u hu => by
  have hu : u ∈ TL.tl (x ++ y) := hu
  rw [TL.tl_append] at hu
  rcases List.mem_append.mp hu with hu | hu
  · exact hx u hu
  · exact hy u hu
theorem ax_by {x : Str} (h : (TL.tl x).all (fun u => decide (u < 128)) = true) : AsX x := fun u hu => of_decide_eq_true (List.all_eq_true.mp h u hu)
theorem ax_sub {x y : Str} (h : ∀ u ∈ TL.tl x, u ∈ TL.tl y) (hy : AsX y) : AsX x := fun u hu => hy u (h u hu)
theorem ax_hex : AsX HEX := ax_by (by decide +kernel)
theorem ax_ssg : AsX SSG := ax_by (by decide +kernel)
theorem ax_let : AsX LET := ax_by (by decide +kernel)
theorem ax_id {x : Str} (h : isIdF x = true) : AsX x := by
  unfold isIdF at h
  exact ax_sub (only_sub (Bool.and_eq_true_iff.mp h).2) ax_hex
theorem ax_word {x y : Str} (h : isWordF y x = true) (hy : AsX y) : AsX x := by
  unfold isWordF at h
  simp only [Bool.and_eq_true] at h
  exact ax_sub (only_sub h.2.2) hy
theorem ax_seg {x : Str} (h : isSegF x = true) : AsX x := by
  unfold isSegF at h
  exact ax_word (Bool.and_eq_true_iff.mp h).1 ax_ssg
theorem ax_text {x : Str} (h : isTextF x = true) : AsX x := fun u hu => by
  have h := List.all_eq_true.mp (Bool.and_eq_true_iff.mp h).2 u hu
  rcases Bool.or_eq_true_iff.mp h with h | h
  · have := of_decide_eq_true h
    omega
  · unfold plainC at h
    have h2 := (Bool.and_eq_true_iff.mp h).2
    have h3 : ¬ ([126] < [u]) := fun z => by
      rw [decide_eq_true z] at h2
      exact absurd h2 (by decide)
    have h4 : ¬ 126 < u := fun z => h3 (List.Lex.rel z)
    omega
theorem ax_kinds : ∀ k ∈ KINDS, AsX k := fun k hk => ax_by ((by decide +kernel : ∀ k ∈ KINDS, (TL.tl k).all (fun u => decide (u < 128)) = true) k hk)
theorem kinds_len : ∀ k ∈ KINDS, k.length ≤ 4 := by decide +kernel
/-! ### join by nothing -/
theorem nil_tl : TL.tl ("" : Str) = [] := by decide +kernel
theorem tl_join0 (ps : List Str) : TL.tl (Txt.join ("" : Str) ps) = (ps.map TL.tl).flatten := by
  rw [TL.join_eq, TL.tl_join, nil_tl]
  have e : ∀ ls : List (List Nat), TL.joinL [] ls = ls.flatten := by
    intro ls
    induction ls with
    | nil => rfl
    | cons l r ih =>
      cases r with
      | nil => show l = _; simp
      | cons m r =>
        show l ++ ([] ++ TL.joinL [] (m :: r)) = _
        rw [ih]
        simp
  exact e _
theorem ax_join0 {ps : List Str} (h : ∀ p ∈ ps, AsX p) : AsX (Txt.join ("" : Str) ps) := fun u hu => by
  have hu : u ∈ TL.tl (Txt.join ("" : Str) ps) := hu
  rw [tl_join0] at hu
  obtain ⟨l, hl, hu⟩ := List.mem_flatten.mp hu
  obtain ⟨p, hp, rfl⟩ := List.mem_map.mp hl
  exact h p hp u hu
theorem len_join0 (n : Nat) : ∀ ps : List Str, (∀ p ∈ ps, p.length ≤ n) → (Txt.join ("" : Str) ps).length ≤ ps.length * n := fun ps h => by
  rw [TL.len_tl, tl_join0, List.length_flatten]
  have e : ∀ ps : List Str, (∀ p ∈ ps, p.length ≤ n) → ((ps.map TL.tl).map List.length).sum ≤ ps.length * n := by
    intro ps
    induction ps with
    | nil => intro _; exact Nat.zero_le _
    | cons p r ih =>
      intro h
      rw [List.map_cons, List.map_cons, List.sum_cons, List.length_cons, Nat.succ_mul]
      have h1 := h p List.mem_cons_self
      rw [TL.len_tl] at h1
      have := ih fun q hq => h q (List.mem_cons_of_mem _ hq)
      omega
  exact e ps h
theorem len_app (x y : Str) : (x ++ y).length = x.length + y.length := by
  rw [TL.len_tl, TL.tl_append, List.length_append, ← TL.len_tl, ← TL.len_tl]
theorem empty_len : (Str.empty).length = 0 := by decide +kernel
theorem ax_empty : AsX Str.empty := ax_by (by decide +kernel)
/-! ### numbers -/
theorem ax_num {i : Int} (h : 0 ≤ i) : AsX (Str.ofString (toString i)) := fun u hu => by
  obtain ⟨n, rfl⟩ := Int.eq_ofNat_of_zero_le h
  have hu : u ∈ TL.tl (Str.ofString (toString ((n : Nat) : Int))) := hu
  rw [TL.tl_num] at hu
  have := TL.numL_digits n u hu
  omega
theorem num_len {i : Int} (h : 0 ≤ i) (h2 : i ≤ 1000000000000) : (Str.ofString (toString i)).length ≤ 13 := by
  obtain ⟨n, rfl⟩ := Int.eq_ofNat_of_zero_le h
  rw [TL.len_tl, TL.tl_num]
  exact TL.numL_len (by decide) (by omega)
/-! ### the texts -/
def rowF (e : Ent) : Str := Str.empty ++ e.2.1 ++ (" " : Str) ++ e.1 ++ (" " : Str) ++ e.2.2 ++ ("\n" : Str)
def parF (p : Str) : Str := Str.empty ++ ("parent " : Str) ++ p ++ ("\n" : Str)
def headF (t : Str) (ps : List Str) (au : Str) (tm : Int) : Str := Str.empty ++ ("commit\ntree " : Str) ++ t ++ ("\n" : Str) ++ Txt.join ("" : Str) (ps.map parF) ++ ("author " : Str) ++ au ++ ("\ntime " : Str) ++ Str.ofString (toString tm) ++ ("\n\n" : Str)
def tagF (tg lb msg : Str) : Str := Str.empty ++ ("tag\ntarget " : Str) ++ tg ++ ("\nlabel " : Str) ++ lb ++ ("\n\n" : Str) ++ msg
def encF : Ob → Str
  | .blob x => ("blob\n" : Str) ++ x
  | .tree es => ("tree\n" : Str) ++ Txt.join ("" : Str) (es.map rowF)
  | .commit t ps au tm msg => headF t ps au tm ++ msg
  | .tag tg lb msg => tagF tg lb msg
theorem row_ax {e : Ent} (h : EntOk e) : AsX (rowF e) := ax_app (ax_app (ax_app (ax_app (ax_app (ax_app ax_empty (ax_kinds _ h.2.1)) (ax_by (by decide +kernel))) (ax_seg h.1)) (ax_by (by decide +kernel))) (ax_id h.2.2)) (ax_by (by decide +kernel))
theorem par_ax {p : Str} (h : isIdF p = true) : AsX (parF p) := ax_app (ax_app (ax_app ax_empty (ax_by (by decide +kernel))) (ax_id h)) (ax_by (by decide +kernel))
theorem head_ax {t : Str} {ps : List Str} {au : Str} {tm : Int} (h1 : isIdF t = true) (h2 : ∀ p ∈ ps, isIdF p = true) (h3 : isWordF LET au = true) (h4 : 0 ≤ tm) : AsX (headF t ps au tm) := by
  refine ax_app (ax_app (ax_app (ax_app (ax_app (ax_app (ax_app (ax_app (ax_app ax_empty (ax_by (by decide +kernel))) (ax_id h1)) (ax_by (by decide +kernel))) (ax_join0 fun p hp => ?_)) (ax_by (by decide +kernel))) (ax_word h3 ax_let)) (ax_by (by decide +kernel))) (ax_num h4)) (ax_by (by decide +kernel))
  obtain ⟨q, hq, rfl⟩ := List.mem_map.mp hp
  exact par_ax (h2 q hq)
theorem enc_ax {o : Ob} (h : o.ok) : AsX (encF o) := by
  cases o with
  | blob x => exact ax_app (ax_by (by decide +kernel)) (ax_text h)
  | tree es =>
    refine ax_app (ax_by (by decide +kernel)) (ax_join0 fun p hp => ?_)
    obtain ⟨e, he, rfl⟩ := List.mem_map.mp hp
    exact row_ax (h.2.2.2 e he)
  | commit t ps au tm msg =>
    obtain ⟨o1, o2, o3, o4, o5, o6, o7, o8, o9⟩ := h
    exact ax_app (head_ax o1 o4 o5 o6) (ax_text o8)
  | tag tg lb msg =>
    obtain ⟨o1, o2, o8, o9⟩ := h
    exact ax_app (ax_app (ax_app (ax_app (ax_app (ax_app ax_empty (ax_by (by decide +kernel))) (ax_id o1)) (ax_by (by decide +kernel))) (ax_seg o2)) (ax_by (by decide +kernel))) (ax_text o8)
theorem lit1 : (" " : Str).length = 1 ∧ ("\n" : Str).length = 1 ∧ ("parent " : Str).length = 7 ∧ ("commit\ntree " : Str).length = 12 ∧ ("author " : Str).length = 7 ∧ ("\ntime " : Str).length = 6 ∧ ("\n\n" : Str).length = 2 ∧ ("tag\ntarget " : Str).length = 11 ∧ ("\nlabel " : Str).length = 7 ∧ ("blob\n" : Str).length = 5 ∧ ("tree\n" : Str).length = 5 := by decide +kernel
theorem row_len {e : Ent} (h : EntOk e) : (rowF e).length ≤ 35 := by
  obtain ⟨l1, l2, _⟩ := lit1
  unfold rowF
  simp only [len_app, empty_len, l1, l2]
  have h1 := seg_len h.1
  have h2 := kinds_len _ h.2.1
  have h3 : e.2.2.length = 16 := of_decide_eq_true (Bool.and_eq_true_iff.mp (show (decide _ && _) = true from h.2.2)).1
  omega
theorem id_len {x : Str} (h : isIdF x = true) : x.length = 16 := of_decide_eq_true (Bool.and_eq_true_iff.mp (show (decide _ && _) = true from h)).1
theorem par_len {p : Str} (h : isIdF p = true) : (parF p).length = 24 := by
  obtain ⟨l1, l2, l3, _⟩ := lit1
  unfold parF
  simp only [len_app, empty_len, l3, l2, id_len h]
theorem rows_len {es : List Ent} (h : EntsOk es) : (Txt.join ("" : Str) (es.map rowF)).length ≤ 1050 := by
  have := len_join0 35 (es.map rowF) fun p hp => by
    obtain ⟨e, he, rfl⟩ := List.mem_map.mp hp
    exact row_len (h.2.2.2 e he)
  rw [List.length_map] at this
  have := h.1
  omega
theorem pars_len {ps : List Str} (h : ∀ p ∈ ps, isIdF p = true) (hl : ps.length ≤ 6) : (Txt.join ("" : Str) (ps.map parF)).length ≤ 144 := by
  have := len_join0 24 (ps.map parF) fun p hp => by
    obtain ⟨e, he, rfl⟩ := List.mem_map.mp hp
    rw [par_len (h e he)]
    exact Nat.le_refl _
  rw [List.length_map] at this
  omega
theorem word_len {x y : Str} (h : isWordF y x = true) : x.length ≤ 12 := by
  unfold isWordF at h
  simp only [Bool.and_eq_true] at h
  exact of_decide_eq_true h.2.1
theorem head_len {t : Str} {ps : List Str} {au : Str} {tm : Int} (h1 : isIdF t = true) (h2 : ∀ p ∈ ps, isIdF p = true) (hl : ps.length ≤ 6) (h3 : isWordF LET au = true) (h4 : 0 ≤ tm) (h5 : tm ≤ 1000000000000) : (headF t ps au tm).length ≤ 300 := by
  obtain ⟨l1, l2, l3, l4, l5, l6, l7, _⟩ := lit1
  unfold headF
  simp only [len_app, empty_len, l2, l4, l5, l6, l7, id_len h1]
  have := pars_len h2 hl
  have := word_len h3
  have := num_len h4 h5
  omega
theorem enc_len {o : Ob} (h : o.ok) : (encF o).length ≤ 3000 := by
  obtain ⟨l1, l2, l3, l4, l5, l6, l7, l8, l9, l10, l11⟩ := lit1
  cases o with
  | blob x =>
    show (_ ++ _ : Str).length ≤ _
    have : x.length ≤ 2000 := of_decide_eq_true (Bool.and_eq_true_iff.mp (show (decide _ && _) = true from h)).1
    simp only [len_app, l10]
    omega
  | tree es =>
    show (_ ++ _ : Str).length ≤ _
    simp only [len_app, l11]
    have := rows_len h
    omega
  | commit t ps au tm msg =>
    obtain ⟨o1, o2, o3, o4, o5, o6, o7, o8, o9⟩ := h
    show (_ ++ _ : Str).length ≤ _
    simp only [len_app]
    have := head_len o1 o4 o2 o5 o6 o7
    omega
  | tag tg lb msg =>
    obtain ⟨o1, o2, o8, o9⟩ := h
    show (tagF tg lb msg).length ≤ _
    unfold tagF
    simp only [len_app, empty_len, l8, l9, l7, id_len o1]
    have := seg_len o2
    omega
end Fk

set_option maxHeartbeats 4000000
/-! Bytes read back: lines, words. -/
namespace Fk
open PySem PySem.Spec PySem.Calls PyProof.Rows L2
def bytL (L : List Nat) : Array UInt8 := (L.map (·.toUInt8)).toArray
def AsL (L : List Nat) : Prop := ∀ u ∈ L, u < 128
theorem byts_L (x : Str) : byts x = bytL (TL.tl x) := rfl
theorem bytL_size (L : List Nat) : (bytL L).size = L.length := by
  unfold bytL
  rw [List.size_toArray, List.length_map]
theorem u8_nat {u : Nat} (h : u < 128) : u.toUInt8.toNat = u := by
  show u % 256 = u
  omega
theorem strB_L {L : List Nat} (h : AsL L) : strB (bytL L) = ⟨L.toArray⟩ := by
  unfold strB bytL
  rw [List.map_map]
  congr 2
  conv => rhs; rw [← List.map_id L]
  exact List.map_congr_left fun u hu => u8_nat (h u hu)
theorem asc_L {L : List Nat} (h : AsL L) : ascB (bytL L) = true := by
  unfold ascB bytL
  refine List.all_eq_true.mpr fun x hx => ?_
  obtain ⟨u, hu, rfl⟩ := List.mem_map.mp hx
  refine decide_eq_true ?_
  show u.toUInt8 < 128
  rw [UInt8.lt_iff_toNat_lt, u8_nat (h u hu)]
  exact h u hu
theorem AsL.sub {L M : List Nat} (h : AsL L) (s : ∀ u ∈ M, u ∈ L) : AsL M := fun u hu => h u (s u hu)
theorem pk_L {L : List Nat} {i j : Nat} (hi : i ≤ L.length) (hj : j ≤ L.length) : PySem.W.KBy.picked (bytL L) (some (i : Int)) (some (j : Int)) = bytL ((L.drop i).take (j - i)) := by
  unfold bytL
  rw [pk_mid (by rw [List.length_map]; exact hi) (by rw [List.length_map]; exact hj), ← List.map_drop, ← List.map_take]
theorem pkf_L {L : List Nat} {i : Nat} (hi : i ≤ L.length) : PySem.W.KBy.picked (bytL L) (some (i : Int)) none = bytL (L.drop i) := by
  unfold bytL
  rw [pk_from (by rw [List.length_map]; exact hi), ← List.map_drop]
theorem one_at {L : List Nat} (h : AsL L) {i u : Nat} (hi : L[i]? = some u) : ((bytL L).extract i (i + 1) == (#[10] : Array UInt8)) = decide (u = 10) := by
  have e : (bytL L).extract i (i + 1) = #[u.toUInt8] := by
    apply Array.toList_inj.mp
    unfold bytL
    rw [List.extract_toArray, List.extract_eq_take_drop]
    have hl := (List.getElem?_eq_some_iff.mp hi).1
    show ((L.map (·.toUInt8)).drop i).take (i + 1 - i) = [u.toUInt8]
    rw [Nat.add_sub_cancel_left, ← List.map_drop, ← List.map_take, List.take_one, List.head?_drop, hi]
    rfl
  rw [e, Bool.eq_iff_iff]
  have hu := h u (List.mem_of_getElem? hi)
  constructor
  · intro z
    have z : (#[u.toUInt8] : Array UInt8) = #[10] := eq_of_beq z
    have z2 : u.toUInt8 = 10 := by
      have := congrArg Array.toList z
      simpa using this
    have := congrArg UInt8.toNat z2
    rw [u8_nat hu] at this
    exact decide_eq_true this
  · intro z
    rw [of_decide_eq_true z]
    rfl
theorem find_nl {pre line post : List Nat} (h : AsL (pre ++ line ++ 10 :: post)) (hn : 10 ∉ line) : findB (bytL (pre ++ line ++ 10 :: post)) #[10] pre.length = ((pre.length + line.length : Nat) : Int) := by
  have sz : (bytL (pre ++ line ++ 10 :: post)).size = pre.length + line.length + 1 + post.length := by
    rw [bytL_size, List.length_append, List.length_append, List.length_cons]
    omega
  have s1 : (#[10] : Array UInt8).size = 1 := rfl
  unfold findB
  rw [sz, s1, if_neg (by omega)]
  have f : Builtin.Bytes.find? (bytL (pre ++ line ++ 10 :: post)) #[10] pre.length (pre.length + line.length + 1 + post.length) = some (line.length + pre.length) := by
    unfold Builtin.Bytes.find?
    rw [List.find?_map, s1]
    have g : List.find? ((fun i => (bytL (pre ++ line ++ 10 :: post)).extract i (i + 1) == (#[10] : Array UInt8)) ∘ fun x => x + pre.length) (List.range (pre.length + line.length + 1 + post.length + 1 - (pre.length + 1))) = some line.length := by
      rw [List.find?_range_eq_some]
      refine ⟨?_, List.mem_range.mpr (by omega), fun j hj => ?_⟩
      · show ((bytL (pre ++ line ++ 10 :: post)).extract (line.length + pre.length) (line.length + pre.length + 1) == (#[10] : Array UInt8)) = true
        rw [one_at h (u := 10) (by rw [List.append_assoc, List.getElem?_append_right (by omega), Nat.add_sub_cancel, List.getElem?_append_right (Nat.le_refl _), Nat.sub_self]; rfl)]
        rfl
      · show (!((bytL (pre ++ line ++ 10 :: post)).extract (j + pre.length) (j + pre.length + 1) == (#[10] : Array UInt8))) = true
        have hg : (pre ++ line ++ 10 :: post)[j + pre.length]? = some line[j] := by
          rw [List.append_assoc, List.getElem?_append_right (by omega), Nat.add_sub_cancel, List.getElem?_append_left hj, List.getElem?_eq_getElem hj]
        rw [one_at h hg, decide_eq_false (fun (z : line[j] = 10) => hn (by rw [← z]; exact List.getElem_mem hj))]
        rfl
    rw [g]
    rfl
  rw [f]
  show (((line.length + pre.length : Nat) : Int)) = _
  rw [Nat.add_comm]
end Fk

set_option maxHeartbeats 4000000
namespace Fk
open PySem PySem.Spec PyProof.Rows L2
def top (i : Nat) : Stmt := PySem.Challenge.pw_forkhaul_k05_bytes_that_are_none.main.body.getD i (.Pass ⟨0, 0, 0, 0⟩)
abbrev s_ForkError_init : Stmt := inClass (top 1) 0
theorem sc_ForkError_init : FnScope ["self", "why"] ["self", "why"] (C8.fnScope s_ForkError_init) := C8.fnScope_by (by decide +kernel)

abbrev s_BadObject_init : Stmt := inClass (top 3) 0
theorem sc_BadObject_init : FnScope ["self", "at"] ["self", "at"] (C8.fnScope s_BadObject_init) := C8.fnScope_by (by decide +kernel)

abbrev s_is_id : Stmt := top 12
theorem sc_is_id : FnScope ["thing"] ["thing"] (C8.fnScope s_is_id) := C8.fnScope_by (by decide +kernel)

abbrev s_is_segment : Stmt := top 13
theorem sc_is_segment : FnScope ["thing"] ["thing"] (C8.fnScope s_is_segment) := C8.fnScope_by (by decide +kernel)

abbrev s_is_author : Stmt := top 14
theorem sc_is_author : FnScope ["thing"] ["thing"] (C8.fnScope s_is_author) := C8.fnScope_by (by decide +kernel)

abbrev s_is_text : Stmt := top 15
theorem sc_is_text : FnScope ["thing"] ["thing"] (C8.fnScope s_is_text) := C8.fnScope_by (by decide +kernel)

abbrev s_is_message : Stmt := top 16
theorem sc_is_message : FnScope ["thing"] ["thing"] (C8.fnScope s_is_message) := C8.fnScope_by (by decide +kernel)

abbrev s_is_time : Stmt := top 17
theorem sc_is_time : FnScope ["thing"] ["thing"] (C8.fnScope s_is_time) := C8.fnScope_by (by decide +kernel)

abbrev s_is_count : Stmt := top 18
theorem sc_is_count : FnScope ["thing"] ["thing"] (C8.fnScope s_is_count) := C8.fnScope_by (by decide +kernel)

abbrev s_are_ids : Stmt := top 19
theorem sc_are_ids : FnScope ["thing", "name"] ["thing"] (C8.fnScope s_are_ids) := C8.fnScope_by (by decide +kernel)

abbrev s_ascending : Stmt := top 20
theorem sc_ascending : FnScope ["names", "name"] ["names"] (C8.fnScope s_ascending) := C8.fnScope_by (by decide +kernel)

abbrev s__is_word : Stmt := top 21
theorem sc__is_word : FnScope ["thing", "signs"] ["thing", "signs"] (C8.fnScope s__is_word) := C8.fnScope_by (by decide +kernel)

abbrev s_is_value : Stmt := top 26
theorem sc_is_value : FnScope ["thing", "kinds", "kind", "name"] ["thing", "kinds"] (C8.fnScope s_is_value) := C8.fnScope_by (by decide +kernel)

abbrev s_Blob_init : Stmt := inClass (top 27) 0
theorem sc_Blob_init : FnScope ["self", "text"] ["self", "text"] (C8.fnScope s_Blob_init) := C8.fnScope_by (by decide +kernel)

abbrev s_Blob_eq : Stmt := inClass (top 27) 1
theorem sc_Blob_eq : FnScope ["self", "other"] ["self", "other"] (C8.fnScope s_Blob_eq) := C8.fnScope_by (by decide +kernel)

abbrev s_Blob_text : Stmt := inClass (top 27) 2
theorem sc_Blob_text : FnScope ["self"] ["self"] (C8.fnScope s_Blob_text) := C8.fnScope_by (by decide +kernel)

abbrev s_Tree_init : Stmt := inClass (top 28) 0
theorem sc_Tree_init : FnScope ["self", "entries", "segment"] ["self", "entries"] (C8.fnScope s_Tree_init) := C8.fnScope_by (by decide +kernel)

abbrev s_Tree_eq : Stmt := inClass (top 28) 1
theorem sc_Tree_eq : FnScope ["self", "other"] ["self", "other"] (C8.fnScope s_Tree_eq) := C8.fnScope_by (by decide +kernel)

abbrev s_Tree_entries : Stmt := inClass (top 28) 2
theorem sc_Tree_entries : FnScope ["self"] ["self"] (C8.fnScope s_Tree_entries) := C8.fnScope_by (by decide +kernel)

abbrev s_Commit_init : Stmt := inClass (top 29) 0
theorem sc_Commit_init : FnScope ["self", "tree", "parents", "author", "time", "message"] ["self", "tree", "parents", "author", "time", "message"] (C8.fnScope s_Commit_init) := C8.fnScope_by (by decide +kernel)

abbrev s_Commit_eq : Stmt := inClass (top 29) 1
theorem sc_Commit_eq : FnScope ["self", "other"] ["self", "other"] (C8.fnScope s_Commit_eq) := C8.fnScope_by (by decide +kernel)

abbrev s_Commit_tree : Stmt := inClass (top 29) 2
theorem sc_Commit_tree : FnScope ["self"] ["self"] (C8.fnScope s_Commit_tree) := C8.fnScope_by (by decide +kernel)

abbrev s_Commit_parents : Stmt := inClass (top 29) 3
theorem sc_Commit_parents : FnScope ["self"] ["self"] (C8.fnScope s_Commit_parents) := C8.fnScope_by (by decide +kernel)

abbrev s_Commit_author : Stmt := inClass (top 29) 4
theorem sc_Commit_author : FnScope ["self"] ["self"] (C8.fnScope s_Commit_author) := C8.fnScope_by (by decide +kernel)

abbrev s_Commit_time : Stmt := inClass (top 29) 5
theorem sc_Commit_time : FnScope ["self"] ["self"] (C8.fnScope s_Commit_time) := C8.fnScope_by (by decide +kernel)

abbrev s_Commit_message : Stmt := inClass (top 29) 6
theorem sc_Commit_message : FnScope ["self"] ["self"] (C8.fnScope s_Commit_message) := C8.fnScope_by (by decide +kernel)

abbrev s_Tag_init : Stmt := inClass (top 30) 0
theorem sc_Tag_init : FnScope ["self", "target", "label", "message"] ["self", "target", "label", "message"] (C8.fnScope s_Tag_init) := C8.fnScope_by (by decide +kernel)

abbrev s_Tag_eq : Stmt := inClass (top 30) 1
theorem sc_Tag_eq : FnScope ["self", "other"] ["self", "other"] (C8.fnScope s_Tag_eq) := C8.fnScope_by (by decide +kernel)

abbrev s_Tag_target : Stmt := inClass (top 30) 2
theorem sc_Tag_target : FnScope ["self"] ["self"] (C8.fnScope s_Tag_target) := C8.fnScope_by (by decide +kernel)

abbrev s_Tag_label : Stmt := inClass (top 30) 3
theorem sc_Tag_label : FnScope ["self"] ["self"] (C8.fnScope s_Tag_label) := C8.fnScope_by (by decide +kernel)

abbrev s_Tag_message : Stmt := inClass (top 30) 4
theorem sc_Tag_message : FnScope ["self"] ["self"] (C8.fnScope s_Tag_message) := C8.fnScope_by (by decide +kernel)

abbrev s_encode : Stmt := top 32
theorem sc_encode : FnScope ["thing", "lines", "segment", "kind", "name", "parents", "head"] ["thing"] (C8.fnScope s_encode) := C8.fnScope_by (by decide +kernel)

abbrev s_decode : Stmt := top 33
theorem sc_decode : FnScope ["data", "kind"] ["data"] (C8.fnScope s_decode) := C8.fnScope_by (by decide +kernel)

abbrev s__line_at : Stmt := top 34
theorem sc__line_at : FnScope ["data", "at", "end"] ["data", "at"] (C8.fnScope s__line_at) := C8.fnScope_by (by decide +kernel)

abbrev s__text_at : Stmt := top 35
theorem sc__text_at : FnScope ["data", "at", "is_allowed"] ["data", "at", "is_allowed"] (C8.fnScope s__text_at) := C8.fnScope_by (by decide +kernel)

abbrev s__word_at : Stmt := top 36
theorem sc__word_at : FnScope ["data", "at", "head", "is_allowed", "line"] ["data", "at", "head", "is_allowed"] (C8.fnScope s__word_at) := C8.fnScope_by (by decide +kernel)

abbrev s__behind : Stmt := top 37
theorem sc__behind : FnScope ["at", "head", "word"] ["at", "head", "word"] (C8.fnScope s__behind) := C8.fnScope_by (by decide +kernel)

abbrev s__decoded_tree : Stmt := top 38
theorem sc__decoded_tree : FnScope ["data", "at", "entries", "last", "line", "kind", "segment", "name"] ["data"] (C8.fnScope s__decoded_tree) := C8.fnScope_by (by decide +kernel)

abbrev s__is_entry_line : Stmt := top 39
theorem sc__is_entry_line : FnScope ["line", "words"] ["line"] (C8.fnScope s__is_entry_line) := C8.fnScope_by (by decide +kernel)

abbrev s__decoded_commit : Stmt := top 40
theorem sc__decoded_commit : FnScope ["data", "at", "tree", "parents", "parent", "author", "time", "message"] ["data"] (C8.fnScope s__decoded_commit) := C8.fnScope_by (by decide +kernel)

abbrev s__parents_at : Stmt := top 41
theorem sc__parents_at : FnScope ["data", "at", "parents", "parent"] ["data", "at"] (C8.fnScope s__parents_at) := C8.fnScope_by (by decide +kernel)

abbrev s__is_decimal_time : Stmt := top 42
theorem sc__is_decimal_time : FnScope ["word"] ["word"] (C8.fnScope s__is_decimal_time) := C8.fnScope_by (by decide +kernel)

abbrev s__decoded_tag : Stmt := top 43
theorem sc__decoded_tag : FnScope ["data", "at", "target", "label"] ["data"] (C8.fnScope s__decoded_tag) := C8.fnScope_by (by decide +kernel)

abbrev s__message_at : Stmt := top 44
theorem sc__message_at : FnScope ["data", "at"] ["data", "at"] (C8.fnScope s__message_at) := C8.fnScope_by (by decide +kernel)

abbrev s_l_cell_at : Stmt := top 46
theorem sc_l_cell_at : FnScope ["_law_script", "_law_k"] ["_law_script", "_law_k"] (C8.fnScope s_l_cell_at) := C8.fnScope_by (by decide +kernel)

abbrev s_l_well : Stmt := top 47
theorem sc_l_well : FnScope ["_law_cell"] ["_law_cell"] (C8.fnScope s_l_well) := C8.fnScope_by (by decide +kernel)

abbrev s_l_draw : Stmt := top 48
theorem sc_l_draw : FnScope ["_law_well_here", "_law_size", "_law_found", "_law_seed", "_law_mixed"] ["_law_well_here", "_law_size"] (C8.fnScope s_l_draw) := C8.fnScope_by (by decide +kernel)

abbrev s_l_pick : Stmt := top 49
theorem sc_l_pick : FnScope ["_law_well_here", "_law_some"] ["_law_well_here", "_law_some"] (C8.fnScope s_l_pick) := C8.fnScope_by (by decide +kernel)

abbrev s_l_signs : Stmt := top 50
theorem sc_l_signs : FnScope ["_law_well_here", "_law_signs_here", "_law_least", "_law_most", "_law_k"] ["_law_well_here", "_law_signs_here", "_law_least", "_law_most"] (C8.fnScope s_l_signs) := C8.fnScope_by (by decide +kernel)

abbrev s_l_all_signs : Stmt := top 51
theorem sc_l_all_signs : FnScope ["_law_found"] [] (C8.fnScope s_l_all_signs) := C8.fnScope_by (by decide +kernel)

abbrev s_l_segment : Stmt := top 52
theorem sc_l_segment : FnScope ["_law_well_here", "_law_letters", "_law_text_here", "_law_spot"] ["_law_well_here"] (C8.fnScope s_l_segment) := C8.fnScope_by (by decide +kernel)

abbrev s_l_path : Stmt := top 53
theorem sc_l_path : FnScope ["_law_well_here", "_law_k"] ["_law_well_here"] (C8.fnScope s_l_path) := C8.fnScope_by (by decide +kernel)

abbrev s_l_text : Stmt := top 54
theorem sc_l_text : FnScope ["_law_well_here", "_law_size", "_law_text_here"] ["_law_well_here"] (C8.fnScope s_l_text) := C8.fnScope_by (by decide +kernel)

abbrev s_l_id : Stmt := top 55
theorem sc_l_id : FnScope ["_law_well_here"] ["_law_well_here"] (C8.fnScope s_l_id) := C8.fnScope_by (by decide +kernel)

abbrev s_l_lines : Stmt := top 56
theorem sc_l_lines : FnScope ["_law_well_here", "_law_kind", "_law_message", "_law_names", "_law_k", "_law_rows", "_law_name", "_law_parents", "_law_moment", "_law_first"] ["_law_well_here", "_law_kind"] (C8.fnScope s_l_lines) := C8.fnScope_by (by decide +kernel)

abbrev s_l_other_line : Stmt := top 57
theorem sc_l_other_line : FnScope ["_law_well_here", "_law_some"] ["_law_well_here"] (C8.fnScope s_l_other_line) := C8.fnScope_by (by decide +kernel)

abbrev s_l_spoilt : Stmt := top 58
theorem sc_l_spoilt : FnScope ["_law_well_here", "_law_text_here", "_law_way", "_law_rows", "_law_at", "_law_where"] ["_law_well_here", "_law_text_here"] (C8.fnScope s_l_spoilt) := C8.fnScope_by (by decide +kernel)

abbrev s_l_is_id : Stmt := top 59
theorem sc_l_is_id : FnScope ["_law_text_here", "_law_sign"] ["_law_text_here"] (C8.fnScope s_l_is_id) := C8.fnScope_by (by decide +kernel)

abbrev s_l_is_segment : Stmt := top 60
theorem sc_l_is_segment : FnScope ["_law_text_here", "_law_signs_here", "_law_sign"] ["_law_text_here"] (C8.fnScope s_l_is_segment) := C8.fnScope_by (by decide +kernel)

abbrev s_l_is_time : Stmt := top 61
theorem sc_l_is_time : FnScope ["_law_text_here", "_law_sign"] ["_law_text_here"] (C8.fnScope s_l_is_time) := C8.fnScope_by (by decide +kernel)

abbrev s_l_is_author : Stmt := top 62
theorem sc_l_is_author : FnScope ["_law_text_here", "_law_sign"] ["_law_text_here"] (C8.fnScope s_l_is_author) := C8.fnScope_by (by decide +kernel)

abbrev s_l_tree_fault : Stmt := top 63
theorem sc_l_tree_fault : FnScope ["_law_rows", "_law_last", "_law_k", "_law_row", "_law_words"] ["_law_rows"] (C8.fnScope s_l_tree_fault) := C8.fnScope_by (by decide +kernel)

abbrev s_l_is_next : Stmt := top 64
theorem sc_l_is_next : FnScope ["_law_step", "_law_row", "_law_parents", "_law_word", "_law_blank", "_law_rest"] ["_law_step", "_law_row", "_law_parents"] (C8.fnScope s_l_is_next) := C8.fnScope_by (by decide +kernel)

abbrev s_l_fault_of_rows : Stmt := top 65
theorem sc_l_fault_of_rows : FnScope ["_law_rows", "_law_steps", "_law_parents", "_law_k", "_law_row"] ["_law_rows", "_law_steps"] (C8.fnScope s_l_fault_of_rows) := C8.fnScope_by (by decide +kernel)

abbrev s_l_due : Stmt := top 66
theorem sc_l_due : FnScope ["_law_text_here", "_law_head", "_law_at", "_law_rows", "_law_fault", "_law_row", "_law_steps", "_law_count", "_law_whole", "_law_begin"] ["_law_text_here"] (C8.fnScope s_l_due) := C8.fnScope_by (by decide +kernel)

abbrev s_law : Stmt := top 67
theorem sc_law : FnScope ["_law_script", "_law_cell", "_law_well_here", "_law_kind", "_law_text_here", "_law_lines_here", "_law_data", "_law_due_here", "_law_found", "_law_place", "e"] ["_law_script"] (C8.fnScope s_law) := C8.fnScope_by (by decide +kernel)

structure Top (K : PySem.W.Frag) (mg : Str → Option Value) : Prop where
  d_is_id : IsDef K mg "is_id" s_is_id
  d_is_segment : IsDef K mg "is_segment" s_is_segment
  d_is_author : IsDef K mg "is_author" s_is_author
  d_is_text : IsDef K mg "is_text" s_is_text
  d_is_message : IsDef K mg "is_message" s_is_message
  d_is_time : IsDef K mg "is_time" s_is_time
  d_is_count : IsDef K mg "is_count" s_is_count
  d_are_ids : IsDef K mg "are_ids" s_are_ids
  d_ascending : IsDef K mg "ascending" s_ascending
  d__is_word : IsDef K mg "_is_word" s__is_word
  d_is_value : IsDef K mg "is_value" s_is_value
  d_encode : IsDef K mg "encode" s_encode
  d_decode : IsDef K mg "decode" s_decode
  d__line_at : IsDef K mg "_line_at" s__line_at
  d__text_at : IsDef K mg "_text_at" s__text_at
  d__word_at : IsDef K mg "_word_at" s__word_at
  d__behind : IsDef K mg "_behind" s__behind
  d__decoded_tree : IsDef K mg "_decoded_tree" s__decoded_tree
  d__is_entry_line : IsDef K mg "_is_entry_line" s__is_entry_line
  d__decoded_commit : IsDef K mg "_decoded_commit" s__decoded_commit
  d__parents_at : IsDef K mg "_parents_at" s__parents_at
  d__is_decimal_time : IsDef K mg "_is_decimal_time" s__is_decimal_time
  d__decoded_tag : IsDef K mg "_decoded_tag" s__decoded_tag
  d__message_at : IsDef K mg "_message_at" s__message_at
  d_l_cell_at : IsDef K mg "_law_cell_at" s_l_cell_at
  d_l_well : IsDef K mg "_law_well" s_l_well
  d_l_draw : IsDef K mg "_law_draw" s_l_draw
  d_l_pick : IsDef K mg "_law_pick" s_l_pick
  d_l_signs : IsDef K mg "_law_signs" s_l_signs
  d_l_all_signs : IsDef K mg "_law_all_signs" s_l_all_signs
  d_l_segment : IsDef K mg "_law_segment" s_l_segment
  d_l_text : IsDef K mg "_law_text" s_l_text
  d_l_id : IsDef K mg "_law_id" s_l_id
  d_l_lines : IsDef K mg "_law_lines" s_l_lines
  d_l_other_line : IsDef K mg "_law_other_line" s_l_other_line
  d_l_spoilt : IsDef K mg "_law_spoilt" s_l_spoilt
  d_l_is_id : IsDef K mg "_law_is_id" s_l_is_id
  d_l_is_segment : IsDef K mg "_law_is_segment" s_l_is_segment
  d_l_is_time : IsDef K mg "_law_is_time" s_l_is_time
  d_l_is_author : IsDef K mg "_law_is_author" s_l_is_author
  d_l_tree_fault : IsDef K mg "_law_tree_fault" s_l_tree_fault
  d_l_is_next : IsDef K mg "_law_is_next" s_l_is_next
  d_l_fault_of_rows : IsDef K mg "_law_fault_of_rows" s_l_fault_of_rows
  d_l_due : IsDef K mg "_law_due" s_l_due
  d_law : IsDef K mg "law" s_law
  z_ValueError : mg "ValueError" = none
  z_all : mg "all" = none
  z_bool : mg "bool" = none
  z_bytes : mg "bytes" = none
  z_dict : mg "dict" = none
  z_enumerate : mg "enumerate" = none
  z_int : mg "int" = none
  z_isinstance : mg "isinstance" = none
  z_len : mg "len" = none
  z_min : mg "min" = none
  z_range : mg "range" = none
  z_set : mg "set" = none
  z_sorted : mg "sorted" = none
  z_str : mg "str" = none
  z_tuple : mg "tuple" = none
  g_HEX_DIGITS : ∃ u, mg "HEX_DIGITS" = some u ∧ RelV (V.str (Str.ofString "0123456789abcdef")) u
  g_LETTERS : ∃ u, mg "LETTERS" = some u ∧ RelV (V.str (Str.ofString "abcdefghijklmnopqrstuvwxyz")) u
  g_SEGMENT_SIGNS : ∃ u, mg "SEGMENT_SIGNS" = some u ∧ RelV (V.str (Str.ofString "abcdefghijklmnopqrstuvwxyz0123456789._-")) u
  g_LONGEST_WORD : ∃ u, mg "LONGEST_WORD" = some u ∧ RelV (V.int 12) u
  g_LONGEST_TEXT : ∃ u, mg "LONGEST_TEXT" = some u ∧ RelV (V.int 2000) u
  g_LONGEST_MESSAGE : ∃ u, mg "LONGEST_MESSAGE" = some u ∧ RelV (V.int 200) u
  g_LATEST : ∃ u, mg "LATEST" = some u ∧ RelV (V.int 1000000000000) u
  g_MOST_ENTRIES : ∃ u, mg "MOST_ENTRIES" = some u ∧ RelV (V.int 30) u
  g_MOST_PARENTS : ∃ u, mg "MOST_PARENTS" = some u ∧ RelV (V.int 6) u
section
variable {P : Program} {w : World} {K : PySem.W.Frag} {mg : Str → Option Value} {base : Heap}
def spIsWord : Sp := fun vs H Q _ => ∃ (v : V) (y : Str), vs = [v, .str y] ∧ Thing H v ∧ ∀ H', Same H H' → Q (.bl (evalV (isWordF y) v)) H'
theorem c__is_word (T : Top K mg) : C8.Cal P w K mg base 2 "_is_word" spIsWord [] := by
  refine cal_of T.d__is_word sc__is_word (fun _ _ _ _ _ _ us hl => match us, hl with | [_, _], _ => rfl) (fun vs H Q E h => ?_) (fun f cdv A outer s H vs Q E hr h => ?_)
  · obtain ⟨x, y, rfl, _⟩ := h
    rfl
  · obtain ⟨v, y, rfl, t, q⟩ := h
    refine ⟨_, (pss_one (ps_ret (pe_and (pe_callB call_isi (by rfl) T.z_isinstance (by decide +kernel) (pa_cons (pv 0) (pa_cons (pe_bltn (v := .ty "str") (by rfl) T.z_str (by decide +kernel) rfl) pa_nil))) (pe_and (pe_chain op_le op_le pe_int (pe_callB call_len_str (by rfl) T.z_len (by decide +kernel) (pa_cons (pv 0) pa_nil)) (C8.pe_gc (by rfl) T.g_LONGEST_WORD)) (pe_one (pe_cmpR op_eq (pe_bm PySem.F.plainAttrs_str PySem.F.slot_str_strip PySem.F.type_str_strip mt_stripChars (pv 0) (pa_cons (pv 1) pa_nil)) pe_str (nomark _))))))), ?_⟩
    refine ⟨v, rfl, ?_⟩
    dsimp only [tCons, tC, tNil]
    refine t.isi ?_
    refine ⟨_, rfl, ?_⟩
    rcases t.cases with ⟨x, rfl, hx, ho⟩ | hn
    · refine iteT ⟨.str x, rfl, x, rfl, small_line (by omega), _, _, rfl, rfl, _, rfl, ite2 (fun h1 => ?_) (fun h1 => ?_)⟩
      · have h1 := of_decide_eq_true h1
        refine ⟨_, _, rfl, rfl, _, rfl, ite2 (fun h2 => ?_) (fun h2 => ?_)⟩
        · have h2 := of_decide_eq_true h2
          refine ⟨.str x, rfl, rfl, .str y, rfl, x, y, rfl, rfl, small_line (by omega), rfl, of_ev (q _ (Same.refl _)) (Eq.trans ?_ (strip_none x y).symm)⟩
          unfold isWordF
          rw [decide_eq_true (by omega), decide_eq_true (by omega)]
          rfl
        · have h2 : ¬ x.length ≤ 12 := fun z => h2 (decide_eq_true (by omega))
          refine of_ev (q _ (Same.refl _)) ?_
          unfold isWordF
          rw [decide_eq_false h2, Bool.false_and, Bool.and_false]
      · have h1 : ¬ 1 ≤ x.length := fun z => h1 (decide_eq_true (by omega))
        refine ⟨_, rfl, iteF (of_ev (q _ (Same.refl _)) ?_)⟩
        unfold isWordF
        rw [decide_eq_false h1, Bool.false_and]
    · rw [hn]
      exact iteF (of_ev0 hn (q _ (Same.refl _)))
theorem evalV_split {f : Str → Bool} : evalV f = fun v => match v with | .str x => f x | _ => false := rfl
theorem c_is_id (T : Top K mg) : C8.Cal P w K mg base 2 "is_id" (spWord isIdF) [] := by
  refine cal_of T.d_is_id sc_is_id (fun _ _ _ _ _ _ us hl => match us, hl with | [_], _ => rfl) (fun vs H Q E h => ?_) (fun f cdv A outer s H vs Q E hr h => ?_)
  · obtain ⟨x, rfl, _⟩ := h
    rfl
  · obtain ⟨v, rfl, t, q⟩ := h
    refine ⟨_, (pss_one (ps_ret (pe_and (pe_callB call_isi (by rfl) T.z_isinstance (by decide +kernel) (pa_cons (pv 0) (pa_cons (pe_bltn (v := .ty "str") (by rfl) T.z_str (by decide +kernel) rfl) pa_nil))) (pe_and (pe_cmpR op_eq (pe_callB call_len_str (by rfl) T.z_len (by decide +kernel) (pa_cons (pv 0) pa_nil)) pe_int (nomark _)) (pe_one (pe_cmpR op_eq (pe_bm PySem.F.plainAttrs_str PySem.F.slot_str_strip PySem.F.type_str_strip mt_stripChars (pv 0) (pa_cons (C8.pe_gc (by rfl) T.g_HEX_DIGITS) pa_nil)) pe_str (nomark _))))))), ?_⟩
    refine ⟨v, rfl, ?_⟩
    dsimp only [tCons, tC, tNil]
    refine t.isi ?_
    refine ⟨_, rfl, ?_⟩
    rcases t.cases with ⟨x, rfl, hx, ho⟩ | hn
    · refine iteT ⟨.str x, rfl, x, rfl, small_line (by omega), rfl, _, rfl, ite2 (fun h1 => ?_) (fun h1 => ?_)⟩
      · have h1 := V.int.inj (of_decide_eq_true h1)
        refine ⟨.str x, rfl, rfl, x, HEX, rfl, rfl, small_line (by omega), rfl, of_ev (q _ (Same.refl _)) (Eq.trans ?_ (strip_none x HEX).symm)⟩
        unfold isIdF
        rw [decide_eq_true (by omega)]
        rfl
      · have h1 : ¬ x.length = 16 := fun z => h1 (decide_eq_true (by rw [z]; rfl))
        refine of_ev (q _ (Same.refl _)) ?_
        unfold isIdF
        rw [decide_eq_false h1, Bool.false_and]
    · rw [hn]
      exact iteF (of_ev0 hn (q _ (Same.refl _)))
theorem c_is_text (T : Top K mg) : C8.Cal P w K mg base 1 "is_text" (spWord isTextF) [] := by
  refine cal_ofT T.d_is_text sc_is_text (by decide +kernel) (by decide) (fun _ _ _ _ _ _ us hl => match us, hl with | [_], _ => rfl) (fun vs H Q E h => ?_) (fun f cdv A outer s H vs Q E hr h => ?_)
  · obtain ⟨x, rfl, _⟩ := h
    rfl
  · obtain ⟨v, rfl, t, q⟩ := h
    refine ⟨_, (psst_cons (PST.of (ps_if (PW.pt (pw_or (pt_not (pt_val (pe_callB call_isi (by rfl) T.z_isinstance (by decide +kernel) (pa_cons (pv 0) (pa_cons (pe_bltn (v := .ty "str") (by rfl) T.z_str (by decide +kernel) rfl) pa_nil))))) (pw_or1 (pt_cmpR op_gt (pe_callB call_len_str (by rfl) T.z_len (by decide +kernel) (pa_cons (pv 0) pa_nil)) (C8.pe_gc (by rfl) T.g_LONGEST_TEXT) (nomark _)))))
      (pss_one (ps_ret pe_bl))
      pss_nil))
      (CwR.psst_one (CwR.pst_ret (pet_and (pe_bm0 PySem.F.plainAttrs_str PySem.F.slot_str_isascii PySem.F.type_str_isascii mt_isascii (pv 0)) (pet_one (pet_bm0 PySem.F.plainAttrs_str PySem.F.slot_str_isprintable PySem.F.type_str_isprintable mt_isprintable (CwR.pet_replC (pv 0)))))))), ?_⟩
    refine ⟨v, rfl, ?_⟩
    dsimp only [tCons, tC, tNil]
    refine t.isi ?_
    refine ⟨_, rfl, ?_⟩
    rcases t.cases with ⟨x, rfl, hx, ho⟩ | hn
    · refine iteF ⟨.str x, rfl, x, rfl, small_line (by omega), _, _, rfl, rfl, _, rfl, ite2 (fun h1 => ?_) (fun h1 => ?_)⟩
      · have h1 := of_decide_eq_true h1
        refine of_ev (q _ (Same.refl _)) ?_
        unfold isTextF
        rw [decide_eq_false (by omega), Bool.false_and]
      · have h1 : x.length ≤ 2000 := by
          have : ¬ (2000 : Int) < (x.length : Nat) := fun z => h1 (decide_eq_true z)
          omega
        have key : isTextF x = plainT x := by
          unfold isTextF
          rw [decide_eq_true h1, plain_text]
          rfl
        refine ⟨.str x, rfl, rfl, x, rfl, rfl, trivial, _, rfl, ite2 (fun h2 => ?_) (fun h2 => ?_)⟩
        · refine ⟨.str x, rfl, x, rfl, by have : (Str.ofString "").length = 0 := by decide +kernel
                                          rw [this]; omega, rfl, _, rfl, rfl, trivial, of_ev (q _ (Same.refl _)) ?_⟩
          rw [key]
          unfold plainT
          rw [h2, Bool.true_and]
        · refine of_ev (q _ (Same.refl _)) ?_
          rw [key]
          unfold plainT
          rw [Bool.eq_false_iff.mpr h2, Bool.false_and]
    · rw [hn]
      exact iteT (of_ev0 hn (q _ (Same.refl _)))
def spMsg : Sp := fun vs H Q _ => ∃ x : Str, vs = [.str x] ∧ isTextF x = true ∧ x.length ≤ 200 ∧ ∀ H', Same H H' → Q (.bl true) H'
theorem c_is_message (T : Top K mg) : C8.Cal P w K mg base 2 "is_message" spMsg [] := by
  refine cal_of T.d_is_message sc_is_message (fun _ _ _ _ _ _ us hl => match us, hl with | [_], _ => rfl) (fun vs H Q E h => ?_) (fun f cdv A outer s H vs Q E hr h => ?_)
  · obtain ⟨x, rfl, _⟩ := h
    rfl
  · obtain ⟨x, rfl, ht, hl, q⟩ := h
    refine ⟨_, (pss_one (ps_ret (pe_and (C8.pe_c (c_is_text T) hr (by decide) (by rfl) (pa_cons (pv 0) pa_nil)) (pe_one (pe_cmpR op_le (pe_callB call_len_str (by rfl) T.z_len (by decide +kernel) (pa_cons (pv 0) pa_nil)) (C8.pe_gc (by rfl) T.g_LONGEST_MESSAGE) (nomark _)))))), ?_⟩
    refine ⟨.str x, rfl, .str x, rfl, .str x (by omega) (ok_text ht), fun H1 s1 => ⟨_, rfl, ?_⟩⟩
    rw [show evalV isTextF (.str x) = true from ht]
    refine iteT ⟨.str x, rfl, x, rfl, small_line (by omega), _, _, rfl, rfl, ?_⟩
    show Q (.bl (decide ((x.length : Int) ≤ 200))) H1
    rw [decide_eq_true (by omega)]
    exact q H1 s1
theorem isi_int {n : Int} {C : String} {b : Bool} {Q : VK} {H : Hp} (hk : (PySem.W.kitOne K (.type "int") (.type C)) = some b) (k : Q (.bl b) H) : rIsi K [.int n, .ty C] H Q :=
  ⟨_, _, .type "int", .type C, b, rfl, .ty C, .base (.int n), hk, k⟩
def spAsc : Sp := fun vs H Q _ => ∃ (a : Addr) (t : Tab), vs = [.ref a] ∧ H a = some (.dK (kT t)) ∧ t.length < 64 ∧ ∀ (ys : List Str) (p : Addr) (H' : Hp), ys.Perm (t.map (·.1)) → sortedS ys = true → H p = none → Same H H' → H' p = some (.tup (ys.map V.str)) → Q (.ref p) H'
theorem c_ascending (T : Top K mg) : C8.Cal P w K mg base 1 "ascending" spAsc [] := by
  refine cal_of T.d_ascending sc_ascending (fun _ _ _ _ _ _ us hl => match us, hl with | [_], _ => rfl) (fun vs H Q E h => ?_) (fun f cdv A outer s H vs Q E hr h => ?_)
  · obtain ⟨a, t, rfl, _⟩ := h
    rfl
  · obtain ⟨a, t, rfl, ha, hl, q⟩ := h
    refine ⟨_, (pss_one (ps_ret (pe_callTy call_tuple_of (by rfl) T.z_tuple (by decide +kernel) (pa_cons (pe_callB (cr_sortedS) (by rfl) T.z_sorted (by decide +kernel) (pa_cons (pe_lock (pe_lc (own := [("name", 1)]) (g := gName 1) (by rfl) sc_ascending.nd (pi_keys (pv 0)) (blkOk_by (own := [("name", 1)]) (N := ["names", "name"]) (sc := C8.fnScope s_ascending) (by decide +kernel)) (fun _ _ _ _ _ => (pg_name (i := 1) sc_ascending.nd rfl (Or.inl rfl))) (fun _ _ _ _ _ => pts_nil) (fun _ _ _ _ _ => (pe_callTy SkE.call_str_str (by rfl) T.z_str (by decide +kernel) (pa_cons (pv 1) pa_nil))))) pa_nil)) pa_nil)))), ?_⟩
    refine ⟨a, _, ha, trivial, fun od => ⟨.ref a, rfl, a, od, rfl, .inl ⟨kT t, upd_same, fun D hD => ?_⟩⟩⟩
    have na : D ≠ a := fun z => by
      rw [z, upd_same] at hD
      cases hD
    have Y : Yields (Itk a od (kT t)) ((t.map (·.1)).map V.str) (fun H => H a = some (.frz od (.dK (kT t)))) := by
      rw [← kV_kT]
      exact yields_keys
    refine lc_pure (i := 1) (us := t.map (·.1)) (g := V.str) Y V.str (fun _ => true) hD (fun H s => s _ _ upd_same) (fun H u _ hu R r => r H (Same.refl H))
      (fun H u _ hu _ R r => ⟨_, rfl, u, rfl, r H (Same.refl H)⟩) (by rw [List.length_map]; omega) (fun H2 s2 h2 => ?_)
    rw [filt_all] at h2
    have sm : Same H (upd H2 a (.dK (kT t))) := fun b o e => by
      by_cases hb : b = a
      · rw [hb, upd_same, ← ha, ← hb, e]
      · rw [upd_ne hb]
        exact s2 _ _ (by rw [upd_ne hb]; exact e)
    have hD' : H D = none := by rw [upd_ne na] at hD; exact hD
    refine ⟨s2 _ _ upd_same, D, t.map (·.1), rfl, .inl (.inl ?_), by rw [List.length_map]; exact hl, fun ys p hp hs hn => ?_⟩
    · rw [upd_ne na]
      exact h2
    · refine ⟨p, _, rfl, .inl ⟨.inl (.inl upd_same), fun l hl => ?_⟩⟩
      have np : H p = none := sm.free hn
      have nl : H l = none := (sm.trans (same_new hn)).free hl
      exact q ys l _ hp hs nl ((sm.trans (same_new hn)).trans (same_new hl)) upd_same
theorem c_is_segment (T : Top K mg) : C8.Cal P w K mg base 3 "is_segment" (spWord isSegF) [] := by
  refine cal_of T.d_is_segment sc_is_segment (fun _ _ _ _ _ _ us hl => match us, hl with | [_], _ => rfl) (fun vs H Q E h => ?_) (fun f cdv A outer s H vs Q E hr h => ?_)
  · obtain ⟨x, rfl, _⟩ := h
    rfl
  · obtain ⟨v, rfl, t, q⟩ := h
    refine ⟨_, (pss_one (ps_ret (pe_and (C8.pe_c (c__is_word T) hr (by decide) (by rfl) (pa_cons (pv 0) (pa_cons (C8.pe_gc (by rfl) T.g_SEGMENT_SIGNS) pa_nil))) (pe_and (pe_cmpR op_ne (pv 0) pe_str (nomark _)) (pe_one (pe_cmpR op_notin_str pe_str (pv 0) rfl)))))), ?_⟩
    refine ⟨v, rfl, v, SSG, rfl, t, fun H1 s1 => ⟨_, rfl, ?_⟩⟩
    rcases t.cases with ⟨x, rfl, hx, ho⟩ | hn
    · refine ite2 (fun h1 => ?_) (fun h1 => ?_)
      · have h1 : isWordF SSG x = true := h1
        refine ⟨.str x, rfl, rfl, _, rfl, ite2 (fun h2 => ?_) (fun h2 => ?_)⟩
        · refine ⟨.str x, rfl, _, x, rfl, rfl, of_ev (q _ s1) ?_⟩
          have h2 : ¬ x = "." := fun z => by
            rw [z] at h2
            simp at h2
          unfold isSegF
          rw [h1, decide_eq_false h2]
          rfl
        · refine of_ev (q _ s1) ?_
          have h2 : x = "." := Decidable.byContradiction fun z => h2 (by rw [decide_eq_false (fun e => z (V.str.inj e))]; rfl)
          unfold isSegF
          rw [decide_eq_true h2]
          simp
      · have h1 : isWordF SSG x = false := Bool.eq_false_iff.mpr h1
        refine of_ev (q _ s1) ?_
        unfold isSegF
        rw [h1, Bool.false_and]
    · rw [hn]
      exact iteF (of_ev0 hn (q _ s1))
theorem c_is_author (T : Top K mg) : C8.Cal P w K mg base 3 "is_author" (spWord (isWordF LET)) [] := by
  refine cal_of T.d_is_author sc_is_author (fun _ _ _ _ _ _ us hl => match us, hl with | [_], _ => rfl) (fun vs H Q E h => ?_) (fun f cdv A outer s H vs Q E hr h => ?_)
  · obtain ⟨x, rfl, _⟩ := h
    rfl
  · obtain ⟨v, rfl, t, q⟩ := h
    refine ⟨_, (pss_one (ps_ret (C8.pe_c (c__is_word T) hr (by decide) (by rfl) (pa_cons (pv 0) (pa_cons (C8.pe_gc (by rfl) T.g_LETTERS) pa_nil))))), ?_⟩
    exact ⟨v, rfl, v, LET, rfl, t, q⟩
def spTimeN : Sp := fun vs H Q _ => ∃ n : Int, vs = [.int n] ∧ 0 ≤ n ∧ n ≤ 1000000000000 ∧ ∀ H', Same H H' → Q (.bl true) H'
theorem c_is_count (T : Top K mg) : C8.Cal P w K mg base 1 "is_count" spTimeN [] := by
  refine cal_of T.d_is_count sc_is_count (fun _ _ _ _ _ _ us hl => match us, hl with | [_], _ => rfl) (fun vs H Q E h => ?_) (fun f cdv A outer s H vs Q E hr h => ?_)
  · obtain ⟨x, rfl, _⟩ := h
    rfl
  · obtain ⟨n, rfl, h0, h1, q⟩ := h
    refine ⟨_, (pss_one (ps_ret (pe_and (pe_callB call_isi (by rfl) T.z_isinstance (by decide +kernel) (pa_cons (pv 0) (pa_cons (pe_bltn (v := .ty "int") (by rfl) T.z_int (by decide +kernel) rfl) pa_nil))) (pe_and (pe_not (pe_callB call_isi (by rfl) T.z_isinstance (by decide +kernel) (pa_cons (pv 0) (pa_cons (pe_bltn (v := .ty "bool") (by rfl) T.z_bool (by decide +kernel) rfl) pa_nil)))) (pe_one (pe_cmpR op_ge (pv 0) pe_int (nomark _))))))), ?_⟩
    refine ⟨.int n, rfl, ?_⟩
    dsimp only [tCons, tC, tNil]
    refine isi_int (b := true) (kit_ty (by decide +kernel)) ⟨_, rfl, iteT ?_⟩
    refine ⟨.int n, rfl, ?_⟩
    dsimp only [tCons, tC, tNil]
    refine isi_int (b := false) (kit_ty (by decide +kernel)) ⟨_, rfl, _, rfl, iteT ⟨_, rfl, _, _, rfl, rfl, ?_⟩⟩
    show Q (.bl (decide (0 ≤ n))) H
    rw [decide_eq_true h0]
    exact q H (Same.refl H)
theorem c_is_time (T : Top K mg) : C8.Cal P w K mg base 2 "is_time" spTimeN [] := by
  refine cal_of T.d_is_time sc_is_time (fun _ _ _ _ _ _ us hl => match us, hl with | [_], _ => rfl) (fun vs H Q E h => ?_) (fun f cdv A outer s H vs Q E hr h => ?_)
  · obtain ⟨x, rfl, _⟩ := h
    rfl
  · obtain ⟨n, rfl, h0, h1, q⟩ := h
    refine ⟨_, (pss_one (ps_ret (pe_and (C8.pe_c (c_is_count T) hr (by decide) (by rfl) (pa_cons (pv 0) pa_nil)) (pe_one (pe_cmpR op_le (pv 0) (C8.pe_gc (by rfl) T.g_LATEST) (nomark _)))))), ?_⟩
    refine ⟨.int n, rfl, n, rfl, h0, h1, fun H1 s1 => ⟨_, rfl, iteT ⟨_, rfl, _, _, rfl, rfl, ?_⟩⟩⟩
    show Q (.bl (decide (n ≤ 1000000000000))) H1
    rw [decide_eq_true (by omega)]
    exact q H1 s1
theorem isi_tup {H : Hp} {p : Addr} {xs : List V} {Q : VK} (h : TupK K H p xs) (k : Q (.bl true) H) : rIsi K [.ref p, .ty "tuple"] H Q := by
  rcases h with e | ⟨o, its, n, lk, c, _⟩
  · exact ⟨_, _, .type "tuple", .type "tuple", true, rfl, .ty "tuple", .base (.tup e), kit_ty (by decide +kernel), k⟩
  · exact ⟨_, _, .type "tuple", .type "tuple", true, rfl, .ty "tuple", .kTuple lk c, kit_ty (by decide +kernel), k⟩
def spAreIds (K : PySem.W.Frag) : Sp := fun vs H Q _ => ∃ (p : Addr) (ps : List Str), vs = [.ref p] ∧ TupK K H p (ps.map V.str) ∧ ps.length ≤ 60 ∧ (∀ x ∈ ps, isIdF x = true) ∧ ∀ H', Same H H' → Q (.bl true) H'
theorem ok_id {x : Str} (h : isIdF x = true) : OkS x ∧ x.length = 16 := by
  unfold isIdF at h
  obtain ⟨h1, h2⟩ := Bool.and_eq_true_iff.mp h
  exact ⟨ok_sub (only_sub h2) ok_hex, of_decide_eq_true h1⟩
theorem c_are_ids (T : Top K mg) : C8.Cal P w K mg base 3 "are_ids" (spAreIds K) [] := by
  refine cal_of T.d_are_ids sc_are_ids (fun _ _ _ _ _ _ us hl => match us, hl with | [_], _ => rfl) (fun vs H Q E h => ?_) (fun f cdv A outer s H vs Q E hr h => ?_)
  · obtain ⟨p, ps, rfl, _⟩ := h
    rfl
  · obtain ⟨p, ps, rfl, hp, hl, hi, q⟩ := h
    refine ⟨_, (pss_one (ps_ret (pe_and (pe_callB call_isi (by rfl) T.z_isinstance (by decide +kernel) (pa_cons (pv 0) (pa_cons (pe_bltn (v := .ty "tuple") (by rfl) T.z_tuple (by decide +kernel) rfl) pa_nil))) (pe_one (pe_callB (cr_all rfl) (by rfl) T.z_all (by decide +kernel) (pa_cons (pe_lc (own := [("name", 1)]) (g := gName 1) (by rfl) sc_are_ids.nd (pi_tup (pv 0)) (blkOk_by (own := [("name", 1)]) (N := ["thing", "name"]) (sc := C8.fnScope s_are_ids) (by decide +kernel)) (fun _ _ _ _ _ => (pg_name (i := 1) sc_are_ids.nd rfl (Or.inl rfl))) (fun _ _ _ _ _ => pts_nil) (fun _ _ _ _ _ => (C8.pe_c (c_is_id T) hr (by decide) (by rfl) (pa_cons (pv 1) pa_nil)))) pa_nil)))))), ?_⟩
    refine ⟨.ref p, rfl, ?_⟩
    dsimp only [tCons, tC, tNil]
    refine isi_tup hp ⟨_, rfl, iteT ?_⟩
    refine ⟨.ref p, rfl, p, rfl, ⟨_, hp.sq⟩, fun D hD => ?_⟩
    refine lc_pure (i := 1) (us := ps) (g := V.str) yields_tup (fun u => .bl (isIdF u)) (fun _ => true) hD (fun H s => (hp.keep (TupKeep.of s)).sq) (fun H u _ hu R r => r H (Same.refl H))
      (fun H u _ hu _ R r => ⟨.str u, rfl, .str u, rfl, .str u (by have := (ok_id (hi u hu)).2; omega) (ok_id (hi u hu)).1, fun H' s' => r H' s'⟩) (by omega) (fun H2 s2 h2 => ?_)
    refine ⟨D, ps.map isIdF, rfl, .inl (.inl ?_), ?_⟩
    · rw [h2, filt_all, List.map_map]
      rfl
    · have e : (ps.map isIdF).all id = true := List.all_eq_true.mpr fun b hb => by
        obtain ⟨x, hx, rfl⟩ := List.mem_map.mp hb
        exact hi x hx
      rw [e]
      exact q H2 s2
end

end Fk

set_option maxHeartbeats 4000000
namespace Fk
open PySem PySem.Spec PyProof.Rows L2
/-- the classes, the error, the store -/
structure TopO (K : PySem.W.Frag) (mg : Str → Option Value) (c : C4) (CS cX iX ek pd : Addr) : Prop extends Top K mg where
  ins : ∀ i, i < 4 → C8.InsC K (c.at i)
  kk : ∀ i j, i < 4 → j < 4 → PySem.W.kitOne K (.ref (c.at i)) (.ref (c.at j)) = some (decide (i = j))
  ne : ∀ i, i < 4 → PySem.W.findIn K (.ref (c.at i)) "__ne__" = some (some (.builtin "object.__ne__"))
  mgB : mg "Blob" = some (.ref c.B)
  mgT : mg "Tree" = some (.ref c.T)
  mgC : mg "Commit" = some (.ref c.C)
  mgG : mg "Tag" = some (.ref c.G)
  g_ENTRY_KINDS : ∃ u, mg "ENTRY_KINDS" = some u ∧ RelV (.ref ek) u
  kE : KTup K ek (KINDS.map V.str)
  kP : KTup K pd []
  iniB : ∃ f fd, Mk K c.B f ∧ C8.Fun K "__init__" "Blob.__init__" s_Blob_init f fd ∧ fd.defaults = .none
  iniT : ∃ f fd, Mk K c.T f ∧ C8.Fun K "__init__" "Tree.__init__" s_Tree_init f fd ∧ fd.defaults = .none
  kC3f : IniK K c.C "Commit.__init__" s_Commit_init ["self", "tree", "parents", "author", "time", "message"] 3 ["author", "time", "message"] (fun vs zs => vs ++ zs)
  kC3 : IniK K c.C "Commit.__init__" s_Commit_init ["self", "tree", "parents", "author", "time", "message"] 3 ["author", "time"] (fun vs zs => vs ++ (zs ++ [.str ""]))
  kC2f : IniK K c.C "Commit.__init__" s_Commit_init ["self", "tree", "parents", "author", "time", "message"] 2 ["author", "time", "message"] (fun vs zs => vs ++ (.ref pd :: zs))
  kC2 : IniK K c.C "Commit.__init__" s_Commit_init ["self", "tree", "parents", "author", "time", "message"] 2 ["author", "time"] (fun vs zs => vs ++ (.ref pd :: (zs ++ [.str ""])))
  kG2 : IniK K c.G "Tag.__init__" s_Tag_init ["self", "target", "label", "message"] 2 ["label", "message"] (fun vs zs => vs ++ zs)
  kG1 : IniK K c.G "Tag.__init__" s_Tag_init ["self", "target", "label", "message"] 2 ["label"] (fun vs zs => vs ++ (zs ++ [.str ""]))
  eqB : MDef K c.B "__eq__" "Blob.__eq__" s_Blob_eq
  eqT : MDef K c.T "__eq__" "Tree.__eq__" s_Tree_eq
  eqC : MDef K c.C "__eq__" "Commit.__eq__" s_Commit_eq
  eqG : MDef K c.G "__eq__" "Tag.__eq__" s_Tag_eq
  pBtext : PDef K c.B "text" "Blob.text" s_Blob_text
  pTentries : PDef K c.T "entries" "Tree.entries" s_Tree_entries
  pCtree : PDef K c.C "tree" "Commit.tree" s_Commit_tree
  pCparents : PDef K c.C "parents" "Commit.parents" s_Commit_parents
  pCauthor : PDef K c.C "author" "Commit.author" s_Commit_author
  pCtime : PDef K c.C "time" "Commit.time" s_Commit_time
  pCmessage : PDef K c.C "message" "Commit.message" s_Commit_message
  pGtarget : PDef K c.G "target" "Tag.target" s_Tag_target
  pGlabel : PDef K c.G "label" "Tag.label" s_Tag_label
  pGmessage : PDef K c.G "message" "Tag.message" s_Tag_message
  nB_text : NoAttr K c.B "_text"
  nT_entries : NoAttr K c.T "_entries"
  nC_tree : NoAttr K c.C "_tree"
  nC_parents : NoAttr K c.C "_parents"
  nC_author : NoAttr K c.C "_author"
  nC_time : NoAttr K c.C "_time"
  nC_message : NoAttr K c.C "_message"
  nG_target : NoAttr K c.G "_target"
  nG_label : NoAttr K c.G "_label"
  nG_message : NoAttr K c.G "_message"
section
variable {P : Program} {w : World} {K : PySem.W.Frag} {mg : Str → Option Value} {base : Heap} {c : C4} {CS cX iX ek pd : Addr}
theorem TopO.g_Blob (T : TopO K mg c CS cX iX ek pd) : ∃ u, mg "Blob" = some u ∧ RelV (.ref c.B) u := ⟨_, T.mgB, rfl⟩
theorem TopO.g_Tree (T : TopO K mg c CS cX iX ek pd) : ∃ u, mg "Tree" = some u ∧ RelV (.ref c.T) u := ⟨_, T.mgT, rfl⟩
theorem TopO.g_Commit (T : TopO K mg c CS cX iX ek pd) : ∃ u, mg "Commit" = some u ∧ RelV (.ref c.C) u := ⟨_, T.mgC, rfl⟩
theorem TopO.g_Tag (T : TopO K mg c CS cX iX ek pd) : ∃ u, mg "Tag" = some u ∧ RelV (.ref c.G) u := ⟨_, T.mgG, rfl⟩
theorem TopO.cB (T : TopO K mg c CS cX iX ek pd) : Cls K c.B := (T.ins 0 (by decide)).cl
theorem TopO.cT (T : TopO K mg c CS cX iX ek pd) : Cls K c.T := (T.ins 1 (by decide)).cl
theorem TopO.cC (T : TopO K mg c CS cX iX ek pd) : Cls K c.C := (T.ins 2 (by decide)).cl
theorem TopO.cG (T : TopO K mg c CS cX iX ek pd) : Cls K c.G := (T.ins 3 (by decide)).cl
/-- isinstance(thing, one of the classes) -/
theorem TopO.isi (T : TopO K mg c CS cX iX ek pd) {H : Hp} {a d : Addr} {o : Ob} {j : Nat} {Q : VK} (h : ObAt K c H a d o) (hj : j < 4) (k : Q (.bl (decide (o.kd = j))) H) : rIsi K [.ref a, .ref (c.at j)] H Q := by
  obtain ⟨dx, fs, e⟩ := h.ins
  have I := T.ins _ o.kd_lt
  exact ⟨_, _, .ref (c.at o.kd), .ref (c.at j), _, rfl, .own _, .base (.ins e I.cl I.ha I.hn I.htk I.hm), T.kk _ _ o.kd_lt hj, k⟩
theorem TopO.first (T : TopO K mg c CS cX iX ek pd) {i j : Nat} (hi : i < 4) (hj : j < 4) : PySem.W.notFirst K (c.at j) (.ref (c.at i)) = true := by
  have h := T.kk i j hi hj
  unfold PySem.W.notFirst
  by_cases e : (Value.ref (c.at i) == Value.ref (c.at j)) = true
  · rw [e]; rfl
  · unfold PySem.W.kitOne at h
    rw [if_neg e] at h
    have ij : decide (i = j) = false := decide_eq_false fun z => e (by rw [z]; exact beq_self_eq_true _)
    rw [ij] at h
    have h : (if ((PySem.W.clsIn K (c.at j)).isSome && PySem.W.typeIn K (.ref (c.at j)) == some (.type "type")) = true then PySem.W.subIn K (.ref (c.at i)) (.ref (c.at j)) else none) = some false := h
    split at h
    · rw [h]
      simp
    · cases h
/-! ### made -/
/-- behind the making: all that stood before stands -/
theorem made_same {H H' : Hp} {x dx C : Addr} (hx : H x = none) (hd : H dx = none) (f : Fr x (upd (upd H dx (.own x)) x (.ins C dx [])) H') : Same H H' := fun b o e => by
  have n1 := ne_of_none e hx
  exact f b o n1 (by rw [upd_ne n1, upd_ne (ne_of_none e hd)]; exact e)
def spBlobI (c : C4) : Sp := fun vs H Q _ => ∃ (a dx : Addr) (x : Str), vs = [.ref a, .str x] ∧ H a = some (.ins c.B dx []) ∧ isTextF x = true ∧ ∀ H', Fr a H H' → H' a = some (.ins c.B dx [("_text", .str x)]) → Q .non H'
theorem text_len {x : Str} (h : isTextF x = true) : x.length ≤ 2000 := by
  unfold isTextF at h
  exact of_decide_eq_true (Bool.and_eq_true_iff.mp h).1
theorem fr_sets {a : Addr} {H H1 : Hp} (s : Same H H1) {o : HO} : Fr a H (upd H1 a o) := (Fr.same s).trans Fr.at
theorem k_Blob (T : TopO K mg c CS cX iX ek pd) : C8.Mak P w K mg base 3 "Blob" c.B (spBlobI c) [] := by
  obtain ⟨f, fd, M, F, df⟩ := T.iniB
  refine C8.mak0 M T.mgB F (F.binds (ps := ["self", "text"]) df fun _ _ _ _ _ _ us hl => match us, hl with | [_, _], _ => rfl) .nil sc_Blob_init (fun vs H Q E h => ?_) (fun cdv A outer s H vs Q E hr h => ?_)
  · obtain ⟨a, dx, x, rfl, _⟩ := h
    rfl
  · obtain ⟨a, dx, x, rfl, ha, hx, q⟩ := h
    have T := T
    refine ⟨_, (pss_cons (ps_if (pt_not (pt_val (C8.pe_c (c_is_text T.toTop) hr (by decide) (by rfl) (pa_cons (pv 1) pa_nil))))
      (pss_one ps_never)
      pss_nil)
      (pss_one (ps_fld (pv 0) (pv 1) rfl))), ?_⟩
    refine ⟨.str x, rfl, .str x, rfl, .str x (by have := text_len hx; omega) (ok_text hx), fun H1 s1 => ⟨_, rfl, ?_⟩⟩
    rw [show evalV isTextF (.str x) = true from hx]
    exact iteF ⟨.str x, rfl, .ref a, rfl, a, c.B, dx, _, rfl, s1 _ _ ha, T.cB, T.nB_text, (by decide), q _ (fr_sets s1) upd_same⟩
theorem do_blob {x : Str} {H : Hp} {Q : VK} (hx : isTextF x = true) (q : ∀ a H', H a = none → Same H H' → ObAt K c H' a a (.blob x) → Q (.ref a) H') :
    ∀ a dx, H a = none → H dx = none → dx ≠ a → spBlobI c (.ref a :: ([.str x] ++ [])) (upd (upd H dx (.own a)) a (.ins c.B dx [])) (fun v H2 => v = .non ∧ Q (.ref a) H2) C8.E0 := fun a dx ha hd _ =>
  ⟨a, dx, x, rfl, upd_same, hx, fun H' f e => ⟨rfl, q a H' ha (made_same ha hd f) ⟨dx, e⟩⟩⟩
end

end Fk

set_option maxHeartbeats 4000000
namespace Fk
open PySem PySem.Spec PyProof.Rows L2
section
variable {P : Program} {w : World} {K : PySem.W.Frag} {mg : Str → Option Value} {base : Heap} {c : C4} {CS cX iX ek pd : Addr}
/-! ### trees -/
def spValue (K : PySem.W.Frag) : Sp := fun vs H Q _ => ∃ (p k : Addr) (kd i : Str), vs = [.ref p, .ref k] ∧ TupK K H p [.str kd, .str i] ∧ TupK K H k (KINDS.map V.str) ∧ kd ∈ KINDS ∧ isIdF i = true ∧ ∀ H', Same H H' → Q (.bl true) H'
theorem c_is_value (T : Top K mg) : C8.Cal P w K mg base 3 "is_value" (spValue K) [] := by
  refine cal_of T.d_is_value sc_is_value (fun _ _ _ _ _ _ us hl => match us, hl with | [_, _], _ => rfl) (fun vs H Q E h => ?_) (fun f cdv A outer s H vs Q E hr h => ?_)
  · obtain ⟨p, k, kd, i, rfl, _⟩ := h
    rfl
  · obtain ⟨p, k, kd, i, rfl, hp, hk, hm, hi, q⟩ := h
    refine ⟨_, (pss_cons (ps_if (PW.pt (pw_or (pt_not (pt_val (pe_callB call_isi (by rfl) T.z_isinstance (by decide +kernel) (pa_cons (pv 0) (pa_cons (pe_bltn (v := .ty "tuple") (by rfl) T.z_tuple (by decide +kernel) rfl) pa_nil))))) (pw_or1 (pt_cmpR op_ne (pe_callB call_len_seq (by rfl) T.z_len (by decide +kernel) (pa_cons (pv 0) pa_nil)) pe_int (nomark _)))))
      (pss_one (ps_ret pe_bl))
      pss_nil)
      (pss_cons (ps_asg (pv 0) (pg_tup rfl (pgs_cons (pg_name (i := 2) sc_is_value.nd rfl (Or.inl rfl)) (pgs_cons (pg_name (i := 3) sc_is_value.nd rfl (Or.inl rfl)) pgs_nil))))
      (pss_one (ps_ret (pe_and (pe_cmpR op_in_seq (pv 2) (pv 1) rfl) (pe_one (C8.pe_c (c_is_id T) hr (by decide) (by rfl) (pa_cons (pv 3) pa_nil)))))))), ?_⟩
    refine ⟨.ref p, rfl, ?_⟩
    dsimp only [tCons, tC, tNil]
    refine isi_tup hp ⟨_, rfl, iteF ?_⟩
    refine ⟨.ref p, rfl, p, _, rfl, .inr hp.sq, rfl, _, rfl, iteF ?_⟩
    refine ⟨.ref p, rfl, p, _, rfl, hp.sq, rfl, _, _, rfl, _, _, rfl, rfl, ?_⟩
    refine ⟨.str kd, rfl, .ref k, rfl, k, _, rfl, .inr hk.sq, rfl, flat_strs KINDS, _, rfl, ifT ?_ ?_⟩
    · unfold inV
      rw [if_neg Bool.false_ne_true, List.any_eq_true]
      exact ⟨.str kd, List.mem_map.mpr ⟨kd, hm, rfl⟩, by show (kd == kd) = true; exact beq_self_eq_true kd⟩
    · exact ⟨.str i, rfl, .str i, rfl, .str i (by have := (ok_id hi).2; omega) (ok_id hi).1, fun H' s' => by
        rw [show evalV isIdF (.str i) = true from hi]
        exact q H' s'⟩
/-- what stands at each place -/
theorem EntsAt.keys {H : Hp} : ∀ {t : Tab} {es : List Ent}, EntsAt K H t es → t.map (·.1) = es.map (·.1)
  | _, _, .nil => rfl
  | _, _, .cons (a := p) (b := e) ⟨e1, _⟩ r => by
    rw [List.map_cons, List.map_cons, e1, EntsAt.keys r]
theorem EntsAt.val {H : Hp} : ∀ {t : Tab} {es : List Ent}, EntsAt K H t es → (es.map (·.1)).Nodup → ∀ e ∈ es, ∃ q, valV t e.1 = some (.ref q) ∧ TupK K H q (entL e)
  | _, _, .nil, _, e, he => absurd he (by simp)
  | _, _, .cons (a := p) (b := f) (l₂ := l) ⟨e1, q, e2, e3⟩ r, nd, e, he => by
    obtain ⟨n1, n2⟩ := List.nodup_cons.mp (show (f.1 :: l.map (·.1)).Nodup from nd)
    rcases List.mem_cons.mp he with z | z
    · rw [z]
      exact ⟨q, by rw [show p = (p.1, p.2) from rfl, valV_pos e1, e2], e3⟩
    · obtain ⟨q', v, k⟩ := EntsAt.val r n2 e z
      exact ⟨q', by rw [show p = (p.1, p.2) from rfl, valV_neg (fun c => n1 (by rw [← e1, c]; exact List.mem_map.mpr ⟨e, z, rfl⟩))]; exact v, k⟩
def lookE (es : List Ent) (y : Str) : Ent := (es.find? fun e => decide (e.1 = y)).getD (y, "", "")
theorem look_mem {es : List Ent} (nd : (es.map (·.1)).Nodup) {e : Ent} (he : e ∈ es) : lookE es e.1 = e := by
  unfold lookE
  induction es with
  | nil => exact absurd he (by simp)
  | cons f r ih =>
    obtain ⟨n1, n2⟩ := List.nodup_cons.mp (show (f.1 :: r.map (·.1)).Nodup from nd)
    rw [List.find?_cons]
    rcases List.mem_cons.mp he with z | z
    · rw [z, decide_eq_true rfl]
      rfl
    · rw [decide_eq_false (fun q => n1 (by rw [q]; exact List.mem_map.mpr ⟨e, z, rfl⟩))]
      exact ih n2 z
theorem look_perm {es : List Ent} (nd : (es.map (·.1)).Nodup) {ys : List Str} (h : ys.Perm (es.map (·.1))) : (ys.map (lookE es)).Perm es := by
  refine (h.map (lookE es)).trans ?_
  rw [List.map_map]
  have e : es.map (lookE es ∘ fun e => e.1) = es := by
    conv => rhs; rw [← List.map_id es]
    exact List.map_congr_left fun x hx => look_mem nd hx
  rw [e]
theorem look_keys {es : List Ent} {ys : List Str} (h : ∀ y ∈ ys, y ∈ es.map (·.1)) (nd : (es.map (·.1)).Nodup) : (ys.map (lookE es)).map (·.1) = ys := by
  rw [List.map_map]
  conv => rhs; rw [← List.map_id ys]
  refine List.map_congr_left fun y hy => ?_
  obtain ⟨e, he, rfl⟩ := List.mem_map.mp (h y hy)
  show (lookE es e.1).1 = e.1
  rw [look_mem nd he]
theorem paired_map {α β γ : Type} {R : β → γ → Prop} {f : α → β} {g : α → γ} : ∀ {l : List α}, (∀ y ∈ l, R (f y) (g y)) → Paired R (l.map f) (l.map g)
  | [], _ => .nil
  | y :: r, h => .cons (h y List.mem_cons_self) (paired_map fun z hz => h z (List.mem_cons_of_mem _ hz))
theorem seg_short {x : Str} (h : isSegF x = true) : x.length ≤ 100000 := by have := seg_len h; omega
def spTreeI (K : PySem.W.Frag) (c : C4) : Sp := fun vs H Q _ => ∃ (a e dx : Addr) (t : Tab) (es : List Ent), vs = [.ref a, .ref e] ∧ H a = some (.ins c.T dx []) ∧ H e = some (.dK (kT t)) ∧ EntsAt K H t es ∧ es.length ≤ 30 ∧ (es.map (·.1)).Nodup ∧ (∀ x ∈ es, EntOk x) ∧
  ∀ d t' es' H', H d = none → Fr a H H' → H' a = some (.ins c.T dx [("_entries", .ref d)]) → H' d = some (.dK (kT t')) → EntsAt K H' t' es' → es'.Perm es → EntsOk es' → Q .non H'
theorem k_Tree (T : TopO K mg c CS cX iX ek pd) : C8.Mak P w K mg base 4 "Tree" c.T (spTreeI K c) [] := by
  obtain ⟨f, fd, M, F, df⟩ := T.iniT
  refine C8.mak0 M T.mgT F (F.binds (ps := ["self", "entries"]) df fun _ _ _ _ _ _ us hl => match us, hl with | [_, _], _ => rfl) .nil sc_Tree_init (fun vs H Q E h => ?_) (fun cdv A outer s H vs Q E hr h => ?_)
  · obtain ⟨a, e, dx, t, es, rfl, _⟩ := h
    rfl
  · obtain ⟨a, e, dx, t, es, rfl, ha, he, hE, hl, nd, ok, q⟩ := h
    have nae : a ≠ e := fun z => by rw [z, he] at ha; cases ha
    have kE := hE.keys
    have lt : t.length = es.length := by
      have := congrArg List.length kE
      rwa [List.length_map, List.length_map] at this
    have ndt : Nd t := by unfold Nd; rw [kE]; exact nd
    refine ⟨_, (pss_cons (ps_if (PW.pt (pw_or (pt_not (pt_val (pe_callB call_isi (by rfl) T.z_isinstance (by decide +kernel) (pa_cons (pv 1) (pa_cons (pe_bltn (v := .ty "dict") (by rfl) T.z_dict (by decide +kernel) rfl) pa_nil))))) (pw_or1 (pt_cmpR op_gt (pe_callB call_lenD (by rfl) T.z_len (by decide +kernel) (pa_cons (pv 1) pa_nil)) (C8.pe_gc (by rfl) T.g_MOST_ENTRIES) (nomark _)))))
      (pss_one ps_never)
      pss_nil)
      (pss_cons (ps_lock (ps_for PassesOwn.never rfl (pi_keys (pv 1)) (pg_name (i := 2) sc_Tree_init.nd rfl (Or.inl rfl))
      (pss_one (ps_if (PW.pt (pw_or (pt_not (pt_val (C8.pe_c (c_is_segment T.toTop) hr (by decide) (by rfl) (pa_cons (pv 2) pa_nil)))) (pw_or1 (pt_not (pt_val (C8.pe_c (c_is_value T.toTop) hr (by decide) (by rfl) (pa_cons (pe_dget (hu_of hr) (pv 1) (pv 2) (fun _ _ => rfl)) (pa_cons (C8.pe_gc (by rfl) T.g_ENTRY_KINDS) pa_nil))))))))
      (pss_one ps_never)
      pss_nil))))
      (pss_one (ps_fld (pv 0) (pe_dc (own := [("segment", 2)]) (g := gName 2) (by rfl) sc_Tree_init.nd (pi_tup (C8.pe_c (c_ascending T.toTop) hr (by decide) (by rfl) (pa_cons (pv 1) pa_nil))) (blkOk_by (own := [("segment", 2)]) (N := ["self", "entries", "segment"]) (sc := C8.fnScope s_Tree_init) (by decide +kernel)) (fun _ _ _ _ _ => (pg_name (i := 2) sc_Tree_init.nd rfl (Or.inl rfl))) (fun _ _ _ _ _ => pts_nil) (fun _ _ _ _ _ => (pv 2)) (fun _ _ _ _ _ => (pe_dget (hu_of hr) (pv 1) (pv 2) (fun _ _ => rfl)))) rfl)))), ?_⟩
    refine ⟨.ref e, rfl, ?_⟩
    dsimp only [tCons, tC, tNil]
    refine ⟨_, _, .type "dict", .type "dict", true, rfl, .ty "dict", .base (.dK he), kit_ty (by decide +kernel), _, rfl, iteF ?_⟩
    refine ⟨.ref e, rfl, e, _, rfl, he, _, _, rfl, rfl, _, rfl, ifF (fun z => ?_) ?_⟩
    · have z := of_decide_eq_true z
      rw [len_kT, lt] at z
      omega
    refine ⟨e, _, he, trivial, fun od => ⟨.ref e, rfl, e, od, rfl, .inl ⟨kT t, upd_same, ?_⟩⟩⟩
    have Y : Yields (Itk e od (kT t)) ((t.map (·.1)).map V.str) (fun H => H e = some (.frz od (.dK (kT t)))) := by
      rw [← kV_kT]
      exact yields_keys
    have he0 : (upd H e (.frz od (.dK (kT t)))) e = some (.frz od (.dK (kT t))) := upd_same
    have s0 : ∀ b o, b ≠ e → H b = some o → (upd H e (.frz od (.dK (kT t)))) b = some o := fun b o n z => by rw [upd_ne n]; exact z
    generalize upd H e (.frz od (.dK (kT t))) = HL at he0 s0
    refine forG Y (fun i σ H' => Same HL H' ∧ ∃ z, σ = [some (.ref a), some (.ref e), z]) ⟨Same.refl _, none, rfl⟩ (fun i σ H' ⟨s, _⟩ => s _ _ he0) (fun i x σ H' hx I => ?_) (fun σ H' I => ?_)
    · obtain ⟨s, z, rfl⟩ := I
      rw [kE, List.map_map, List.getElem?_map] at hx
      cases hi : es[i]? with
      | none => rw [hi] at hx; cases hx
      | some e0 =>
        rw [hi] at hx
        cases hx
        have hm : e0 ∈ es := List.mem_of_getElem? hi
        obtain ⟨o1, o2, o3⟩ := ok e0 hm
        refine ⟨.str e0.1, rfl, .str e0.1, rfl, .str e0.1 (seg_short o1) (ok_seg o1), fun H1 s1 => ⟨_, rfl, ?_⟩⟩
        rw [show evalV isSegF (.str e0.1) = true from o1]
        refine iteF ?_
        obtain ⟨q0, hv, ht⟩ := hE.val nd e0 hm
        have g1 := dget_kT (.inr ⟨od, s1 _ _ (s _ _ he0)⟩) e0.1
        rw [hv] at g1
        have tk : TupK K H1 q0 (entL e0) := ht.imp (fun z => s1 _ _ (s _ _ (s0 _ _ (fun y => by rw [y, he] at z; cases z) z))) id
        exact ⟨.ref e, rfl, .str e0.1, rfl, e, _, rfl, g1, q0, ek, e0.2.1, e0.2.2, rfl, tk, .inr T.kE, o2, o3, fun H2 s2 => ⟨_, rfl, iteF ⟨s.trans (s1.trans s2), _, rfl⟩⟩⟩
    · obtain ⟨s, z, rfl⟩ := I
      refine ⟨s _ _ he0, ?_⟩
      have sH : Same H (upd H' e (.dK (kT t))) := fun b o z => by
        by_cases hb : b = e
        · rw [hb, upd_same, ← he, ← hb, z]
        · rw [upd_ne hb]
          exact s _ _ (s0 _ _ hb z)
      generalize upd H' e (.dK (kT t)) = H1 at sH
      refine ⟨.ref e, rfl, e, t, rfl, sH _ _ he, by omega, fun ys p H2 hp hs _ s2 h2 => ?_⟩
      rw [kE] at hp
      have hy : ∀ y ∈ ys, y ∈ es.map (·.1) := fun y hy => hp.mem_iff.mp hy
      refine ⟨p, rfl, ⟨_, SqT.of h2⟩, fun D hD => ?_⟩
      have s02 := sH.trans s2
      refine dc_tab (us := ys) (val := V.str) yields_tup (fun y => y) (fun y => (valV t y).getD .non) (fun _ => true) (fun y => [some (.ref a), some (.ref e), some (.str y)]) hD (fun H s => SqT.of (s _ _ h2)) (fun _ _ => rfl)
        (fun H u _ _ R k => k) (fun H u _ _ R k => k H (Same.refl H)) (fun H u _ _ _ R k => ⟨_, rfl, k H (Same.refl H)⟩) (fun H3 u s3 hu _ R k => ?_) (by have := hp.length_eq; rw [List.length_map] at this; omega) (by rw [filt_all, List.map_id']; exact hp.nodup_iff.mpr nd) (fun H3 s3 h3 => ?_)
      · obtain ⟨e0, hm, rfl⟩ := List.mem_map.mp (hy u hu)
        obtain ⟨q0, hv, _⟩ := hE.val nd e0 hm
        have g1 := dget_kT (.inl (s3 _ _ (s02 _ _ he))) e0.1
        rw [hv] at g1
        rw [hv] at k
        exact ⟨.ref e, rfl, .str e0.1, rfl, e, _, rfl, g1, k H3 (Same.refl H3)⟩
      · have s03 := s02.trans s3
        have fD : H D = none := s02.free hD
        have nDa : D ≠ a := ne_of_none' fD ha
        refine ⟨.ref a, rfl, a, c.T, dx, _, rfl, s03 _ _ ha, T.cT, T.nT_entries, (by decide), q D (ys.map fun y => (y, (valV t y).getD .non)) (ys.map (lookE es)) _ fD (fr_sets s03) upd_same ?_ ?_ (look_perm nd hp) ?_⟩
        · rw [upd_ne nDa, h3, filt_all]
        · refine paired_map fun y hy' => ?_
          obtain ⟨e0, hm, rfl⟩ := List.mem_map.mp (hy y hy')
          obtain ⟨q0, hv, ht⟩ := hE.val nd e0 hm
          rw [look_mem nd hm, hv]
          exact ⟨rfl, q0, rfl, ht.imp (fun z => (fr_sets s03) _ _ (fun y => by rw [y, ha] at z; cases z) z) id⟩
        · refine ⟨by rw [(look_perm nd hp).length_eq]; exact hl, by rw [look_keys hy nd]; exact hp.nodup_iff.mpr nd, by rw [look_keys hy nd]; exact hs, fun x hx => ok x ((look_perm nd hp).mem_iff.mp hx)⟩
end

end Fk

set_option maxHeartbeats 4000000
namespace Fk
open PySem PySem.Spec PyProof.Rows L2
section
variable {P : Program} {w : World} {K : PySem.W.Frag} {mg : Str → Option Value} {base : Heap} {c : C4} {CS cX iX ek pd : Addr}
/-! ### commits and tags -/
def spCommitI (K : PySem.W.Frag) (c : C4) : Sp := fun vs H Q _ => ∃ (a dx p : Addr) (t : Str) (ps : List Str) (au : Str) (tm : Int) (msg : Str), vs = [.ref a, .str t, .ref p, .str au, .int tm, .str msg] ∧ H a = some (.ins c.C dx []) ∧ TupK K H p (ps.map V.str) ∧ Ob.ok (.commit t ps au tm msg) ∧
  ∀ H', Fr a H H' → H' a = some (.ins c.C dx (cmF t p au tm msg)) → Q .non H'
theorem word_ok {x y : Str} (h : isWordF y x = true) (hy : OkS y) : OkS x ∧ x.length ≤ 12 := by
  unfold isWordF at h
  obtain ⟨h1, h2⟩ := Bool.and_eq_true_iff.mp h
  obtain ⟨h3, h4⟩ := Bool.and_eq_true_iff.mp h2
  exact ⟨ok_sub (only_sub h4) hy, of_decide_eq_true h3⟩
theorem iniF_Commit (T : TopO K mg c CS cX iX ek pd) : ∀ f fd, C8.Fun K "__init__" "Commit.__init__" s_Commit_init f fd → FnOk P w K mg base C8.CX0 5 f fd ["self", "tree", "parents", "author", "time", "message"] (spCommitI K c) := fun f fd F => by
  refine C8.fn0 F sc_Commit_init (fun vs H Q E h => ?_) (fun cdv A outer s H vs Q E hr h => ?_)
  · obtain ⟨a, dx, p, t, ps, au, tm, msg, rfl, _⟩ := h
    rfl
  · obtain ⟨a, dx, p, t, ps, au, tm, msg, rfl, ha, hp, ⟨o1, o2, o3, o4, o5, o6, o7, o8, o9⟩, q⟩ := h
    refine ⟨_, (pss_cons (ps_if (pt_not (pt_val (C8.pe_c (c_is_id T.toTop) hr (by decide) (by rfl) (pa_cons (pv 1) pa_nil))))
      (pss_one ps_never)
      pss_nil)
      (pss_cons (ps_if (PW.pt (pw_or (pt_not (pt_val (C8.pe_c (c_are_ids T.toTop) hr (by decide) (by rfl) (pa_cons (pv 2) pa_nil)))) (pw_or (pt_cmpR op_gt (pe_callB call_len_seq (by rfl) T.z_len (by decide +kernel) (pa_cons (pv 2) pa_nil)) (C8.pe_gc (by rfl) T.g_MOST_PARENTS) (nomark _)) (pw_or1 (pt_cmpR op_lt (pe_lenSetT rfl (by rfl) T.z_len (by rfl) T.z_set (pv 2)) (pe_callB call_len_seq (by rfl) T.z_len (by decide +kernel) (pa_cons (pv 2) pa_nil)) (nomark _))))))
      (pss_one ps_never)
      pss_nil)
      (pss_cons (ps_if (pt_not (pt_val (C8.pe_c (c_is_author T.toTop) hr (by decide) (by rfl) (pa_cons (pv 3) pa_nil))))
      (pss_one ps_never)
      pss_nil)
      (pss_cons (ps_if (pt_not (pt_val (C8.pe_c (c_is_time T.toTop) hr (by decide) (by rfl) (pa_cons (pv 4) pa_nil))))
      (pss_one ps_never)
      pss_nil)
      (pss_cons (ps_if (pt_not (pt_val (C8.pe_c (c_is_message T.toTop) hr (by decide) (by rfl) (pa_cons (pv 5) pa_nil))))
      (pss_one ps_never)
      pss_nil)
      (pss_cons (ps_fld (pv 0) (pv 1) rfl)
      (pss_cons (ps_fld (pv 0) (pv 2) rfl)
      (pss_cons (ps_fld (pv 0) (pv 3) rfl)
      (pss_cons (ps_fld (pv 0) (pv 4) rfl)
      (pss_one (ps_fld (pv 0) (pv 5) rfl))))))))))), ?_⟩
    refine ⟨.str t, rfl, .str t, rfl, .str t (by have := (ok_id o1).2; omega) (ok_id o1).1, fun H1 s1 => ⟨_, rfl, ?_⟩⟩
    rw [show evalV isIdF (.str t) = true from o1]
    refine iteF ?_
    refine ⟨.ref p, rfl, p, ps, rfl, hp.keep (TupKeep.of s1), by omega, o4, fun H2 s2 => ⟨_, rfl, iteF ?_⟩⟩
    have hp2 := hp.keep (TupKeep.of (s1.trans s2))
    refine ⟨.ref p, rfl, p, _, rfl, .inr hp2.sq, _, _, rfl, rfl, _, rfl, ifF (fun z => ?_) ?_⟩
    · have z := of_decide_eq_true z
      rw [List.length_map] at z
      omega
    refine ⟨.ref p, rfl, p, ps, rfl, hp2.sq, by omega, fun n => ⟨fun ys ny hm hn => ?_, trivial⟩⟩
    have en : n = ps.length := by
      have : ys.Perm ps := (List.perm_ext_iff_of_nodup ny o3).mpr hm
      rw [← hn, this.length_eq]
    refine ⟨.ref p, rfl, p, _, rfl, .inr hp2.sq, _, _, rfl, rfl, _, rfl, ifF (fun z => ?_) ?_⟩
    · have z := of_decide_eq_true z
      rw [List.length_map] at z
      omega
    refine ⟨.str au, rfl, .str au, rfl, .str au (by have := (word_ok o5 ok_let).2; omega) (word_ok o5 ok_let).1, fun H3 s3 => ⟨_, rfl, ?_⟩⟩
    rw [show evalV (isWordF LET) (.str au) = true from o5]
    refine iteF ?_
    refine ⟨.int tm, rfl, tm, rfl, o6, o7, fun H4 s4 => ⟨_, rfl, iteF ?_⟩⟩
    refine ⟨.str msg, rfl, msg, rfl, o8, o9, fun H5 s5 => ⟨_, rfl, iteF ?_⟩⟩
    have s15 := (((s1.trans s2).trans s3).trans s4).trans s5
    refine ⟨.str t, rfl, .ref a, rfl, a, c.C, dx, _, rfl, s15 _ _ ha, T.cC, T.nC_tree, (by decide), ?_⟩
    refine ⟨.ref p, rfl, .ref a, rfl, a, c.C, dx, _, rfl, upd_same, T.cC, T.nC_parents, (by show 1 < 1000; decide), ?_⟩
    refine ⟨.str au, rfl, .ref a, rfl, a, c.C, dx, _, rfl, upd_same, T.cC, T.nC_author, (by show 2 < 1000; decide), ?_⟩
    refine ⟨.int tm, rfl, .ref a, rfl, a, c.C, dx, _, rfl, upd_same, T.cC, T.nC_time, (by show 3 < 1000; decide), ?_⟩
    refine ⟨.str msg, rfl, .ref a, rfl, a, c.C, dx, _, rfl, upd_same, T.cC, T.nC_message, (by show 4 < 1000; decide), ?_⟩
    exact q _ (((((fr_sets s15).trans Fr.at).trans Fr.at).trans Fr.at).trans Fr.at) upd_same
theorem k_Commit_2_author_time_message (T : TopO K mg c CS cX iX ek pd) : MakK P w K mg base 5 "Commit" c.C (spCommitI K c) 3 ["author", "time", "message"] (fun vs zs => vs ++ zs) := makK T.kC3f T.mgC (iniF_Commit T)
theorem k_Commit_2_author_time (T : TopO K mg c CS cX iX ek pd) : MakK P w K mg base 5 "Commit" c.C (spCommitI K c) 3 ["author", "time"] (fun vs zs => vs ++ (zs ++ [.str ""])) := makK T.kC3 T.mgC (iniF_Commit T)
theorem k_Commit_1_author_time_message (T : TopO K mg c CS cX iX ek pd) : MakK P w K mg base 5 "Commit" c.C (spCommitI K c) 2 ["author", "time", "message"] (fun vs zs => vs ++ (.ref pd :: zs)) := makK T.kC2f T.mgC (iniF_Commit T)
theorem k_Commit_1_author_time (T : TopO K mg c CS cX iX ek pd) : MakK P w K mg base 5 "Commit" c.C (spCommitI K c) 2 ["author", "time"] (fun vs zs => vs ++ (.ref pd :: (zs ++ [.str ""]))) := makK T.kC2 T.mgC (iniF_Commit T)
theorem do_commit {p : Addr} {t : Str} {ps : List Str} {au : Str} {tm : Int} {msg : Str} {H : Hp} {Q : VK} (hp : TupK K H p (ps.map V.str)) (ok : Ob.ok (.commit t ps au tm msg)) (q : ∀ a H', H a = none → Same H H' → ObAt K c H' a a (.commit t ps au tm msg) → Q (.ref a) H') :
    ∀ a dx, H a = none → H dx = none → dx ≠ a → spCommitI K c [.ref a, .str t, .ref p, .str au, .int tm, .str msg] (upd (upd H dx (.own a)) a (.ins c.C dx [])) (fun v H2 => v = .non ∧ Q (.ref a) H2) C8.E0 := fun a dx ha hd nd => by
  have s1 : Same H (upd (upd H dx (.own a)) a (.ins c.C dx [])) := made_same ha hd (Fr.refl _ _)
  exact ⟨a, dx, p, t, ps, au, tm, msg, rfl, upd_same, hp.keep (TupKeep.of s1), ok, fun H' f e => ⟨rfl, q a H' ha (made_same ha hd f) ⟨dx, p, e, hp.keep (TupKeep.of (made_same ha hd f))⟩⟩⟩
def spTagI (c : C4) : Sp := fun vs H Q _ => ∃ (a dx : Addr) (tg lb msg : Str), vs = [.ref a, .str tg, .str lb, .str msg] ∧ H a = some (.ins c.G dx []) ∧ Ob.ok (.tag tg lb msg) ∧ ∀ H', Fr a H H' → H' a = some (.ins c.G dx (tgF tg lb msg)) → Q .non H'
theorem iniF_Tag (T : TopO K mg c CS cX iX ek pd) : ∀ f fd, C8.Fun K "__init__" "Tag.__init__" s_Tag_init f fd → FnOk P w K mg base C8.CX0 5 f fd ["self", "target", "label", "message"] (spTagI c) := fun f fd F => by
  refine C8.fn0 F sc_Tag_init (fun vs H Q E h => ?_) (fun cdv A outer s H vs Q E hr h => ?_)
  · obtain ⟨a, dx, tg, lb, msg, rfl, _⟩ := h
    rfl
  · obtain ⟨a, dx, tg, lb, msg, rfl, ha, ⟨o1, o2, o8, o9⟩, q⟩ := h
    refine ⟨_, (pss_cons (ps_if (pt_not (pt_val (C8.pe_c (c_is_id T.toTop) hr (by decide) (by rfl) (pa_cons (pv 1) pa_nil))))
      (pss_one ps_never)
      pss_nil)
      (pss_cons (ps_if (pt_not (pt_val (C8.pe_c (c_is_segment T.toTop) hr (by decide) (by rfl) (pa_cons (pv 2) pa_nil))))
      (pss_one ps_never)
      pss_nil)
      (pss_cons (ps_if (pt_not (pt_val (C8.pe_c (c_is_message T.toTop) hr (by decide) (by rfl) (pa_cons (pv 3) pa_nil))))
      (pss_one ps_never)
      pss_nil)
      (pss_cons (ps_fld (pv 0) (pv 1) rfl)
      (pss_cons (ps_fld (pv 0) (pv 2) rfl)
      (pss_one (ps_fld (pv 0) (pv 3) rfl))))))), ?_⟩
    refine ⟨.str tg, rfl, .str tg, rfl, .str tg (by have := (ok_id o1).2; omega) (ok_id o1).1, fun H1 s1 => ⟨_, rfl, ?_⟩⟩
    rw [show evalV isIdF (.str tg) = true from o1]
    refine iteF ?_
    refine ⟨.str lb, rfl, .str lb, rfl, .str lb (seg_short o2) (ok_seg o2), fun H2 s2 => ⟨_, rfl, ?_⟩⟩
    rw [show evalV isSegF (.str lb) = true from o2]
    refine iteF ?_
    refine ⟨.str msg, rfl, msg, rfl, o8, o9, fun H5 s5 => ⟨_, rfl, iteF ?_⟩⟩
    have s15 := (s1.trans s2).trans s5
    refine ⟨.str tg, rfl, .ref a, rfl, a, c.G, dx, _, rfl, s15 _ _ ha, T.cG, T.nG_target, (by decide), ?_⟩
    refine ⟨.str lb, rfl, .ref a, rfl, a, c.G, dx, _, rfl, upd_same, T.cG, T.nG_label, (by show 1 < 1000; decide), ?_⟩
    refine ⟨.str msg, rfl, .ref a, rfl, a, c.G, dx, _, rfl, upd_same, T.cG, T.nG_message, (by show 2 < 1000; decide), ?_⟩
    exact q _ (((fr_sets s15).trans Fr.at).trans Fr.at) upd_same
theorem k_Tag_1_label_message (T : TopO K mg c CS cX iX ek pd) : MakK P w K mg base 5 "Tag" c.G (spTagI c) 2 ["label", "message"] (fun vs zs => vs ++ zs) := makK T.kG2 T.mgG (iniF_Tag T)
theorem k_Tag_1_label (T : TopO K mg c CS cX iX ek pd) : MakK P w K mg base 5 "Tag" c.G (spTagI c) 2 ["label"] (fun vs zs => vs ++ (zs ++ [.str ""])) := makK T.kG1 T.mgG (iniF_Tag T)
theorem do_tag {tg lb msg : Str} {H : Hp} {Q : VK} (ok : Ob.ok (.tag tg lb msg)) (q : ∀ a H', H a = none → Same H H' → ObAt K c H' a a (.tag tg lb msg) → Q (.ref a) H') :
    ∀ a dx, H a = none → H dx = none → dx ≠ a → spTagI c [.ref a, .str tg, .str lb, .str msg] (upd (upd H dx (.own a)) a (.ins c.G dx [])) (fun v H2 => v = .non ∧ Q (.ref a) H2) C8.E0 := fun a dx ha hd nd =>
  ⟨a, dx, tg, lb, msg, rfl, upd_same, ok, fun H' f e => ⟨rfl, q a H' ha (made_same ha hd f) ⟨dx, e⟩⟩⟩
theorem do_tree {e : Addr} {t : Tab} {es : List Ent} {H : Hp} {Q : VK} (he : H e = some (.dK (kT t))) (hE : EntsAt K H t es) (hl : es.length ≤ 30) (nd : (es.map (·.1)).Nodup) (ok : ∀ x ∈ es, EntOk x)
    (q : ∀ a d es' H', H a = none → H d = none → Same H H' → es'.Perm es → Ob.ok (.tree es') → ObAt K c H' a d (.tree es') → Q (.ref a) H') :
    ∀ a dx, H a = none → H dx = none → dx ≠ a → spTreeI K c (.ref a :: ([.ref e] ++ [])) (upd (upd H dx (.own a)) a (.ins c.T dx [])) (fun v H2 => v = .non ∧ Q (.ref a) H2) C8.E0 := fun a dx ha hd nda => by
  have s1 : Same H (upd (upd H dx (.own a)) a (.ins c.T dx [])) := made_same ha hd (Fr.refl _ _)
  refine ⟨a, e, dx, t, es, rfl, upd_same, s1 _ _ he, hE.keep (TupKeep.of s1), hl, nd, ok, fun d t' es' H' hd' f h1 h2 h3 hp hok => ⟨rfl, q a d es' H' ha (s1.free hd') (made_same ha hd f) hp hok ⟨dx, t', h1, h2, h3⟩⟩⟩
/-! ### equal -/
def spEq (K : PySem.W.Frag) (c : C4) (j : Nat) : Sp := fun vs H Q _ => ∃ (a b d d' : Addr) (o o' : Ob), vs = [.ref a, .ref b] ∧ ObAt K c H a d o ∧ ObAt K c H b d' o' ∧ o.ok ∧ o'.ok ∧ o.kd = j ∧ ∀ H', Same H H' → Q (.bl (decide (o = o'))) H'
theorem spEq_len {j : Nat} (vs : List V) (H : Hp) (Q : VK) (E : XK) (h : spEq K c j vs H Q E) : vs.length = 2 := by
  obtain ⟨a, b, d, d', o, o', rfl, _⟩ := h
  rfl
theorem m_Blob_eq (T : TopO K mg c CS cX iX ek pd) : C8.Met P w K mg base 1 c.B "__eq__" (spEq K c 0) [] := by
  refine met_of T.cB T.eqB sc_Blob_eq (fun _ _ _ _ _ _ us hl => match us, hl with | [_, _], _ => rfl) spEq_len (fun f cdv A outer s H vs Q E hr h => ?_)
  obtain ⟨a, b, d, d', o, o', rfl, ha, hb, ok, ok', hk, q⟩ := h
  cases o with
  | blob x =>
    refine ⟨_, (pss_one (ps_ret (pe_and (pe_callB call_isi (by rfl) T.z_isinstance (by decide +kernel) (pa_cons (pv 1) (pa_cons (C8.pe_gc (by rfl) T.g_Blob) pa_nil))) (pe_one (pe_cmpR op_eq (pe_fld (pv 0) rfl) (pe_fld (pv 1) rfl) (nomark _)))))), ?_⟩
    refine ⟨.ref b, rfl, ?_⟩
    dsimp only [tCons, tC, tNil]
    refine T.isi (j := 0) hb (by decide) ⟨_, rfl, ?_⟩
    obtain ⟨dx, ha⟩ := ha
    cases o' with
    | blob y =>
      obtain ⟨dy, hb⟩ := hb
      refine iteT ⟨.ref a, rfl, a, c.B, dx, _, _, rfl, ha, T.cB, T.nB_text, rfl, .ref b, rfl, b, c.B, dy, _, _, rfl, hb, T.cB, T.nB_text, rfl, rfl, ?_⟩
      have e : decide (Ob.blob x = Ob.blob y) = decide (V.str x = V.str y) := by
        rw [Bool.eq_iff_iff]
        simp
      rw [e] at q
      exact q H (Same.refl H)
    | _ => exact iteF (q H (Same.refl H))
  | _ => cases hk
end

end Fk

set_option maxHeartbeats 4000000
namespace Fk
open PySem PySem.Spec PyProof.Rows L2
theorem shaped_tup (ys : List Str) (h : ∀ y ∈ ys, OkS y) : SeqAt.shaped (.tuple (ys.map PyData.str)) = true := by
  simp [SeqAt.shaped, PyData.canLay0, lay_strs ys h, PyData.depth, depth_strs]
theorem eqv_tups : ∀ ys zs : List Str, PyData.eqvAll (ys.map PyData.str) (zs.map PyData.str) = decide (ys = zs)
  | [], [] => rfl
  | [], _ :: _ => rfl
  | _ :: _, [] => rfl
  | y :: ys, z :: zs => by
    show (y == z && PyData.eqvAll _ _) = _
    rw [eqv_tups ys zs, Bool.eq_iff_iff]
    simp
section
variable {P : Program} {w : World} {K : PySem.W.Frag} {mg : Str → Option Value} {base : Heap} {c : C4} {CS cX iX ek pd : Addr}
theorem m_Tree_eq (T : TopO K mg c CS cX iX ek pd) : C8.Met P w K mg base 1 c.T "__eq__" (spEq K c 1) [] := by
  refine met_of T.cT T.eqT sc_Tree_eq (fun _ _ _ _ _ _ us hl => match us, hl with | [_, _], _ => rfl) spEq_len (fun f cdv A outer s H vs Q E hr h => ?_)
  obtain ⟨a, b, d, d', o, o', rfl, ha, hb, ok, ok', hk, q⟩ := h
  cases o with
  | tree es =>
    refine ⟨_, (pss_one (ps_ret (pe_and (pe_callB call_isi (by rfl) T.z_isinstance (by decide +kernel) (pa_cons (pv 1) (pa_cons (C8.pe_gc (by rfl) T.g_Tree) pa_nil))) (pe_one (pe_cmpR (op_eqDD (room66 hr)) (pe_fld (pv 0) rfl) (pe_fld (pv 1) rfl) (nomark _)))))), ?_⟩
    refine ⟨.ref b, rfl, ?_⟩
    dsimp only [tCons, tC, tNil]
    refine T.isi (j := 1) hb (by decide) ⟨_, rfl, ?_⟩
    obtain ⟨dx, t, ha, h2, h3⟩ := ha
    cases o' with
    | tree fs =>
      obtain ⟨dy, u, hb, k2, k3⟩ := hb
      refine iteT ⟨.ref a, rfl, a, c.T, dx, _, _, rfl, ha, T.cT, T.nT_entries, rfl, .ref b, rfl, b, c.T, dy, _, _, rfl, hb, T.cT, T.nT_entries, rfl, d, d', datE es, datE fs, rfl, rfl, ⟨_, h2, dat_at h3⟩, ⟨_, k2, dat_at k3⟩, shaped_ents ok.2.2.2, shaped_ents ok'.2.2.2, ?_⟩
      rw [eqv_ents2 ok ok']
      have e : decide (Ob.tree es = Ob.tree fs) = decide (es = fs) := by
        rw [Bool.eq_iff_iff]
        simp
      rw [e] at q
      exact q H (Same.refl H)
    | _ => exact iteF (q H (Same.refl H))
  | _ => cases hk
theorem m_Tag_eq (T : TopO K mg c CS cX iX ek pd) : C8.Met P w K mg base 1 c.G "__eq__" (spEq K c 3) [] := by
  refine met_of T.cG T.eqG sc_Tag_eq (fun _ _ _ _ _ _ us hl => match us, hl with | [_, _], _ => rfl) spEq_len (fun f cdv A outer s H vs Q E hr h => ?_)
  obtain ⟨a, b, d, d', o, o', rfl, ha, hb, ok, ok', hk, q⟩ := h
  cases o with
  | tag tg lb msg =>
    refine ⟨_, (pss_one (ps_ret (pe_and (pe_callB call_isi (by rfl) T.z_isinstance (by decide +kernel) (pa_cons (pv 1) (pa_cons (C8.pe_gc (by rfl) T.g_Tag) pa_nil))) (pe_and (pe_cmpR op_eq (pe_fld (pv 0) rfl) (pe_fld (pv 1) rfl) (nomark _)) (pe_and (pe_cmpR op_eq (pe_fld (pv 0) rfl) (pe_fld (pv 1) rfl) (nomark _)) (pe_one (pe_cmpR op_eq (pe_fld (pv 0) rfl) (pe_fld (pv 1) rfl) (nomark _)))))))), ?_⟩
    refine ⟨.ref b, rfl, ?_⟩
    dsimp only [tCons, tC, tNil]
    refine T.isi (j := 3) hb (by decide) ⟨_, rfl, ?_⟩
    obtain ⟨dx, ha⟩ := ha
    cases o' with
    | tag tg' lb' msg' =>
      obtain ⟨dy, hb⟩ := hb
      have fin : ∀ b : Bool, decide (Ob.tag tg lb msg = Ob.tag tg' lb' msg') = b → Q (.bl b) H := fun b e => by
        rw [e] at q
        exact q H (Same.refl H)
      have no : ¬ (tg = tg' ∧ lb = lb' ∧ msg = msg') → Q (.bl false) H := fun n => fin false (decide_eq_false fun z => n (by injection z with z1 z2 z3; exact ⟨z1, z2, z3⟩))
      refine iteT ⟨.ref a, rfl, a, c.G, dx, _, _, rfl, ha, T.cG, T.nG_target, rfl, .ref b, rfl, b, c.G, dy, _, _, rfl, hb, T.cG, T.nG_target, rfl, rfl, _, rfl, ite2 (fun z1 => ?_) (fun z1 => ?_)⟩
      · have z1 := V.str.inj (of_decide_eq_true z1)
        refine ⟨.ref a, rfl, a, c.G, dx, _, _, rfl, ha, T.cG, T.nG_label, rfl, .ref b, rfl, b, c.G, dy, _, _, rfl, hb, T.cG, T.nG_label, rfl, rfl, _, rfl, ite2 (fun z2 => ?_) (fun z2 => ?_)⟩
        · have z2 := V.str.inj (of_decide_eq_true z2)
          refine ⟨.ref a, rfl, a, c.G, dx, _, _, rfl, ha, T.cG, T.nG_message, rfl, .ref b, rfl, b, c.G, dy, _, _, rfl, hb, T.cG, T.nG_message, rfl, rfl, ?_⟩
          refine fin _ ?_
          rw [z1, z2, Bool.eq_iff_iff]
          simp
        · exact no fun z => z2 (decide_eq_true (by rw [z.2.1]))
      · exact no fun z => z1 (decide_eq_true (by rw [z.1]))
    | _ => exact iteF (q H (Same.refl H))
  | _ => cases hk
theorem m_Commit_eq (T : TopO K mg c CS cX iX ek pd) : C8.Met P w K mg base 1 c.C "__eq__" (spEq K c 2) [] := by
  refine met_of T.cC T.eqC sc_Commit_eq (fun _ _ _ _ _ _ us hl => match us, hl with | [_, _], _ => rfl) spEq_len (fun f cdv A outer s H vs Q E hr h => ?_)
  obtain ⟨a, b, d, d', o, o', rfl, ha, hb, ok, ok', hk, q⟩ := h
  cases o with
  | commit t ps au tm msg =>
    refine ⟨_, (pss_one (ps_ret (pe_and (pe_callB call_isi (by rfl) T.z_isinstance (by decide +kernel) (pa_cons (pv 1) (pa_cons (C8.pe_gc (by rfl) T.g_Commit) pa_nil))) (pe_and (pe_cmpR op_eq (pe_fld (pv 0) rfl) (pe_fld (pv 1) rfl) (nomark _)) (pe_and (pe_cmpR (op_eqD hr.units) (pe_fld (pv 0) rfl) (pe_fld (pv 1) rfl) (nomark _)) (pe_and (pe_cmpR op_eq (pe_fld (pv 0) rfl) (pe_fld (pv 1) rfl) (nomark _)) (pe_and (pe_cmpR op_eq (pe_fld (pv 0) rfl) (pe_fld (pv 1) rfl) (nomark _)) (pe_one (pe_cmpR op_eq (pe_fld (pv 0) rfl) (pe_fld (pv 1) rfl) (nomark _)))))))))), ?_⟩
    refine ⟨.ref b, rfl, ?_⟩
    dsimp only [tCons, tC, tNil]
    refine T.isi (j := 2) hb (by decide) ⟨_, rfl, ?_⟩
    obtain ⟨dx, p, ha, hp⟩ := ha
    cases o' with
    | commit t' ps' au' tm' msg' =>
      obtain ⟨dy, p', hb, hp'⟩ := hb
      have fin : ∀ b : Bool, decide (Ob.commit t ps au tm msg = Ob.commit t' ps' au' tm' msg') = b → Q (.bl b) H := fun b e => by
        rw [e] at q
        exact q H (Same.refl H)
      have no : ¬ (t = t' ∧ ps = ps' ∧ au = au' ∧ tm = tm' ∧ msg = msg') → Q (.bl false) H := fun n => fin false (decide_eq_false fun z => n (by injection z with z1 z2 z3 z4 z5; exact ⟨z1, z2, z3, z4, z5⟩))
      refine iteT ⟨.ref a, rfl, a, c.C, dx, _, _, rfl, ha, T.cC, T.nC_tree, rfl, .ref b, rfl, b, c.C, dy, _, _, rfl, hb, T.cC, T.nC_tree, rfl, rfl, _, rfl, ite2 (fun z1 => ?_) (fun z1 => ?_)⟩
      · have z1 := V.str.inj (of_decide_eq_true z1)
        refine ⟨.ref a, rfl, a, c.C, dx, _, _, rfl, ha, T.cC, T.nC_parents, rfl, .ref b, rfl, b, c.C, dy, _, _, rfl, hb, T.cC, T.nC_parents, rfl, _, _, .tup hp.sq (dp_strs ps), .tup hp'.sq (dp_strs ps'), shaped_tup _ fun y hy => id_ok (ok.2.2.2.1 y hy), shaped_tup _ fun y hy => id_ok (ok'.2.2.2.1 y hy), _, rfl, ?_⟩
        rw [show PyData.eqv (.tuple (ps.map PyData.str)) (.tuple (ps'.map PyData.str)) = decide (ps = ps') from eqv_tups ps ps']
        refine ite2 (fun z2 => ?_) (fun z2 => ?_)
        · have z2 := of_decide_eq_true z2
          refine ⟨.ref a, rfl, a, c.C, dx, _, _, rfl, ha, T.cC, T.nC_author, rfl, .ref b, rfl, b, c.C, dy, _, _, rfl, hb, T.cC, T.nC_author, rfl, rfl, _, rfl, ite2 (fun z3 => ?_) (fun z3 => ?_)⟩
          · have z3 := V.str.inj (of_decide_eq_true z3)
            refine ⟨.ref a, rfl, a, c.C, dx, _, _, rfl, ha, T.cC, T.nC_time, rfl, .ref b, rfl, b, c.C, dy, _, _, rfl, hb, T.cC, T.nC_time, rfl, rfl, _, rfl, ite2 (fun z4 => ?_) (fun z4 => ?_)⟩
            · have z4 := V.int.inj (of_decide_eq_true z4)
              refine ⟨.ref a, rfl, a, c.C, dx, _, _, rfl, ha, T.cC, T.nC_message, rfl, .ref b, rfl, b, c.C, dy, _, _, rfl, hb, T.cC, T.nC_message, rfl, rfl, ?_⟩
              refine fin _ ?_
              rw [z1, z2, z3, z4, Bool.eq_iff_iff]
              simp
            · exact no fun z => z4 (decide_eq_true (by rw [z.2.2.2.1]))
          · exact no fun z => z3 (decide_eq_true (by rw [z.2.2.1]))
        · exact no fun z => z2 (decide_eq_true z.2.1)
      · exact no fun z => z1 (decide_eq_true (by rw [z.1]))
    | _ => exact iteF (q H (Same.refl H))
  | _ => cases hk
/-! ### == and != of any two objects -/
def rObEq (K : PySem.W.Frag) (c : C4) (n : Bool) : R2 := fun x y H Q => ∃ (a b d d' : Addr) (o o' : Ob), x = .ref a ∧ y = .ref b ∧ ObAt K c H a d o ∧ ObAt K c H b d' o' ∧ o.ok ∧ o'.ok ∧ ∀ H', Same H H' → Q (.bl (if n then !decide (o = o') else decide (o = o'))) H'
theorem TopO.tyx (T : TopO K mg c CS cX iX ek pd) {H : Hp} {a d : Addr} {o : Ob} (h : ObAt K c H a d o) : TyX K H (.ref a) (.ref (c.at o.kd)) := by
  obtain ⟨dx, fs, e⟩ := h.ins
  have I := T.ins _ o.kd_lt
  exact .base (.ins e I.cl I.ha I.hn I.htk I.hm)
theorem op_obEq {X : Cx} (T : TopO X.K X.mg c CS cX iX ek pd) (hr : Room 1 X.A) : OpR X (compareOp .Eq) (rObEq X.K c false) := by
  refine op_mono (op_or (op_ownEq (ownM_of (m_Blob_eq T)) hr noEx0) (op_or (op_ownEq (ownM_of (m_Tree_eq T)) hr noEx0) (op_or (op_ownEq (ownM_of (m_Commit_eq T)) hr noEx0) (op_ownEq (ownM_of (m_Tag_eq T)) hr noEx0)))) fun x y H Q h => ?_
  obtain ⟨a, b, d, d', o, o', rfl, rfl, ha, hb, ok, ok', q⟩ := h
  obtain ⟨dx, fs, e⟩ := ha.ins
  have ty := T.tyx hb
  cases o with
  | blob x => exact .inl ⟨a, dx, fs, _, rfl, e, ty, T.first (j := 0) o'.kd_lt (by decide), a, b, d, d', _, o', rfl, ha, hb, ok, ok', rfl, fun H' s => ⟨_, rfl, q H' s⟩⟩
  | tree es => exact .inr (.inl ⟨a, dx, fs, _, rfl, e, ty, T.first (j := 1) o'.kd_lt (by decide), a, b, d, d', _, o', rfl, ha, hb, ok, ok', rfl, fun H' s => ⟨_, rfl, q H' s⟩⟩)
  | commit t ps au tm msg => exact .inr (.inr (.inl ⟨a, dx, fs, _, rfl, e, ty, T.first (j := 2) o'.kd_lt (by decide), a, b, d, d', _, o', rfl, ha, hb, ok, ok', rfl, fun H' s => ⟨_, rfl, q H' s⟩⟩))
  | tag tg lb msg => exact .inr (.inr (.inr ⟨a, dx, fs, _, rfl, e, ty, T.first (j := 3) o'.kd_lt (by decide), a, b, d, d', _, o', rfl, ha, hb, ok, ok', rfl, fun H' s => ⟨_, rfl, q H' s⟩⟩))
theorem op_obNe {X : Cx} (T : TopO X.K X.mg c CS cX iX ek pd) (hr : Room 2 X.A) : OpR X (compareOp .NotEq) (rObEq X.K c true) := by
  refine op_mono (op_or (op_ownNe (ownM_of (m_Blob_eq T)) hr noEx0 (T.ne 0 (by decide)) (T.ins 0 (by decide)).hm) (op_or (op_ownNe (ownM_of (m_Tree_eq T)) hr noEx0 (T.ne 1 (by decide)) (T.ins 1 (by decide)).hm) (op_or (op_ownNe (ownM_of (m_Commit_eq T)) hr noEx0 (T.ne 2 (by decide)) (T.ins 2 (by decide)).hm) (op_ownNe (ownM_of (m_Tag_eq T)) hr noEx0 (T.ne 3 (by decide)) (T.ins 3 (by decide)).hm)))) fun x y H Q h => ?_
  obtain ⟨a, b, d, d', o, o', rfl, rfl, ha, hb, ok, ok', q⟩ := h
  obtain ⟨dx, fs, e⟩ := ha.ins
  have ty := T.tyx hb
  cases o with
  | blob x => exact .inl ⟨a, dx, fs, _, rfl, e, ty, T.first (j := 0) o'.kd_lt (by decide), a, b, d, d', _, o', rfl, ha, hb, ok, ok', rfl, fun H' s => ⟨_, rfl, q H' s⟩⟩
  | tree es => exact .inr (.inl ⟨a, dx, fs, _, rfl, e, ty, T.first (j := 1) o'.kd_lt (by decide), a, b, d, d', _, o', rfl, ha, hb, ok, ok', rfl, fun H' s => ⟨_, rfl, q H' s⟩⟩)
  | commit t ps au tm msg => exact .inr (.inr (.inl ⟨a, dx, fs, _, rfl, e, ty, T.first (j := 2) o'.kd_lt (by decide), a, b, d, d', _, o', rfl, ha, hb, ok, ok', rfl, fun H' s => ⟨_, rfl, q H' s⟩⟩))
  | tag tg lb msg => exact .inr (.inr (.inr ⟨a, dx, fs, _, rfl, e, ty, T.first (j := 3) o'.kd_lt (by decide), a, b, d, d', _, o', rfl, ha, hb, ok, ok', rfl, fun H' s => ⟨_, rfl, q H' s⟩⟩))
end

end Fk

set_option maxHeartbeats 4000000
/-! A comprehension over the items of a locked dict. -/
namespace Fk
open PySem PySem.Spec PyProof.Rows L2
theorem lc_items {d D : Addr} {od : Obj} {kvs : List (Key × V)} {σ : L2.St} {vs : List Nat} {g : TG} {tt : TT} {te : TE} {Q : Hp → Prop} {H1 : Hp} (f : Nat → V) (hD1 : H1 D = none) (hd : H1 d = some (.frz od (.dK kvs))) (hl : kvs.length ≤ 1000000)
    (hs : ∀ i k v T H, kvs[i]? = some (k, v) → Same H1 H → H T = some (.tup [kV k, v]) → ∀ (N : VK) (M : Hp → Prop), (∀ H3, Same H H3 → N (f i) H3) →
      g (.ref T) (wipe σ vs) H fun σ2 H2 => wipe σ2 vs = wipe σ vs ∧ tt σ2 H2 fun bb H3 => if bb = true then te σ2 H3 N else M H3)
    (hdn : ∀ H, Same H1 H → H D = some (.lst ((List.range kvs.length).map f)) → Q H) :
    ∃ W : Nat → Nat → Hp → Prop, (∃ m, W 0 m (upd H1 D (.lst []))) ∧ ∀ k m H, W k m H →
      ((Iti d od kvs).stop k H ∧ Q H) ∨ ((Iti d od kvs).go k H ∧ ∃ Nx : Hp → Prop, (∀ H', Nx H' → ∃ m', m' < m ∧ W (k + 1) m' H') ∧ ∀ x H', (Iti d od kvs).yld k H x H' → g x (wipe σ vs) H' fun σ2 H2 => wipe σ2 vs = wipe σ vs ∧ tt σ2 H2 fun bb H3 =>
        if bb = true then te σ2 H3 fun y H4 => ∃ acc, H4 D = some (.lst acc) ∧ acc.length < sizeLine ∧ Nx (upd H4 D (.lst (acc ++ [y]))) else Nx H3) := by
  refine ⟨fun k m H => m = kvs.length - k ∧ k ≤ kvs.length ∧ Same H1 H ∧ H D = some (.lst ((List.range k).map f)), ⟨kvs.length, by omega, Nat.zero_le _, same_new hD1, upd_same⟩, ?_⟩
  rintro k m H ⟨rfl, hk, s1, hD⟩
  by_cases hlt : k < kvs.length
  · refine .inr ⟨⟨s1 _ _ hd, hlt⟩, fun H' => Same H1 H' ∧ H' D = some (.lst ((List.range (k + 1)).map f)), fun H' q => ⟨kvs.length - (k + 1), by omega, rfl, hlt, q⟩, fun x H' y => ?_⟩
    obtain ⟨T, u, v, gx, rfl, hT, rfl⟩ := y
    have s2 := same_new (o := .tup [kV u, v]) hT
    refine hs k u v T _ gx (s1.trans s2) upd_same _ _ fun H3 s3 => ⟨_, s3 _ _ (s2 _ _ hD), small_lt (by rw [List.length_map, List.length_range]; omega), fun c o e => ?_, ?_⟩
    · rw [upd_ne (ne_of_none e hD1)]
      exact s3 _ _ (s2 _ _ (s1 _ _ e))
    · rw [upd_same, List.range_succ, List.map_append]
      rfl
  · have e : k = kvs.length := by omega
    subst e
    exact .inl ⟨⟨s1 _ _ hd, Nat.le_refl _⟩, hdn H s1 hD⟩
/-- an f-string's reading, by a name -/
def tJoin (ts : List TE) : TE := fun σ H Q => tJs ts Str.empty σ H fun out H1 => Q (.str out) H1
theorem pe_joinedT {X : Cx} {v1 v2 : Expr} {rest : List Expr} {ts : List TE} {pos : Pos} (h : PJ X (v1 :: v2 :: rest) ts) : PE X (.JoinedStr (v1 :: v2 :: rest) pos) (tJoin ts) := pe_joined h
end Fk

set_option maxHeartbeats 4000000
namespace Fk
open PySem PySem.Spec PyProof.Rows L2
section
variable {P : Program} {w : World} {K : PySem.W.Frag} {mg : Str → Option Value} {base : Heap} {c : C4} {CS cX iX ek pd : Addr}
/-! ### properties -/
theorem getSp_len {C : Addr} {f : Str} (vs : List V) (H : Hp) (Q : VK) (E : XK) (h : getSp C f vs H Q E) : vs.length = 1 := by
  obtain ⟨a, dx, fs, v, rfl, _⟩ := h
  rfl
theorem p_Blob_text (T : TopO K mg c CS cX iX ek pd) : Prp P w K mg base 1 c.B "text" (getSp c.B "_text") := by
  refine prp_of T.cB T.pBtext sc_Blob_text (fun _ _ _ _ _ _ us hl => match us, hl with | [_], _ => rfl) getSp_len (fun f cdv A outer s H vs Q E hr h => ?_)
  obtain ⟨a, dx, fs, v, rfl, ha, hl, q⟩ := h
  refine ⟨_, (pss_one (ps_ret (pe_fld (pv 0) rfl))), ?_⟩
  exact ⟨.ref a, rfl, a, c.B, dx, fs, v, rfl, ha, T.cB, T.nB_text, hl, q⟩
theorem p_Commit_tree (T : TopO K mg c CS cX iX ek pd) : Prp P w K mg base 1 c.C "tree" (getSp c.C "_tree") := by
  refine prp_of T.cC T.pCtree sc_Commit_tree (fun _ _ _ _ _ _ us hl => match us, hl with | [_], _ => rfl) getSp_len (fun f cdv A outer s H vs Q E hr h => ?_)
  obtain ⟨a, dx, fs, v, rfl, ha, hl, q⟩ := h
  refine ⟨_, (pss_one (ps_ret (pe_fld (pv 0) rfl))), ?_⟩
  exact ⟨.ref a, rfl, a, c.C, dx, fs, v, rfl, ha, T.cC, T.nC_tree, hl, q⟩
theorem p_Commit_parents (T : TopO K mg c CS cX iX ek pd) : Prp P w K mg base 1 c.C "parents" (getSp c.C "_parents") := by
  refine prp_of T.cC T.pCparents sc_Commit_parents (fun _ _ _ _ _ _ us hl => match us, hl with | [_], _ => rfl) getSp_len (fun f cdv A outer s H vs Q E hr h => ?_)
  obtain ⟨a, dx, fs, v, rfl, ha, hl, q⟩ := h
  refine ⟨_, (pss_one (ps_ret (pe_fld (pv 0) rfl))), ?_⟩
  exact ⟨.ref a, rfl, a, c.C, dx, fs, v, rfl, ha, T.cC, T.nC_parents, hl, q⟩
theorem p_Commit_author (T : TopO K mg c CS cX iX ek pd) : Prp P w K mg base 1 c.C "author" (getSp c.C "_author") := by
  refine prp_of T.cC T.pCauthor sc_Commit_author (fun _ _ _ _ _ _ us hl => match us, hl with | [_], _ => rfl) getSp_len (fun f cdv A outer s H vs Q E hr h => ?_)
  obtain ⟨a, dx, fs, v, rfl, ha, hl, q⟩ := h
  refine ⟨_, (pss_one (ps_ret (pe_fld (pv 0) rfl))), ?_⟩
  exact ⟨.ref a, rfl, a, c.C, dx, fs, v, rfl, ha, T.cC, T.nC_author, hl, q⟩
theorem p_Commit_time (T : TopO K mg c CS cX iX ek pd) : Prp P w K mg base 1 c.C "time" (getSp c.C "_time") := by
  refine prp_of T.cC T.pCtime sc_Commit_time (fun _ _ _ _ _ _ us hl => match us, hl with | [_], _ => rfl) getSp_len (fun f cdv A outer s H vs Q E hr h => ?_)
  obtain ⟨a, dx, fs, v, rfl, ha, hl, q⟩ := h
  refine ⟨_, (pss_one (ps_ret (pe_fld (pv 0) rfl))), ?_⟩
  exact ⟨.ref a, rfl, a, c.C, dx, fs, v, rfl, ha, T.cC, T.nC_time, hl, q⟩
theorem p_Commit_message (T : TopO K mg c CS cX iX ek pd) : Prp P w K mg base 1 c.C "message" (getSp c.C "_message") := by
  refine prp_of T.cC T.pCmessage sc_Commit_message (fun _ _ _ _ _ _ us hl => match us, hl with | [_], _ => rfl) getSp_len (fun f cdv A outer s H vs Q E hr h => ?_)
  obtain ⟨a, dx, fs, v, rfl, ha, hl, q⟩ := h
  refine ⟨_, (pss_one (ps_ret (pe_fld (pv 0) rfl))), ?_⟩
  exact ⟨.ref a, rfl, a, c.C, dx, fs, v, rfl, ha, T.cC, T.nC_message, hl, q⟩
theorem p_Tag_target (T : TopO K mg c CS cX iX ek pd) : Prp P w K mg base 1 c.G "target" (getSp c.G "_target") := by
  refine prp_of T.cG T.pGtarget sc_Tag_target (fun _ _ _ _ _ _ us hl => match us, hl with | [_], _ => rfl) getSp_len (fun f cdv A outer s H vs Q E hr h => ?_)
  obtain ⟨a, dx, fs, v, rfl, ha, hl, q⟩ := h
  refine ⟨_, (pss_one (ps_ret (pe_fld (pv 0) rfl))), ?_⟩
  exact ⟨.ref a, rfl, a, c.G, dx, fs, v, rfl, ha, T.cG, T.nG_target, hl, q⟩
theorem p_Tag_label (T : TopO K mg c CS cX iX ek pd) : Prp P w K mg base 1 c.G "label" (getSp c.G "_label") := by
  refine prp_of T.cG T.pGlabel sc_Tag_label (fun _ _ _ _ _ _ us hl => match us, hl with | [_], _ => rfl) getSp_len (fun f cdv A outer s H vs Q E hr h => ?_)
  obtain ⟨a, dx, fs, v, rfl, ha, hl, q⟩ := h
  refine ⟨_, (pss_one (ps_ret (pe_fld (pv 0) rfl))), ?_⟩
  exact ⟨.ref a, rfl, a, c.G, dx, fs, v, rfl, ha, T.cG, T.nG_label, hl, q⟩
theorem p_Tag_message (T : TopO K mg c CS cX iX ek pd) : Prp P w K mg base 1 c.G "message" (getSp c.G "_message") := by
  refine prp_of T.cG T.pGmessage sc_Tag_message (fun _ _ _ _ _ _ us hl => match us, hl with | [_], _ => rfl) getSp_len (fun f cdv A outer s H vs Q E hr h => ?_)
  obtain ⟨a, dx, fs, v, rfl, ha, hl, q⟩ := h
  refine ⟨_, (pss_one (ps_ret (pe_fld (pv 0) rfl))), ?_⟩
  exact ⟨.ref a, rfl, a, c.G, dx, fs, v, rfl, ha, T.cG, T.nG_message, hl, q⟩
def spEntries (c : C4) : Sp := fun vs H Q _ => ∃ (a dx d : Addr) (kvs : List (Key × V)), vs = [.ref a] ∧ H a = some (.ins c.T dx [("_entries", .ref d)]) ∧ H d = some (.dK kvs) ∧ ∀ p, H p = none → Q (.ref p) (upd H p (.dK kvs))
theorem p_Tree_entries (T : TopO K mg c CS cX iX ek pd) : Prp P w K mg base 1 c.T "entries" (spEntries c) := by
  refine prp_of T.cT T.pTentries sc_Tree_entries (fun _ _ _ _ _ _ us hl => match us, hl with | [_], _ => rfl) (fun vs H Q E h => ?_) (fun f cdv A outer s H vs Q E hr h => ?_)
  · obtain ⟨a, dx, d, kvs, rfl, _⟩ := h
    rfl
  · obtain ⟨a, dx, d, kvs, rfl, ha, hd, q⟩ := h
    refine ⟨_, (pss_one (ps_ret (pe_callTy call_dictD (by rfl) T.z_dict (by decide +kernel) (pa_cons (pe_fld (pv 0) rfl) pa_nil)))), ?_⟩
    exact ⟨.ref a, rfl, a, c.T, dx, _, _, rfl, ha, T.cT, T.nT_entries, rfl, d, kvs, rfl, .inl hd, q⟩
/-! ### bytes -/
theorem EntsAt.at {H : Hp} : ∀ {t : Tab} {es : List Ent}, EntsAt K H t es → ∀ {i : Nat} {k : Key} {v : V}, (kT t)[i]? = some (k, v) → ∃ e, es[i]? = some e ∧ k = .inr e.1 ∧ ∃ q, v = .ref q ∧ TupK K H q (entL e)
  | _, _, .nil, i, k, v, h => by cases i <;> cases h
  | _, _, .cons (a := p) (b := e) ⟨e1, q, e2, e3⟩ r, 0, k, v, h => by
    cases h
    exact ⟨e, rfl, by show Sum.inr p.1 = _; rw [e1], q, e2, e3⟩
  | _, _, .cons (a := p) (b := e) _ r, i + 1, k, v, h => EntsAt.at r (i := i) h
def spEnc (K : PySem.W.Frag) (c : C4) : Sp := fun vs H Q _ => ∃ (a d : Addr) (o : Ob), vs = [.ref a] ∧ ObAt K c H a d o ∧ o.ok ∧ ∀ H', Same H H' → Q (.byt (byts (encF o))) H'
theorem c_encode (T : TopO K mg c CS cX iX ek pd) : C8.Cal P w K mg base 3 "encode" (spEnc K c) [] := by
  refine cal_of T.d_encode sc_encode (fun _ _ _ _ _ _ us hl => match us, hl with | [_], _ => rfl) (fun vs H Q E h => ?_) (fun f cdv A outer s H vs Q E hr h => ?_)
  · obtain ⟨a, d, o, rfl, _⟩ := h
    rfl
  · obtain ⟨a, d, o, rfl, ha, ok, q⟩ := h
    have ax := enc_ax ok
    have ln := enc_len ok
    refine ⟨_, (pss_cons (ps_if (pt_val (pe_callB call_isi (by rfl) T.z_isinstance (by decide +kernel) (pa_cons (pv 0) (pa_cons (C8.pe_gc (by rfl) T.g_Blob) pa_nil))))
      (pss_one (ps_ret (pe_bm PySem.F.plainAttrs_str PySem.F.slot_str_encode PySem.F.type_str_encode mt_ascii (pe_op op_add_str pe_str (pe_pr (p_Blob_text T) hr (by decide) (pv 0))) (pa_cons pe_str pa_nil))))
      pss_nil)
      (pss_cons (ps_if (pt_val (pe_callB call_isi (by rfl) T.z_isinstance (by decide +kernel) (pa_cons (pv 0) (pa_cons (C8.pe_gc (by rfl) T.g_Tree) pa_nil))))
      (pss_cons (ps_setLc (i := 1) (own := [("segment", 2), ("kind", 3), ("name", 4)]) (g := _) (by rfl) sc_encode.nd rfl rfl (sw_true rfl rfl rfl (by decide +kernel)) (pi_items (pe_locked (pe_pr (p_Tree_entries T) hr (by decide) (pv 0)))) (blkOk_by (own := [("segment", 2), ("kind", 3), ("name", 4)]) (N := ["thing", "lines", "segment", "kind", "name", "parents", "head"]) (sc := C8.fnScope s_encode) (by decide +kernel)) (fun _ _ _ _ _ => (pg_tupK (K := K) (n := 2) rfl rfl (pgs_cons (pg_name (i := 2) sc_encode.nd rfl (Or.inl rfl)) (pgs_cons (pg_tupK (K := K) (n := 2) rfl rfl (pgs_cons (pg_name (i := 3) sc_encode.nd rfl (Or.inl rfl)) (pgs_cons (pg_name (i := 4) sc_encode.nd rfl (Or.inl rfl)) pgs_nil))) pgs_nil)))) (fun _ _ _ _ _ => pts_nil) (fun _ _ _ _ _ => (pe_joinedT (.cons (pe_fmt (pv 3)) (.cons pe_str (.cons (pe_fmt (pv 2)) (.cons pe_str (.cons (pe_fmt (pv 4)) (.cons pe_str .nil)))))))))
      (pss_one (ps_ret (pe_bm PySem.F.plainAttrs_str PySem.F.slot_str_encode PySem.F.type_str_encode mt_ascii (pe_op op_add_str pe_str (pe_join pe_str (pv 1))) (pa_cons pe_str pa_nil)))))
      pss_nil)
      (pss_cons (ps_if (pt_val (pe_callB call_isi (by rfl) T.z_isinstance (by decide +kernel) (pa_cons (pv 0) (pa_cons (C8.pe_gc (by rfl) T.g_Commit) pa_nil))))
      (pss_cons (ps_set (i := 5) sc_encode.nd rfl (Or.inl rfl) (pe_join pe_str (pe_lc (own := [("name", 4)]) (g := gName 4) (by rfl) sc_encode.nd (pi_tup (pe_pr (p_Commit_parents T) hr (by decide) (pv 0))) (blkOk_by (own := [("name", 4)]) (N := ["thing", "lines", "segment", "kind", "name", "parents", "head"]) (sc := C8.fnScope s_encode) (by decide +kernel)) (fun _ _ _ _ _ => (pg_name (i := 4) sc_encode.nd rfl (Or.inl rfl))) (fun _ _ _ _ _ => pts_nil) (fun _ _ _ _ _ => (pe_joinedT (.cons pe_str (.cons (pe_fmt (pv 4)) (.cons pe_str .nil))))))))
      (pss_cons (ps_set (i := 6) sc_encode.nd rfl (Or.inl rfl) (pe_joinedT (.cons pe_str (.cons (pe_fmt (pe_pr (p_Commit_tree T) hr (by decide) (pv 0))) (.cons pe_str (.cons (pe_fmt (pv 5)) (.cons pe_str (.cons (pe_fmt (pe_pr (p_Commit_author T) hr (by decide) (pv 0))) (.cons pe_str (.cons (pe_fmt (pe_pr (p_Commit_time T) hr (by decide) (pv 0))) (.cons pe_str .nil)))))))))))
      (pss_one (ps_ret (pe_bm PySem.F.plainAttrs_str PySem.F.slot_str_encode PySem.F.type_str_encode mt_ascii (pe_op op_add_str (pv 6) (pe_pr (p_Commit_message T) hr (by decide) (pv 0))) (pa_cons pe_str pa_nil))))))
      pss_nil)
      (pss_cons (ps_if (pt_val (pe_callB call_isi (by rfl) T.z_isinstance (by decide +kernel) (pa_cons (pv 0) (pa_cons (C8.pe_gc (by rfl) T.g_Tag) pa_nil))))
      (pss_one (ps_ret (pe_bm PySem.F.plainAttrs_str PySem.F.slot_str_encode PySem.F.type_str_encode mt_ascii (pe_joinedT (.cons pe_str (.cons (pe_fmt (pe_pr (p_Tag_target T) hr (by decide) (pv 0))) (.cons pe_str (.cons (pe_fmt (pe_pr (p_Tag_label T) hr (by decide) (pv 0))) (.cons pe_str (.cons (pe_fmt (pe_pr (p_Tag_message T) hr (by decide) (pv 0))) .nil))))))) (pa_cons pe_str pa_nil))))
      pss_nil)
      (pss_one ps_never))))), ?_⟩
    refine ⟨.ref a, rfl, ?_⟩
    dsimp only [tCons, tC, tNil]
    refine T.isi (j := 0) ha (by decide) ⟨_, rfl, ?_⟩
    cases o with
    | blob x =>
      obtain ⟨dx, ha⟩ := ha
      have ln : (("blob\n" : Str) ++ x).length ≤ 3000 := ln
      rw [len_app] at ln
      exact iteT ⟨.ref a, rfl, a, dx, _, rfl, ha, a, dx, _, .str x, rfl, ha, rfl, _, _, rfl, rfl, small_line (by omega), rfl, _, rfl, rfl, ax, by rw [len_app]; omega, q H (Same.refl H)⟩
    | tree es =>
      refine iteF ⟨.ref a, rfl, ?_⟩
      dsimp only [tCons, tC, tNil]
      refine T.isi (j := 1) ha (by decide) ⟨_, rfl, iteT ?_⟩
      obtain ⟨dx, t, ha, hd, hE⟩ := ha
      refine ⟨.ref a, rfl, a, dx, _, rfl, ha, a, dx, d, kT t, rfl, ha, hd, fun p hp => ⟨p, _, rfl, upd_same, trivial, fun od => ⟨p, od, kT t, rfl, upd_same, fun D hD => ?_⟩⟩⟩
      have sL : Same H (upd (upd H p (.dK (kT t))) p (.frz od (.dK (kT t)))) := fun b o z => by
        have n := ne_of_none z hp
        rw [upd_ne n, upd_ne n]
        exact z
      have hL : (upd (upd H p (.dK (kT t))) p (.frz od (.dK (kT t)))) p = some (.frz od (.dK (kT t))) := upd_same
      generalize upd (upd H p (.dK (kT t))) p (.frz od (.dK (kT t))) = HL at sL hL hD
      have lt : (kT t).length = es.length := by
        rw [len_kT]
        have := congrArg List.length hE.keys
        rwa [List.length_map, List.length_map] at this
      refine lc_items (fun i => .str ((es.map rowF).getD i ("" : Str))) hD hL (by have := ok.1; omega) (fun i k v T1 H2 hi s2 hT N M hN => ?_) (fun H2 s2 h2 => ?_)
      · obtain ⟨e, he, ek', q0, ev, et⟩ := hE.at hi
        have et2 := et.keep (TupKeep.of (sL.trans s2))
        rw [ek', ev] at hT
        have hm : e ∈ es := List.mem_of_getElem? he
        have ro := row_len (ok.2.2.2 e hm)
        have e1 : (es.map rowF).getD i ("" : Str) = rowF e := by
          rw [List.getD_eq_getElem?_getD, List.getElem?_map, he]
          rfl
        rw [e1] at hN
        unfold rowF at ro hN
        simp only [len_app, empty_len] at ro
        exact ⟨T1, _, rfl, SqT.of hT, rfl, _, _, rfl, _, _, rfl, q0, _, rfl, et2.sq, rfl, _, _, rfl, _, _, rfl, rfl, rfl, rfl, yes_ ⟨_, rfl, .inl ⟨_, rfl, small_line (by first | omega | (simp only [len_app, empty_len]; omega)), _, rfl, small_line (by first | omega | (simp only [len_app, empty_len]; omega)), _, rfl, small_line (by first | omega | (simp only [len_app, empty_len]; omega)), _, rfl, .inl ⟨_, rfl, small_line (by first | omega | (simp only [len_app, empty_len]; omega)), _, rfl, small_line (by first | omega | (simp only [len_app, empty_len]; omega)), _, rfl, small_line (by first | omega | (simp only [len_app, empty_len]; omega)), _, rfl, .inl ⟨_, rfl, small_line (by first | omega | (simp only [len_app, empty_len]; omega)), _, rfl, small_line (by first | omega | (simp only [len_app, empty_len]; omega)), _, rfl, small_line (by first | omega | (simp only [len_app, empty_len]; omega)), hN H2 (Same.refl H2)⟩⟩⟩⟩⟩
      · have e2 : (List.range (kT t).length).map (fun i => V.str ((es.map rowF).getD i ("" : Str))) = (es.map rowF).map V.str := by
          rw [lt]
          refine List.ext_getElem (by simp) fun i h1 h2 => ?_
          simp only [List.length_map, List.length_range] at h1 h2
          simp [List.getD_eq_getElem?_getD, h1]
        rw [e2] at h2
        have ln : (("tree\n" : Str) ++ Txt.join ("" : Str) (es.map rowF)).length ≤ 3000 := ln
        rw [len_app] at ln
        have s0 : ("" : Str).length = 0 := by decide +kernel
        have rl := sum_most 35 (es.map rowF) fun p hp => by
          obtain ⟨e, he, rfl⟩ := List.mem_map.mp hp
          exact row_len (ok.2.2.2 e he)
        rw [List.length_map] at rl
        have := ok.1
        exact ⟨⟨_, rfl⟩, .ref D, rfl, ("" : Str), D, es.map rowF, rfl, rfl, .inl (SqL.of h2), small_line (by rw [s0]; omega), _, _, rfl, rfl, small_line (by omega), rfl, _, rfl, rfl, ax, by rw [len_app]; omega, q H2 (sL.trans s2)⟩
    | commit t ps au tm msg =>
      obtain ⟨o1, o2, o3, o4, o5, o6, o7, o8, o9⟩ := ok
      refine iteF ⟨.ref a, rfl, ?_⟩
      dsimp only [tCons, tC, tNil]
      refine T.isi (j := 1) ha (by decide) ⟨_, rfl, iteF ⟨.ref a, rfl, ?_⟩⟩
      dsimp only [tCons, tC, tNil]
      refine T.isi (j := 2) ha (by decide) ⟨_, rfl, iteT ?_⟩
      obtain ⟨dx, p, ha, hp⟩ := ha
      refine ⟨⟨_, rfl⟩, .ref a, rfl, a, dx, _, rfl, ha, a, dx, _, .ref p, rfl, ha, rfl, p, rfl, ⟨_, hp.sq⟩, fun D hD => ?_⟩
      refine lc_pure (i := 4) (us := ps) (g := V.str) yields_tup (fun u => .str (parF u)) (fun _ => true) hD (fun H s => (hp.keep (TupKeep.of s)).sq) (fun H u _ hu R r => r H (Same.refl H))
        (fun H u _ hu _ R r => ?_) (by omega) (fun H2 s2 h2 => ?_)
      · have pl := par_len (o4 u hu)
        have r := r H (Same.refl H)
        unfold parF at pl r
        simp only [len_app, empty_len] at pl
        exact ⟨_, rfl, small_line (by first | omega | (simp only [len_app, empty_len]; omega)), _, rfl, .inl ⟨_, rfl, small_line (by first | omega | (simp only [len_app, empty_len]; omega)), _, rfl, small_line (by first | omega | (simp only [len_app, empty_len]; omega)), _, rfl, small_line (by first | omega | (simp only [len_app, empty_len]; omega)), r⟩⟩
      · rw [filt_all] at h2
        have e2 : (ps.map fun u => V.str (parF u)) = (ps.map parF).map V.str := by rw [List.map_map]; rfl
        rw [e2] at h2
        have s0 : ("" : Str).length = 0 := by decide +kernel
        have pl := pars_len o4 o2
        have ha2 := s2 _ _ ha
        have hl := head_len o1 o4 o2 o5 o6 o7
        have ax : AsX (headF t ps au tm ++ msg) := ax
        have q := q H2 s2
        have q : Q (.byt (byts (headF t ps au tm ++ msg))) H2 := q
        have tl : tm.natAbs.log2 < 1920 := PySem.Flt.log2_lt_of (k := 1920) (by decide) (by omega)
        have sl := sum_most 24 (ps.map parF) fun p hp => by
          obtain ⟨e, he, rfl⟩ := List.mem_map.mp hp
          rw [par_len (o4 e he)]
          exact Nat.le_refl _
        rw [List.length_map] at sl
        refine ⟨("" : Str), D, ps.map parF, rfl, rfl, .inl (SqL.of h2), small_line (by rw [s0]; omega), ?_⟩
        have fin : ∀ H3 : Hp, H3 = H2 → True := fun _ _ => trivial
        unfold headF at hl q ax
        generalize Txt.join ("" : Str) (ps.map parF) = J at hl q ax
        simp only [len_app, empty_len] at hl
        refine ⟨_, rfl, small_line (by first | omega | (simp only [len_app, empty_len]; omega)), .ref a, rfl, a, dx, _, rfl, ha2, a, dx, _, .str t, rfl, ha2, rfl, .inl ⟨_, rfl, small_line (by first | omega | (simp only [len_app, empty_len]; omega)), _, rfl, small_line (by first | omega | (simp only [len_app, empty_len]; omega)), _, rfl, small_line (by first | omega | (simp only [len_app, empty_len]; omega)), _, rfl, .inl ⟨_, rfl, small_line (by first | omega | (simp only [len_app, empty_len]; omega)), _, rfl, small_line (by first | omega | (simp only [len_app, empty_len]; omega)), _, rfl, small_line (by first | omega | (simp only [len_app, empty_len]; omega)), .ref a, rfl, a, dx, _, rfl, ha2, a, dx, _, .str au, rfl, ha2, rfl, .inl ⟨_, rfl, small_line (by first | omega | (simp only [len_app, empty_len]; omega)), _, rfl, small_line (by first | omega | (simp only [len_app, empty_len]; omega)), _, rfl, small_line (by first | omega | (simp only [len_app, empty_len]; omega)), .ref a, rfl, a, dx, _, rfl, ha2, a, dx, _, .int tm, rfl, ha2, rfl, .inr ⟨tm, rfl, tl, _, rfl, small_line (by first | omega | (simp only [len_app, empty_len]; omega)), _, rfl, small_line (by first | omega | (simp only [len_app, empty_len]; omega)), ?_⟩⟩⟩⟩⟩
        exact ⟨_, rfl, .ref a, rfl, a, dx, _, rfl, ha2, a, dx, _, .str msg, rfl, ha2, rfl, _, _, rfl, rfl, small_line (by first | omega | (simp only [len_app, empty_len]; omega)), rfl, _, rfl, rfl, ax, by simp only [len_app, empty_len]; omega, q⟩
    | tag tg lb msg =>
      obtain ⟨o1, o2, o8, o9⟩ := ok
      refine iteF ⟨.ref a, rfl, ?_⟩
      dsimp only [tCons, tC, tNil]
      refine T.isi (j := 1) ha (by decide) ⟨_, rfl, iteF ⟨.ref a, rfl, ?_⟩⟩
      dsimp only [tCons, tC, tNil]
      refine T.isi (j := 2) ha (by decide) ⟨_, rfl, iteF ⟨.ref a, rfl, ?_⟩⟩
      dsimp only [tCons, tC, tNil]
      refine T.isi (j := 3) ha (by decide) ⟨_, rfl, iteT ?_⟩
      obtain ⟨dx, ha⟩ := ha
      have ln : (tagF tg lb msg).length ≤ 3000 := ln
      have ax : AsX (tagF tg lb msg) := ax
      have q : Q (.byt (byts (tagF tg lb msg))) H := q H (Same.refl H)
      unfold tagF at ln ax q
      simp only [len_app, empty_len] at ln
      exact ⟨_, rfl, small_line (by first | omega | (simp only [len_app, empty_len]; omega)), .ref a, rfl, a, dx, _, rfl, ha, a, dx, _, .str tg, rfl, ha, rfl, .inl ⟨_, rfl, small_line (by first | omega | (simp only [len_app, empty_len]; omega)), _, rfl, small_line (by first | omega | (simp only [len_app, empty_len]; omega)), _, rfl, small_line (by first | omega | (simp only [len_app, empty_len]; omega)), .ref a, rfl, a, dx, _, rfl, ha, a, dx, _, .str lb, rfl, ha, rfl, .inl ⟨_, rfl, small_line (by first | omega | (simp only [len_app, empty_len]; omega)), _, rfl, small_line (by first | omega | (simp only [len_app, empty_len]; omega)), _, rfl, small_line (by first | omega | (simp only [len_app, empty_len]; omega)), .ref a, rfl, a, dx, _, rfl, ha, a, dx, _, .str msg, rfl, ha, rfl, .inl ⟨_, rfl, small_line (by first | omega | (simp only [len_app, empty_len]; omega)), _, rfl, small_line (by first | omega | (simp only [len_app, empty_len]; omega)), rfl, _, rfl, rfl, ax, by simp only [len_app, empty_len]; omega, q⟩⟩⟩⟩
end

end Fk

set_option maxHeartbeats 4000000
namespace Fk
open PySem PySem.Spec PyProof.Rows L2
/-! ### what stays -/
/-- tuples, instances, dicts stay -/
structure Kp (H H' : Hp) : Prop where
  t : TupKeep H H'
  i : InsKeep H H'
  d : ∀ b u, H b = some (.dK u) → H' b = some (.dK u)
theorem Kp.same {H H' : Hp} (s : Same H H') : Kp H H' := ⟨TupKeep.of s, InsKeep.of s, fun _ _ e => s _ _ e⟩
theorem Kp.trans {H H1 H2 : Hp} (x : Kp H H1) (y : Kp H1 H2) : Kp H H2 := ⟨x.t.trans y.t, x.i.trans y.i, fun _ _ e => y.d _ _ (x.d _ _ e)⟩
theorem Kp.wl {H H' : Hp} {w : Addr} {c : Int} (hw : Wl H w c) (f : Fr w H H') : Kp H H' := by
  obtain ⟨_, x, y, e⟩ := hw
  exact ⟨f.tups e, f.inss e, fun _ _ z => f.dict e z⟩
theorem Kp.lst {H : Hp} {a : Addr} {l : List V} {o : HO} (h : H a = some (.lst l)) : Kp H (upd H a o) := by
  have f : Fr a H (upd H a o) := Fr.at
  exact ⟨f.tups h, f.inss h, fun _ _ z => f.dict h z⟩
theorem ObAt.kp {K : PySem.W.Frag} {c : C4} {H H' : Hp} {a d : Addr} {o : Ob} (h : ObAt K c H a d o) (k : Kp H H') : ObAt K c H' a d o := h.keep k.t k.i fun _ e => k.d _ _ e
/-! ### entries -/
theorem paired_app {α β : Type} {R : α → β → Prop} : ∀ {l l' : List α} {m m' : List β}, Paired R l m → Paired R l' m' → Paired R (l ++ l') (m ++ m')
  | _, _, _, _, .nil, h => h
  | _, _, _, _, .cons a b, h => .cons a (paired_app b h)
theorem paired_map2 {α β : Type} {R S : α → β → Prop} {f : α → α} {g : β → β} (h : ∀ a b, R a b → S (f a) (g b)) : ∀ {l : List α} {m : List β}, Paired R l m → Paired S (l.map f) (m.map g)
  | _, _, .nil => .nil
  | _, _, .cons a b => .cons (h _ _ a) (paired_map2 h b)
theorem any_keys {β : Type} (l : List (Str × β)) (x : Str) : (l.any fun kv => decide (kv.1 = x)) = (l.map (·.1)).any fun y => decide (y = x) := by
  rw [List.any_map]
  rfl
def putE (es : List Ent) (x : Str) (v : Str × Str) : List Ent := if (es.any fun kv => decide (kv.1 = x)) = true then es.map (fun kv => if kv.1 = x then (kv.1, v) else kv) else es ++ [(x, v)]
theorem ents_put {K : PySem.W.Frag} {H : Hp} {t : Tab} {es : List Ent} (h : EntsAt K H t es) {x kd i : Str} {q : Addr} (hq : TupK K H q [.str kd, .str i]) : EntsAt K H (putK t x (.ref q)) (putE es x (kd, i)) := by
  have e : (t.any fun kv => decide (kv.1 = x)) = es.any fun kv => decide (kv.1 = x) := by rw [any_keys, any_keys, h.keys]
  unfold putK putE
  rw [e]
  split
  · refine paired_map2 (fun a b ⟨e1, r, e2, e3⟩ => ?_) h
    rw [e1]
    split
    · exact ⟨rfl, q, rfl, hq⟩
    · exact ⟨e1, r, e2, e3⟩
  · exact paired_app h (.cons ⟨rfl, q, rfl, hq⟩ .nil)
theorem mem_putE {es : List Ent} {x : Str} {v : Str × Str} {e : Ent} (h : e ∈ putE es x v) : e ∈ es ∨ e = (x, v) := by
  unfold putE at h
  split at h
  · obtain ⟨f, hf, rfl⟩ := List.mem_map.mp h
    split
    · next z => exact .inr (by rw [z])
    · exact .inl hf
  · rcases List.mem_append.mp h with h | h
    · exact .inl h
    · exact .inr (List.mem_singleton.mp h)
theorem valV_self {t : Tab} (n : Nd t) {e : Str × V} (h : e ∈ t) : valV t e.1 = some e.2 := by
  induction t with
  | nil => cases h
  | cons f r ih =>
    obtain ⟨n1, n2⟩ := List.nodup_cons.mp (show (f.1 :: r.map (·.1)).Nodup from n)
    rw [show f = (f.1, f.2) from rfl]
    rcases List.mem_cons.mp h with z | z
    · rw [z]
      exact valV_pos rfl
    · rw [valV_neg (fun c => n1 (by rw [c]; exact List.mem_map.mpr ⟨e, z, rfl⟩))]
      exact ih n2 z
section
variable {P : Program} {w : World} {K : PySem.W.Frag} {mg : Str → Option Value} {base : Heap} {c : C4} {CS cX iX ek pd : Addr}
theorem mk_blob {x : Str} {H : Hp} {R : Hp → Prop} {a dx : Addr} (hx : isTextF x = true) (ha : H a = none) (hd : H dx = none) (q : ∀ H', Same H H' → ObAt K c H' a a (.blob x) → R H') :
    spBlobI c [.ref a, .str x] (upd (upd H dx (.own a)) a (.ins c.B dx [])) (fun v H2 => v = .non ∧ R H2) C8.E0 :=
  ⟨a, dx, x, rfl, upd_same, hx, fun H' f e => ⟨rfl, q H' (made_same ha hd f) ⟨dx, e⟩⟩⟩
theorem mk_tag {tg lb msg : Str} {H : Hp} {R : Hp → Prop} {a dx : Addr} (ok : Ob.ok (.tag tg lb msg)) (ha : H a = none) (hd : H dx = none) (q : ∀ H', Same H H' → ObAt K c H' a a (.tag tg lb msg) → R H') :
    spTagI c [.ref a, .str tg, .str lb, .str msg] (upd (upd H dx (.own a)) a (.ins c.G dx [])) (fun v H2 => v = .non ∧ R H2) C8.E0 :=
  ⟨a, dx, tg, lb, msg, rfl, upd_same, ok, fun H' f e => ⟨rfl, q H' (made_same ha hd f) ⟨dx, e⟩⟩⟩
theorem mk_commit {p : Addr} {t : Str} {ps : List Str} {au : Str} {tm : Int} {msg : Str} {H : Hp} {R : Hp → Prop} {a dx : Addr} (hp : TupK K H p (ps.map V.str)) (ok : Ob.ok (.commit t ps au tm msg)) (ha : H a = none) (hd : H dx = none) (q : ∀ H', Same H H' → ObAt K c H' a a (.commit t ps au tm msg) → R H') :
    spCommitI K c [.ref a, .str t, .ref p, .str au, .int tm, .str msg] (upd (upd H dx (.own a)) a (.ins c.C dx [])) (fun v H2 => v = .non ∧ R H2) C8.E0 :=
  ⟨a, dx, p, t, ps, au, tm, msg, rfl, upd_same, hp.keep (TupKeep.of (made_same ha hd (Fr.refl _ _))), ok, fun H' f e => ⟨rfl, q H' (made_same ha hd f) ⟨dx, p, e, hp.keep (TupKeep.of (made_same ha hd f))⟩⟩⟩
theorem mk_tree {e : Addr} {t : Tab} {es : List Ent} {H : Hp} {R : Hp → Prop} {a dx : Addr} (he : H e = some (.dK (kT t))) (hE : EntsAt K H t es) (hl : es.length ≤ 30) (nd : (es.map (·.1)).Nodup) (ok : ∀ x ∈ es, EntOk x) (ha : H a = none) (hd : H dx = none)
    (q : ∀ d es' H', H d = none → Same H H' → es'.Perm es → Ob.ok (.tree es') → ObAt K c H' a d (.tree es') → R H') :
    spTreeI K c [.ref a, .ref e] (upd (upd H dx (.own a)) a (.ins c.T dx [])) (fun v H2 => v = .non ∧ R H2) C8.E0 := by
  have s1 : Same H (upd (upd H dx (.own a)) a (.ins c.T dx [])) := made_same ha hd (Fr.refl _ _)
  exact ⟨a, e, dx, t, es, rfl, upd_same, s1 _ _ he, hE.keep (TupKeep.of s1), hl, nd, ok, fun d t' es' H' hd' f h1 h2 h3 hp hok => ⟨rfl, q d es' H' (s1.free hd') (made_same ha hd f) hp hok ⟨dx, t', h1, h2, h3⟩⟩⟩
theorem paired_rev {α β : Type} {R : α → β → Prop} : ∀ {l : List α} {m : List β}, Paired R l m → Paired R l.reverse m.reverse
  | _, _, .nil => .nil
  | _, _, .cons h r => by
    rw [List.reverse_cons, List.reverse_cons]
    exact paired_app (paired_rev r) (.cons h .nil)
theorem ents_same {es fs : List Ent} (h : EntsOk es) (k : EntsOk fs) (p : fs.Perm es) : fs = es :=
  ents_eq (sort_uniq k.2.2.1 h.2.2.1 (p.map _)) h.2.1 fun e he => p.mem_iff.mp he
end

end Fk

set_option maxHeartbeats 4000000
/-! A walk over bytes in a comprehension; lists of numbers and of truth values as data. -/
namespace Fk
open PySem PySem.Spec PyProof.Rows L2
theorem yields_byt (x : Array UInt8) : Yields (Itb x) (x.toList.map fun c => V.int ((c.toNat : Nat) : Int)) (fun _ => True) where
  go := fun k H _ h => by
    rw [List.length_map] at h
    exact (by simpa using h : k < x.size)
  stop := fun H _ => by
    show x.size ≤ _
    simp
  yld := fun k H v H' _ _ h => by
    obtain ⟨e, c, hc, hv⟩ := h
    refine ⟨e, ?_⟩
    rw [List.getElem?_map, Array.getElem?_toList, hc, hv]
    rfl
theorem dpAll_ints {K : PySem.W.Frag} {H : Hp} : ∀ ns : List Int, DpAll K H (ns.map V.int) (ns.map PyData.int)
  | [] => .nil
  | n :: ns => .cons (.int n) (dpAll_ints ns)
theorem dpAll_bools {K : PySem.W.Frag} {H : Hp} : ∀ ns : List Bool, DpAll K H (ns.map V.bl) (ns.map PyData.bool)
  | [] => .nil
  | n :: ns => .cons (.bl n) (dpAll_bools ns)
theorem eqv_self_ints : ∀ ns : List Int, PyData.eqvAll (ns.map PyData.int) (ns.map PyData.int) = true
  | [] => rfl
  | n :: ns => by
    show (PyData.eqv (.int n) (.int n) && PyData.eqvAll _ _) = true
    rw [eqv_self_ints ns]
    simp [PyData.eqv]
theorem eqv_self_bools : ∀ ns : List Bool, PyData.eqvAll (ns.map PyData.bool) (ns.map PyData.bool) = true
  | [] => rfl
  | n :: ns => by
    show (PyData.eqv (.bool n) (.bool n) && PyData.eqvAll _ _) = true
    rw [eqv_self_bools ns]
    simp [PyData.eqv]
theorem lay_ints : ∀ ns : List Int, PyData.canLayAll0 (ns.map PyData.int) = true
  | [] => rfl
  | n :: ns => by
    show (PyData.canLay0 (.int n) && PyData.canLayAll0 _) = true
    rw [lay_ints ns]
    rfl
theorem lay_bools : ∀ ns : List Bool, PyData.canLayAll0 (ns.map PyData.bool) = true
  | [] => rfl
  | n :: ns => by
    show (PyData.canLay0 (.bool n) && PyData.canLayAll0 _) = true
    rw [lay_bools ns]
    rfl
theorem depth_ints : ∀ ns : List Int, PyData.depthAll (ns.map PyData.int) = 0
  | [] => rfl
  | _ :: r => by simp [PyData.depthAll, PyData.depth, depth_ints r]
theorem depth_bools : ∀ ns : List Bool, PyData.depthAll (ns.map PyData.bool) = 0
  | [] => rfl
  | _ :: r => by simp [PyData.depthAll, PyData.depth, depth_bools r]
theorem shaped_ints (ns : List Int) : SeqAt.shaped (.list (ns.map PyData.int)) = true := by simp [SeqAt.shaped, PyData.canLay0, PyData.depth, lay_ints, depth_ints]
theorem shaped_bools (ns : List Bool) : SeqAt.shaped (.list (ns.map PyData.bool)) = true := by simp [SeqAt.shaped, PyData.canLay0, PyData.depth, lay_bools, depth_bools]
theorem eqv_ints (ns : List Int) : PyData.eqv (.list (ns.map PyData.int)) (.list (ns.map PyData.int)) = true := by
  show PyData.eqvAll _ _ = true
  exact eqv_self_ints ns
theorem eqv_bools (ns : List Bool) : PyData.eqv (.list (ns.map PyData.bool)) (.list (ns.map PyData.bool)) = true := by
  show PyData.eqvAll _ _ = true
  exact eqv_self_bools ns
end Fk

set_option maxHeartbeats 4000000
/-! Texts by their rows: words of a row, what is wrong with the lines of an object. -/
namespace Fk
open PySem PySem.Spec PyProof.Rows L2
theorem nl_one : TL.tl ("\n" : Str) = [10] := by decide +kernel
theorem sp_one : TL.tl (" " : Str) = [32] := by decide +kernel
theorem em_one : TL.tl ("" : Str) = [] := by decide +kernel
theorem tl_len0 {x : Str} : TL.tl x = [] ↔ x = "" := ⟨fun h => str_ext (by rw [show x.cps.toList = [] from h]; exact em_one.symm), fun h => by rw [h]; exact em_one⟩
/-! ### rows -/
def Row (r : Str) : Prop := 10 ∉ TL.tl r
def flatL (ls : List Str) : List Nat := (ls.map fun r => TL.tl r ++ [10]).flatten
def flen (ls : List Str) : Nat := (flatL ls).length
theorem flat_cons (r : Str) (ls : List Str) : flatL (r :: ls) = TL.tl r ++ 10 :: flatL ls := by simp [flatL]
theorem flat_app (a b : List Str) : flatL (a ++ b) = flatL a ++ flatL b := by simp [flatL]
theorem flen_cons (r : Str) (ls : List Str) : flen (r :: ls) = r.length + 1 + flen ls := by
  unfold flen
  rw [flat_cons, List.length_append, List.length_cons, TL.len_tl]
  omega
theorem flen_app (a b : List Str) : flen (a ++ b) = flen a + flen b := by
  unfold flen
  rw [flat_app, List.length_append]
theorem flen_nil : flen [] = 0 := rfl
theorem rows_of (L : List Nat) : ∃ (ls : List Str) (t : Str), L = flatL ls ++ TL.tl t ∧ (∀ r ∈ ls, Row r) ∧ Row t := by
  induction L with
  | nil => exact ⟨[], ⟨#[]⟩, rfl, fun r h => (List.not_mem_nil h).elim, List.not_mem_nil⟩
  | cons c L ih =>
    obtain ⟨ls, t, e, h1, h2⟩ := ih
    by_cases hc : c = 10
    · refine ⟨⟨#[]⟩ :: ls, t, ?_, fun r hr => ?_, h2⟩
      · rw [flat_cons, e, hc]
        rfl
      · rcases List.mem_cons.mp hr with rfl | hr
        · exact List.not_mem_nil
        · exact h1 r hr
    · cases ls with
      | nil =>
        refine ⟨[], ⟨(c :: TL.tl t).toArray⟩, ?_, h1, fun z => ?_⟩
        · rw [e]
          rfl
        · rcases List.mem_cons.mp (show 10 ∈ c :: TL.tl t from z) with z | z
          · exact hc z.symm
          · exact h2 z
      | cons r rs =>
        refine ⟨⟨(c :: TL.tl r).toArray⟩ :: rs, t, ?_, fun q hq => ?_, h2⟩
        · rw [flat_cons, e, flat_cons]
          rfl
        · rcases List.mem_cons.mp hq with rfl | hq
          · intro z
            rcases List.mem_cons.mp (show 10 ∈ c :: TL.tl r from z) with z | z
            · exact hc z.symm
            · exact h1 r List.mem_cons_self z
          · exact h1 q (List.mem_cons_of_mem _ hq)
theorem joinL_rows : ∀ (ls : List Str) (t : Str), TL.joinL [10] ((ls ++ [t]).map TL.tl) = flatL ls ++ TL.tl t
  | [], t => rfl
  | [r], t => by
    rw [flat_cons]
    show TL.tl r ++ ([10] ++ TL.tl t) = _
    simp [flatL]
  | r :: q :: ls, t => by
    have h := joinL_rows (q :: ls) t
    have e : TL.joinL [10] ((r :: q :: ls ++ [t]).map TL.tl) = TL.tl r ++ ([10] ++ TL.joinL [10] ((q :: ls ++ [t]).map TL.tl)) := rfl
    rw [e, h, flat_cons r]
    simp
theorem join_rows (ls : List Str) (t : Str) : TL.tl (Txt.join "\n" (ls ++ [t])) = flatL ls ++ TL.tl t := by
  rw [TL.join_eq, TL.tl_join, nl_one, joinL_rows]
theorem split_rows {x : Str} {ls : List Str} {t : Str} (e : TL.tl x = flatL ls ++ TL.tl t) (h : ∀ r ∈ ls, Row r) (ht : Row t) : Txt.split x "\n" = ls ++ [t] := by
  have ex : x = Txt.join "\n" (ls ++ [t]) := str_ext (by
    show TL.tl x = TL.tl _
    rw [join_rows, e])
  rw [ex]
  refine TL.split_join nl_one (by decide +kernel) (by simp) fun p hp => ?_
  rcases List.mem_append.mp hp with hp | hp
  · exact h p hp
  · rw [List.mem_singleton.mp hp]
    exact ht
theorem part_row {x r : Str} {R : List Nat} (e : TL.tl x = TL.tl r ++ 10 :: R) (h : Row r) : Txt.partition x "\n" = (r, ("\n" : Str), (⟨R.toArray⟩ : Str)) := by
  have ex : x = r ++ ("\n" : Str) ++ ⟨R.toArray⟩ := str_ext (by
    show TL.tl x = TL.tl _
    rw [TL.tl_append, TL.tl_append, nl_one, e, List.append_assoc]
    rfl)
  rw [ex]
  exact TL.partition_app nl_one h
theorem part_no {x : Str} (h : Row x) : Txt.partition x "\n" = (x, Str.empty, Str.empty) := TL.partition_none nl_one h
/-! ### words -/
def dropS (x : Str) (k : Nat) : Str := cutS x (some (k : Int)) none
theorem tl_drop (x : Str) (k : Nat) : TL.tl (dropS x k) = (TL.tl x).drop k := cut_from x k
theorem drop_len (x : Str) (k : Nat) : (dropS x k).length = x.length - k := by
  rw [TL.len_tl, tl_drop, List.length_drop, ← TL.len_tl]
theorem starts_iff (r h : Str) : Txt.startswith r h = true ↔ (TL.tl r).take h.length = TL.tl h := by
  unfold Txt.startswith
  rw [Bool.and_eq_true, StrLaws.subAt_eq]
  show (_ ∧ (((TL.tl r).drop 0).take h.length == TL.tl h) = true) ↔ _
  rw [List.drop_zero]
  constructor
  · rintro ⟨_, h⟩
    exact eq_of_beq h
  · intro e
    refine ⟨decide_eq_true ?_, by rw [e]; exact beq_self_eq_true _⟩
    have := congrArg List.length e
    rw [List.length_take, ← TL.len_tl, ← TL.len_tl] at this
    omega
theorem starts_app2 {r hd : Str} (h : Txt.startswith r (hd ++ (" " : Str)) = true) : r = hd ++ (" " : Str) ++ dropS r (hd.length + 1) := by
  have h := (starts_iff _ _).mp h
  refine str_ext ?_
  show TL.tl r = TL.tl _
  have e : (hd ++ (" " : Str)).length = hd.length + 1 := by
    rw [Str.length_append]
    rfl
  rw [e] at h
  rw [TL.tl_append, tl_drop, ← h, List.take_append_drop]
theorem starts_self (hd x : Str) : Txt.startswith (hd ++ (" " : Str) ++ x) (hd ++ (" " : Str)) = true := by
  rw [starts_iff, TL.tl_append, TL.len_tl, List.take_left]
theorem drop_self (hd x : Str) : dropS (hd ++ (" " : Str) ++ x) (hd.length + 1) = x := str_ext (by
  show TL.tl _ = TL.tl x
  have e : (TL.tl (hd ++ (" " : Str))).length = hd.length + 1 := by
    rw [← TL.len_tl, Str.length_append]
    rfl
  rw [tl_drop, TL.tl_append, ← e, List.drop_left])
/-- what stands behind a row's first word, if this is st -/
def restF (st row : Str) : Option Str := if (Txt.partition row " ").2.1 = "" ∨ (Txt.partition row " ").1 ≠ st then none else some (Txt.partition row " ").2.2
theorem em_str : Str.empty = ("" : Str) := str_ext (by show TL.tl Str.empty = TL.tl ("" : Str); rw [em_one]; rfl)
theorem sp_ne : (" " : Str) ≠ "" := by decide +kernel
theorem first_sp (L : List Nat) : 32 ∉ L ∨ ∃ a b, L = a ++ 32 :: b ∧ 32 ∉ a := by
  induction L with
  | nil => exact .inl List.not_mem_nil
  | cons c L ih =>
    by_cases hc : c = 32
    · exact .inr ⟨[], L, by rw [hc]; rfl, List.not_mem_nil⟩
    · rcases ih with h | ⟨a, b, e, h⟩
      · refine .inl fun z => ?_
        rcases List.mem_cons.mp z with z | z
        · exact hc z.symm
        · exact h z
      · refine .inr ⟨c :: a, b, by rw [e]; rfl, fun z => ?_⟩
        rcases List.mem_cons.mp z with z | z
        · exact hc z.symm
        · exact h z
theorem restF_eq {st : Str} (hs : 32 ∉ TL.tl st) (row : Str) : restF st row = if Txt.startswith row (st ++ (" " : Str)) = true then some (dropS row (st.length + 1)) else none := by
  by_cases h : Txt.startswith row (st ++ (" " : Str)) = true
  · rw [if_pos h]
    have e := starts_app2 h
    have p : Txt.partition row " " = (st, (" " : Str), dropS row (st.length + 1)) := by
      rw [e, TL.partition_app sp_one hs, drop_self]
    unfold restF
    rw [p, if_neg]
    rintro (z | z)
    · exact sp_ne z
    · exact z rfl
  · rw [if_neg h]
    unfold restF
    rcases first_sp (TL.tl row) with n | ⟨a, b, e, n⟩
    · rw [TL.partition_none sp_one n, if_pos (.inl em_str)]
    · have ex : row = (⟨a.toArray⟩ : Str) ++ (" " : Str) ++ ⟨b.toArray⟩ := str_ext (by
        show TL.tl row = TL.tl _
        rw [TL.tl_append, TL.tl_append, sp_one, e, List.append_assoc]
        rfl)
      rw [if_pos]
      by_cases c : (⟨a.toArray⟩ : Str) = st
      · rw [ex, c] at h
        exact absurd (starts_self _ _) h
      · rw [ex, TL.partition_app sp_one n]
        exact .inr c
/-! ### times -/
def isDecF (x : Str) : Bool := (decide (TL.tl x ≠ []) && (decide (x.length ≤ 13) && (TL.tl x).all fun c => decide (48 ≤ c ∧ c ≤ 57))) && ((decide (x = "0") || decide ((TL.tl x).head? ≠ some 48)) && decide (NumText.digitsVal (TL.tl x) ≤ 1000000000000))
theorem numL_head : ∀ n : Nat, 0 < n → (TL.numL n).head? ≠ some 48 := by
  intro n
  induction n using Nat.strongRecOn with
  | _ n ih =>
    intro h
    by_cases c : n < 10
    · rw [TL.numL_lt c]
      simp
      omega
    · rw [TL.numL_step (by omega)]
      have k := ih (n / 10) (by omega) (by omega)
      cases e : TL.numL (n / 10) with
      | nil => exact absurd e (TL.numL_ne _)
      | cons a r =>
        rw [e] at k
        exact k
theorem val_snoc (l : List Nat) (c : Nat) : NumText.digitsVal (l ++ [c]) = NumText.digitsVal l * 10 + (c - 48) := by
  unfold NumText.digitsVal
  rw [List.foldl_append]
  rfl
theorem num_back : ∀ (k : Nat) (l : List Nat), l.length = k → l ≠ [] → NumText.AllDigits l → l = [48] ∨ l.head? ≠ some 48 → l = TL.numL (NumText.digitsVal l) := by
  intro k
  induction k with
  | zero => intro l h n; exact absurd (List.length_eq_zero_iff.mp h) n
  | succ k ih =>
    intro l hl hn hd hz
    obtain ⟨m, c, rfl⟩ : ∃ m c, l = m ++ [c] := ⟨l.dropLast, l.getLast hn, (List.dropLast_concat_getLast hn).symm⟩
    have hc := hd c (by simp)
    rw [val_snoc]
    cases m with
    | nil =>
      have e : NumText.digitsVal [] = 0 := rfl
      rw [e, TL.numL_lt (by omega)]
      show [c] = [48 + (0 * 10 + (c - 48))]
      congr 1
      omega
    | cons a r =>
      have h48 : (a :: r).head? ≠ some 48 := by
        rcases hz with z | z
        · have := congrArg List.length z
          simp at this
        · simpa using z
      have e := ih (a :: r) (by simpa using hl) (by simp) (fun u hu => hd u (List.mem_append_left _ hu)) (.inr h48)
      have pos : 0 < NumText.digitsVal (a :: r) := by
        refine Nat.pos_of_ne_zero fun z => ?_
        rw [z, TL.numL_lt (by decide)] at e
        rw [e] at h48
        exact h48 rfl
      have lt : NumText.digitsVal (a :: r) * 10 + (c - 48) ≥ 10 := by omega
      rw [TL.numL_step lt, show (NumText.digitsVal (a :: r) * 10 + (c - 48)) / 10 = NumText.digitsVal (a :: r) by omega, ← e, show 48 + (NumText.digitsVal (a :: r) * 10 + (c - 48)) % 10 = c by omega]
theorem val_lt : ∀ (k : Nat) (l : List Nat), l.length = k → NumText.AllDigits l → NumText.digitsVal l < 10 ^ k := by
  intro k
  induction k with
  | zero =>
    intro l h _
    rw [List.length_eq_zero_iff.mp h]
    decide
  | succ k ih =>
    intro l hl hd
    have hn : l ≠ [] := fun z => by rw [z] at hl; cases hl
    obtain ⟨m, c, rfl⟩ : ∃ m c, l = m ++ [c] := ⟨l.dropLast, l.getLast hn, (List.dropLast_concat_getLast hn).symm⟩
    have hc := hd c (by simp)
    have h := ih m (by simpa using hl) fun u hu => hd u (List.mem_append_left _ hu)
    rw [val_snoc, Nat.pow_succ]
    omega
theorem dig_lt {l : List Nat} (hd : NumText.AllDigits l) (h : l.length ≤ 13) : NumText.digitsVal l < 10 ^ 13 := Nat.lt_of_lt_of_le (val_lt _ l rfl hd) (Nat.pow_le_pow_right (by decide) h)
theorem dig_all {x : Str} : ((TL.tl x).all fun c => decide (48 ≤ c ∧ c ≤ 57)) = true ↔ NumText.AllDigits (TL.tl x) := by
  rw [List.all_eq_true]
  exact ⟨fun h c hc => of_decide_eq_true (h c hc), fun h c hc => decide_eq_true (h c hc)⟩
def numS (n : Nat) : Str := Str.ofString (toString ((n : Nat) : Int))
theorem tl_numS (n : Nat) : TL.tl (numS n) = TL.numL n := TL.tl_num n
theorem dec_num {x : Str} (h : isDecF x = true) : ∃ n : Nat, n ≤ 1000000000000 ∧ x = numS n := by
  unfold isDecF at h
  simp only [Bool.and_eq_true, Bool.or_eq_true, decide_eq_true_eq] at h
  obtain ⟨⟨h1, h2, h3⟩, h4, h5⟩ := h
  refine ⟨_, h5, str_ext ?_⟩
  show TL.tl x = TL.tl (numS _)
  rw [tl_numS]
  refine num_back _ _ rfl h1 (dig_all.mp h3) (h4.imp (fun z => ?_) id)
  rw [z]
  decide +kernel
theorem num_13 {n : Nat} (h : n ≤ 1000000000000) : (numS n).length ≤ 13 := by
  rw [TL.len_tl, tl_numS]
  exact TL.numL_len (by decide) (by omega)
theorem num_dec {n : Nat} (h : n ≤ 1000000000000) : isDecF (numS n) = true := by
  unfold isDecF
  simp only [Bool.and_eq_true, Bool.or_eq_true, decide_eq_true_eq]
  refine ⟨⟨?_, num_13 h, dig_all.mpr ?_⟩, ?_, ?_⟩
  · rw [tl_numS]
    exact TL.numL_ne n
  · rw [tl_numS]
    exact TL.numL_digits n
  · by_cases z : n = 0
    · rw [z]
      exact .inl (by decide +kernel)
    · rw [tl_numS]
      exact .inr (numL_head n (by omega))
  · rw [tl_numS, TL.numL_val]
    exact h
theorem uni_dig : ∀ c < 128, Unicode.isDigit c = decide (48 ≤ c ∧ c ≤ 57) := by decide +kernel
/-- signs of a text: printable, or a line feed -/
def PlL (L : List Nat) : Prop := ∀ u ∈ L, (decide (u = 10) || plainC u) = true
theorem plain_128 {u : Nat} (h : (decide (u = 10) || plainC u) = true) : u < 128 := by
  rcases Bool.or_eq_true_iff.mp h with h | h
  · have := of_decide_eq_true h
    omega
  · unfold plainC at h
    have h := (Bool.and_eq_true_iff.mp h).2
    refine Classical.byContradiction fun z => ?_
    have : ([126] < [u]) := by
      refine List.cons_lt_cons_iff.mpr (.inl ?_)
      omega
    rw [decide_eq_true this] at h
    cases h
theorem PlL.as {L : List Nat} (h : PlL L) : AsL L := fun u hu => plain_128 (h u hu)
theorem PlL.sub {L M : List Nat} (h : PlL L) (s : ∀ u ∈ M, u ∈ L) : PlL M := fun u hu => h u (s u hu)
theorem PlL.ok {x : Str} (h : PlL (TL.tl x)) : OkS x := fun u hu => plain_lt (h u hu)
theorem PlL.text {x : Str} (h : PlL (TL.tl x)) : isTextF x = decide (x.length ≤ 2000) := by
  unfold isTextF
  rw [List.all_eq_true.mpr h, Bool.and_true]
theorem isdig_eq {x : Str} (h : PlL (TL.tl x)) : Txt.isdigit x = (decide (TL.tl x ≠ []) && (TL.tl x).all fun c => decide (48 ≤ c ∧ c ≤ 57)) := by
  unfold Txt.isdigit
  congr 1
  · refine decide_eq_decide.mpr ?_
    rw [TL.len_tl]
    cases TL.tl x <;> simp
  · rw [← Array.all_toList]
    refine Bool.eq_iff_iff.mpr ?_
    rw [List.all_eq_true, List.all_eq_true]
    refine forall_congr' fun c => forall_congr' fun hc => ?_
    rw [uni_dig c (plain_128 (h c hc))]
end Fk

set_option maxHeartbeats 4000000
/-! What is wrong with the lines of an object, row by row. -/
namespace Fk
open PySem PySem.Spec PyProof.Rows L2
/-! ### split back -/
theorem parts_of (s : Nat) (L : List Nat) : ∃ ps : List Str, ps ≠ [] ∧ L = TL.joinL [s] (ps.map TL.tl) ∧ ∀ p ∈ ps, s ∉ TL.tl p := by
  induction L with
  | nil => exact ⟨[⟨#[]⟩], by simp, rfl, fun p hp => by rw [List.mem_singleton.mp hp]; exact List.not_mem_nil⟩
  | cons c L ih =>
    obtain ⟨ps, hne, e, h⟩ := ih
    by_cases hc : c = s
    · refine ⟨⟨#[]⟩ :: ps, by simp, ?_, fun p hp => ?_⟩
      · cases ps with
        | nil => exact absurd rfl hne
        | cons q r =>
          show c :: L = ([] : List Nat) ++ ([s] ++ TL.joinL [s] ((q :: r).map TL.tl))
          rw [← e, hc]
          rfl
      · rcases List.mem_cons.mp hp with rfl | hp
        · exact List.not_mem_nil
        · exact h p hp
    · cases ps with
      | nil => exact absurd rfl hne
      | cons q r =>
        refine ⟨⟨(c :: TL.tl q).toArray⟩ :: r, by simp, ?_, fun p hp => ?_⟩
        · rw [e]
          cases r with
          | nil => rfl
          | cons z r => rfl
        · rcases List.mem_cons.mp hp with rfl | hp
          · intro z
            rcases List.mem_cons.mp (show s ∈ c :: TL.tl q from z) with z | z
            · exact hc z.symm
            · exact h q List.mem_cons_self z
          · exact h p (List.mem_cons_of_mem _ hp)
theorem join_split {y : Str} {s : Nat} (ey : TL.tl y = [s]) (hk : y.cps.all (· < 256) = true) (x : Str) : Txt.join y (Txt.split x y) = x ∧ (∀ p ∈ Txt.split x y, ∀ u ∈ TL.tl p, u ∈ TL.tl x) ∧ Txt.split x y ≠ [] := by
  obtain ⟨ps, hne, e, h⟩ := parts_of s (TL.tl x)
  have ex : x = Txt.join y ps := str_ext (by
    show TL.tl x = TL.tl _
    rw [TL.join_eq, TL.tl_join, ey, e])
  have es : Txt.split x y = ps := by
    rw [ex]
    exact TL.split_join ey hk hne h
  rw [es]
  refine ⟨ex.symm, fun p hp u hu => ?_, hne⟩
  rw [e]
  clear e ex es h hne
  induction ps with
  | nil => cases hp
  | cons q r ih =>
    cases r with
    | nil =>
      rw [List.mem_singleton.mp hp] at hu
      exact hu
    | cons z r =>
      show u ∈ TL.tl q ++ ([s] ++ TL.joinL [s] ((z :: r).map TL.tl))
      rcases List.mem_cons.mp hp with rfl | hp
      · exact List.mem_append_left _ hu
      · exact List.mem_append_right _ (List.mem_append_right _ (ih hp))
/-! ### words that are allowed -/
inductive Al where
  | text | id | seg | auth | msg | time
def Al.nm : Al → Str
  | .text => "is_text"
  | .id => "is_id"
  | .seg => "is_segment"
  | .auth => "is_author"
  | .msg => "is_message"
  | .time => "_is_decimal_time"
def Al.f : Al → Str → Bool
  | .text => isTextF
  | .id => isIdF
  | .seg => isSegF
  | .auth => isWordF LET
  | .msg => fun x => isTextF x && decide (x.length ≤ 200)
  | .time => isDecF
def wordF (a : Al) (hd : Str) : List Str → Option Str
  | [] => none
  | r :: _ => match restF hd r with
    | none => none
    | some x => if a.f x = true then some x else none
theorem word_row {a : Al} {hd x : Str} {ls : List Str} (hs : 32 ∉ TL.tl hd) (h : wordF a hd ls = some x) : ∃ rs, ls = (hd ++ (" " : Str) ++ x) :: rs ∧ a.f x = true := by
  cases ls with
  | nil => cases h
  | cons r rs =>
    have h : (match restF hd r with
      | none => none
      | some x => if a.f x = true then some x else none) = some x := h
    rw [restF_eq hs] at h
    by_cases c : Txt.startswith r (hd ++ (" " : Str)) = true
    · rw [if_pos c] at h
      dsimp only at h
      by_cases d : a.f (dropS r (hd.length + 1)) = true
      · rw [if_pos d] at h
        cases h
        exact ⟨rs, by rw [← starts_app2 c], d⟩
      · rw [if_neg d] at h
        cases h
    · rw [if_neg c] at h
      cases h
theorem word_of_row {a : Al} {hd x : Str} {rs : List Str} (hs : 32 ∉ TL.tl hd) (h : a.f x = true) : wordF a hd ((hd ++ (" " : Str) ++ x) :: rs) = some x := by
  show (match restF hd (hd ++ (" " : Str) ++ x) with
      | none => none
      | some x => if a.f x = true then some x else none) = some x
  rw [restF_eq hs, if_pos (starts_self _ _), drop_self]
  dsimp only
  rw [if_pos h]
/-! ### commits and tags -/
def nextF (st row : Str) (ps : List Str) : Bool :=
  if st = "empty" then decide (row = "") else
  match restF st row with
  | none => false
  | some x => if st = "tree" ∨ st = "target" then isIdF x else if st = "parent" then isIdF x && (!decide (x ∈ ps) && decide (ps.length < 6)) else if st = "author" then isWordF LET x else if st = "label" then isSegF x else isDecF x
def faultF : List Str → List Str → List Str → Nat → Nat × Bool
  | [], _, _, n => (n, false)
  | _ :: _, [], _, n => (n, false)
  | r :: rs, s :: ss, ps, n =>
    if s = "author" ∧ Txt.startswith r "parent " = true then
      if nextF "parent" r ps = true then faultF rs (s :: ss) (ps ++ [dropS r 7]) (n + 1) else (n, false)
    else if nextF s r ps = true then (if ss = [] then (n + 1, true) else faultF rs ss ps (n + 1)) else (n, false)
theorem next_word {a : Al} {s : Str} (hs : s ≠ "empty" ∧ ((s = "tree" ∨ s = "target") ∧ a = .id ∨ s = "author" ∧ a = .auth ∨ s = "label" ∧ a = .seg ∨ s = "time" ∧ a = .time)) (r : Str) (rs ps : List Str) : nextF s r ps = (wordF a s (r :: rs)).isSome := by
  show _ = (match restF s r with
      | none => none
      | some x => if a.f x = true then some x else none).isSome
  unfold nextF
  rw [if_neg hs.1]
  cases restF s r with
  | none => rfl
  | some x =>
    dsimp only
    have e : (if s = "tree" ∨ s = "target" then isIdF x else if s = "parent" then isIdF x && (!decide (x ∈ ps) && decide (ps.length < 6)) else if s = "author" then isWordF LET x else if s = "label" then isSegF x else isDecF x) = a.f x := by
      rcases hs.2 with ⟨h, rfl⟩ | ⟨rfl, rfl⟩ | ⟨rfl, rfl⟩ | ⟨rfl, rfl⟩
      · rw [if_pos h]
        rfl
      · rw [if_neg (by decide +kernel), if_neg (by decide +kernel), if_pos rfl]
        rfl
      · rw [if_neg (by decide +kernel), if_neg (by decide +kernel), if_neg (by decide +kernel), if_pos rfl]
        rfl
      · rw [if_neg (by decide +kernel), if_neg (by decide +kernel), if_neg (by decide +kernel), if_neg (by decide +kernel)]
        rfl
    rw [e]
    cases h : a.f x <;> simp
theorem fault_word {a : Al} {s : Str} (hs : s ≠ "empty" ∧ ((s = "tree" ∨ s = "target") ∧ a = .id ∨ s = "author" ∧ a = .auth ∨ s = "label" ∧ a = .seg ∨ s = "time" ∧ a = .time)) {ls ss ps : List Str} {n : Nat} (hp : s = "author" → ∀ r rs, ls = r :: rs → Txt.startswith r "parent " ≠ true) :
    (wordF a s ls = none → faultF ls (s :: ss) ps n = (n, false)) ∧ ∀ x rs, ls = (s ++ (" " : Str) ++ x) :: rs → wordF a s ls = some x → ss ≠ [] → faultF ls (s :: ss) ps n = faultF rs ss ps (n + 1) := by
  cases ls with
  | nil => exact ⟨fun _ => rfl, fun x rs h => by cases h⟩
  | cons r rs =>
    have c : ¬ (s = "author" ∧ Txt.startswith r "parent " = true) := fun z => hp z.1 r rs rfl z.2
    have nx := next_word hs r rs ps
    constructor
    · intro h
      rw [h] at nx
      unfold faultF
      rw [if_neg c, if_neg (by rw [nx]; exact Bool.false_ne_true)]
    · intro x rs' e h hn
      injection e with e1 e2
      rw [h] at nx
      conv => lhs; unfold faultF
      rw [if_neg c, if_pos (show nextF s r ps = true from nx), if_neg hn, e2]
theorem fault_empty {ls ps : List Str} {n : Nat} : ((∀ rs, ls ≠ ("" : Str) :: rs) → faultF ls ["empty"] ps n = (n, false)) ∧ ∀ rs, ls = ("" : Str) :: rs → faultF ls ["empty"] ps n = (n + 1, true) := by
  cases ls with
  | nil => exact ⟨fun _ => rfl, fun rs h => by cases h⟩
  | cons r rs =>
    have c : ¬ (("empty" : Str) = "author" ∧ Txt.startswith r "parent " = true) := fun z => absurd z.1 (by decide +kernel)
    constructor
    · intro h
      unfold faultF
      rw [if_neg c, if_neg]
      unfold nextF
      rw [if_pos rfl]
      intro z
      exact h rs (by rw [of_decide_eq_true z])
    · intro rs' e
      injection e with e1 e2
      unfold faultF
      rw [if_neg c, if_pos, if_pos rfl]
      unfold nextF
      rw [if_pos rfl, e1]
      exact decide_eq_true rfl
def parR (x : Str) : Str := ("parent" : Str) ++ (" " : Str) ++ x
theorem par_sp : ("parent " : Str) = ("parent" : Str) ++ (" " : Str) := by decide +kernel
theorem par_free : 32 ∉ TL.tl ("parent" : Str) := by decide +kernel
theorem next_par (r : Str) (ps : List Str) : nextF "parent" r ps = match restF "parent" r with
    | none => false
    | some x => isIdF x && (!decide (x ∈ ps) && decide (ps.length < 6)) := by
  unfold nextF
  rw [if_neg (by decide +kernel)]
  cases restF "parent" r with
  | none => rfl
  | some x =>
    dsimp only
    rw [if_neg (by decide +kernel), if_pos rfl]
theorem fault_par {x : Str} {rs ss ps : List Str} {n : Nat} (h1 : isIdF x = true) (h2 : x ∉ ps) (h3 : ps.length < 6) : faultF (parR x :: rs) ("author" :: ss) ps n = faultF rs ("author" :: ss) (ps ++ [x]) (n + 1) := by
  have sw : Txt.startswith (parR x) "parent " = true := by
    rw [par_sp]
    exact starts_self _ _
  have rf : restF "parent" (parR x) = some x := by
    rw [restF_eq par_free, if_pos (show Txt.startswith (parR x) (("parent" : Str) ++ (" " : Str)) = true from starts_self _ _)]
    exact congrArg some (drop_self ("parent" : Str) x)
  have d7 : dropS (parR x) 7 = x := drop_self ("parent" : Str) x
  conv => lhs; unfold faultF
  rw [if_pos ⟨rfl, sw⟩, if_pos, d7]
  rw [next_par, rf]
  dsimp only
  rw [h1, decide_eq_false h2, decide_eq_true h3]
  rfl
theorem fault_par_no {r : Str} {rs ss ps : List Str} {n : Nat} (h : Txt.startswith r "parent " = true) (k : ∀ x, r = parR x → isIdF x = true → x ∉ ps → ¬ ps.length < 6) : faultF (r :: rs) ("author" :: ss) ps n = (n, false) := by
  unfold faultF
  rw [if_pos ⟨rfl, h⟩, if_neg]
  rw [next_par, restF_eq par_free, if_pos (by rw [← par_sp]; exact h)]
  dsimp only
  intro z
  simp only [Bool.and_eq_true, decide_eq_true_eq, Bool.not_eq_true', decide_eq_false_iff_not] at z
  exact k _ (starts_app2 (by rw [← par_sp]; exact h)) z.1 z.2.1 z.2.2
def STC : List Str := ["tree", "author", "time", "empty"]
def STG : List Str := ["target", "label", "empty"]
def dueS (len : Nat) (steps : List Str) (at0 : Nat) (ls : List Str) : Option Nat :=
  if (faultF ls steps [] 0).2 = false then some (at0 + flen (ls.take (faultF ls steps [] 0).1)) else
  if len - (at0 + flen (ls.take (faultF ls steps [] 0).1)) ≤ 200 then none else some (at0 + flen (ls.take (faultF ls steps [] 0).1))
/-! ### trees -/
def entW (r : Str) : Option Ent := match Txt.split r " " with
  | [a, b, c] => if (decide (a ∈ KINDS) && (isSegF b && isIdF c)) = true then some (b, a, c) else none
  | _ => none
def treeF : List Str → Nat → Str → Option Nat
  | [], _, _ => none
  | r :: rs, k, last => match entW r with
    | none => some k
    | some e => if (decide (last.cps.toList < e.1.cps.toList) && decide (k ≠ 30)) = true then treeF rs (k + 1) e.1 else some k
def lineF (e : Ent) : Str := Txt.join (" " : Str) [e.2.1, e.1, e.2.2]
theorem entW_line {r : Str} {e : Ent} (h : entW r = some e) : r = lineF e ∧ EntOk e ∧ Txt.split r " " = [e.2.1, e.1, e.2.2] := by
  unfold entW at h
  split at h
  · next a b c hs =>
    split at h
    · next k =>
      simp only [Bool.and_eq_true, decide_eq_true_eq] at k
      cases h
      refine ⟨?_, ⟨k.2.1, k.1, k.2.2⟩, hs⟩
      have := (join_split sp_one (by decide +kernel) r).1
      rw [hs] at this
      exact this.symm
    · cases h
  · cases h
/-! ### the whole -/
def HEADS : List Str := ["blob", "tree", "commit", "tag"]
def dueR (len : Nat) (hd : Str) (ls : List Str) (t : Str) : Option Nat :=
  if hd ∉ HEADS then some 0 else
  if hd = "blob" then (if flen ls + t.length ≤ 2000 then none else some 5) else
  if hd = "tree" then (match treeF ls 0 "" with
    | some k => some (5 + flen (ls.take k))
    | none => if t = "" then none else some (5 + flen ls)) else
  if hd = "commit" then dueS len STC 7 ls else dueS len STG 4 ls
def DecR (x : Str) : Option (Str × List Str × Str) → Prop
  | none => Row x
  | some (hd, ls, t) => TL.tl x = TL.tl hd ++ 10 :: (flatL ls ++ TL.tl t) ∧ Row hd ∧ (∀ r ∈ ls, Row r) ∧ Row t
def dueX (len : Nat) : Option (Str × List Str × Str) → Option Nat
  | none => some 0
  | some (hd, ls, t) => dueR len hd ls t
theorem dec_all (x : Str) : ∃ o, DecR x o := by
  obtain ⟨ls, t, e, h, ht⟩ := rows_of (TL.tl x)
  cases ls with
  | nil =>
    refine ⟨none, ?_⟩
    have e : TL.tl x = TL.tl t := e
    show 10 ∉ TL.tl x
    rw [e]
    exact ht
  | cons r rs =>
    refine ⟨some (r, rs, t), ?_, h r List.mem_cons_self, fun q hq => h q (List.mem_cons_of_mem _ hq), ht⟩
    rw [e, flat_cons, List.append_assoc]
    rfl
end Fk

set_option maxHeartbeats 4000000
namespace Fk
open PySem PySem.Spec PyProof.Rows L2
theorem find_no {L : List Nat} {n : Nat} (h : AsL L) (hn : 10 ∉ L.drop n) : findB (bytL L) #[10] n = -1 := by
  have s1 : (#[10] : Array UInt8).size = 1 := rfl
  unfold findB
  rw [bytL_size, s1]
  by_cases c : (L.length : Int) - (n : Int) < ((1 : Nat) : Int)
  · rw [if_pos c]
  · rw [if_neg c]
    have f : Builtin.Bytes.find? (bytL L) #[10] n L.length = none := by
      unfold Builtin.Bytes.find?
      rw [List.find?_map, s1]
      have g : List.find? ((fun i => (bytL L).extract i (i + 1) == (#[10] : Array UInt8)) ∘ fun x => x + n) (List.range (L.length + 1 - (n + 1))) = none := by
        rw [List.find?_eq_none]
        intro j hj
        have hj := List.mem_range.mp hj
        have hl : j + n < L.length := by omega
        show ¬ ((bytL L).extract (j + n) (j + n + 1) == (#[10] : Array UInt8)) = true
        rw [one_at h (List.getElem?_eq_getElem hl)]
        intro z
        refine hn ?_
        rw [← of_decide_eq_true z]
        refine List.mem_iff_getElem.mpr ⟨j, by rw [List.length_drop]; omega, ?_⟩
        rw [List.getElem_drop]
        congr 1
        omega
      rw [g]
      rfl
    rw [f]
    rfl
/-- at n of L: the rows ls, and t behind them -/
structure Tx (L : List Nat) (n : Nat) (ls : List Str) (t : Str) : Prop where
  e : L.drop n = flatL ls ++ TL.tl t
  hn : n ≤ L.length
  nl : ∀ r ∈ ls, Row r
  nt : Row t
  pl : PlL L
  ln : L.length ≤ 4000
theorem Tx.len {L : List Nat} {n : Nat} {ls : List Str} {t : Str} (x : Tx L n ls t) : L.length = n + flen ls + t.length := by
  have e := congrArg List.length x.e
  have := x.hn
  rw [List.length_drop, List.length_append, ← TL.len_tl] at e
  show L.length = n + (flatL ls).length + t.length
  omega
theorem Tx.next {L : List Nat} {n : Nat} {r : Str} {ls : List Str} {t : Str} (x : Tx L n (r :: ls) t) : Tx L (n + r.length + 1) ls t := by
  have l := x.len
  rw [flen_cons] at l
  refine ⟨?_, by omega, fun q hq => x.nl q (List.mem_cons_of_mem _ hq), x.nt, x.pl, x.ln⟩
  rw [show n + r.length + 1 = n + (r.length + 1) by omega, ← List.drop_drop, x.e, flat_cons, List.append_assoc, List.cons_append, TL.len_tl, show (TL.tl r).length + 1 = (TL.tl r ++ [10]).length by rw [List.length_append]; rfl, show TL.tl r ++ 10 :: (flatL ls ++ TL.tl t) = (TL.tl r ++ [10]) ++ (flatL ls ++ TL.tl t) by simp, List.drop_left]
theorem Tx.nexts {L : List Nat} {t : Str} : ∀ (cur : List Str) {n : Nat} {ls : List Str}, Tx L n (cur ++ ls) t → Tx L (n + flen cur) ls t
  | [], n, ls, x => x
  | r :: cur, n, ls, x => by
    have := Tx.nexts cur (Tx.next x)
    rw [flen_cons]
    rwa [show n + (r.length + 1 + flen cur) = n + r.length + 1 + flen cur by omega]
theorem Tx.mem {L : List Nat} {n : Nat} {ls : List Str} {t : Str} (x : Tx L n ls t) {r : Str} (hr : r ∈ ls) : r.length ≤ 4000 ∧ PlL (TL.tl r) := by
  have m : ∀ u ∈ TL.tl r, u ∈ L := fun u hu => List.mem_of_mem_drop (by
    rw [x.e]
    refine List.mem_append_left _ (List.mem_flatten.mpr ⟨TL.tl r ++ [10], List.mem_map.mpr ⟨r, hr, rfl⟩, List.mem_append_left _ hu⟩))
  refine ⟨?_, x.pl.sub m⟩
  have h1 := x.len
  have h2 := x.ln
  have : r.length ≤ flen ls := by
    clear m h1 h2
    induction ls generalizing n with
    | nil => cases hr
    | cons q ls ih =>
      rw [flen_cons]
      rcases List.mem_cons.mp hr with rfl | hr
      · omega
      · have := ih x.next hr
        omega
  omega
theorem Tx.tail {L : List Nat} {n : Nat} {ls : List Str} {t : Str} (x : Tx L n ls t) : ∃ y : Str, L.drop n = TL.tl y ∧ y.length = flen ls + t.length ∧ PlL (TL.tl y) := by
  refine ⟨⟨(flatL ls ++ TL.tl t).toArray⟩, x.e, ?_, ?_⟩
  · rw [TL.len_tl]
    show (flatL ls ++ TL.tl t).length = _
    rw [List.length_append, ← TL.len_tl]
    rfl
  · show PlL (flatL ls ++ TL.tl t)
    rw [← x.e]
    exact x.pl.sub fun u hu => List.mem_of_mem_drop hu
def lineV : List Str → V
  | [] => .non
  | r :: _ => .str r
section
variable {P : Program} {w : World} {K : PySem.W.Frag} {mg : Str → Option Value} {base : Heap}
def spLine5 : Sp := fun vs H Q _ => ∃ (L : List Nat) (n : Nat) (ls : List Str) (t : Str), vs = [.byt (bytL L), .int n] ∧ Tx L n ls t ∧ Q (lineV ls) H
theorem c__line_at (T : Top K mg) : C8.Cal P w K mg base 1 "_line_at" spLine5 [] := by
  refine cal_of T.d__line_at sc__line_at (fun _ _ _ _ _ _ us hl => match us, hl with | [_, _], _ => rfl) (fun vs H Q E h => ?_) (fun f cdv A outer s H vs Q E hr h => ?_)
  · obtain ⟨L, n, ls, t, rfl, _⟩ := h
    rfl
  · obtain ⟨L, n, ls, t, rfl, tx, q⟩ := h
    have sz := bytL_size L
    have hl := tx.ln
    have ha := tx.pl.as
    refine ⟨_, (pss_cons (ps_set (i := 2) sc__line_at.nd rfl (Or.inl rfl) (pe_bB PySem.W.KBf.slot_find PySem.W.KBf.type_find mt_bfind (pv 0) (pa_cons pe_byt (pa_cons (pv 1) pa_nil))))
      (pss_cons (ps_if (PW.pt (pw_or (pt_cmpR op_lt (pv 2) pe_int (nomark _)) (pw_or1 (pt_not (pt_val (pe_bB0 slot_isascii type_isascii mt_bascii (pe_slice sl_byt (pv 0) (po_some (pv 1)) (po_some (pv 2)))))))))
      (pss_one (ps_ret pe_non))
      pss_nil)
      (pss_one (ps_ret (pe_bB slot_bdecode type_bdecode mt_bdecode (pe_slice sl_byt (pv 0) (po_some (pv 1)) (po_some (pv 2))) (pa_cons pe_str pa_nil)))))), ?_⟩
    refine ⟨.byt (bytL L), rfl, ⟨_, rfl⟩, .int n, rfl, bytL L, _, n, rfl, rfl, ?_⟩
    cases ls with
    | nil =>
      have fno : findB (bytL L) #[10] n = -1 := find_no ha (by rw [tx.e]; exact tx.nt)
      rw [show findB (bytL L) ([10] : List UInt8).toArray n = -1 from fno]
      exact ⟨.int (-1), rfl, _, _, rfl, rfl, _, rfl, ifT (decide_eq_true (by decide)) q⟩
    | cons r ls =>
      have eL : L = L.take n ++ TL.tl r ++ 10 :: (flatL ls ++ TL.tl t) := by
        have e := tx.e
        rw [flat_cons, List.append_assoc, List.cons_append] at e
        rw [List.append_assoc, ← e, List.take_append_drop]
      have en : (L.take n).length = n := by
        have := tx.hn
        rw [List.length_take]
        omega
      have ll : n + (TL.tl r).length ≤ L.length := by
        have := tx.len
        rw [flen_cons, TL.len_tl] at this
        omega
      have cut : (L.drop n).take (n + (TL.tl r).length - n) = TL.tl r := by
        rw [tx.e, flat_cons, List.append_assoc, Nat.add_sub_cancel_left, List.take_left]
      have pk : PySem.W.KBy.picked (bytL L) (some (n : Int)) (some ((n + (TL.tl r).length : Nat) : Int)) = bytL (TL.tl r) := by
        rw [pk_L (by omega) ll, cut]
      have hal : AsL (TL.tl r) := (tx.mem List.mem_cons_self).2.as
      have fnd : findB (bytL L) #[10] n = ((n + (TL.tl r).length : Nat) : Int) := by
        have z := find_nl (pre := L.take n) (line := TL.tl r) (post := flatL ls ++ TL.tl t) (by rw [← eL]; exact ha) (tx.nl r List.mem_cons_self)
        rw [← eL, en] at z
        exact z
      rw [show findB (bytL L) ([10] : List UInt8).toArray n = ((n + (TL.tl r).length : Nat) : Int) from fnd]
      refine ⟨.int ((n + (TL.tl r).length : Nat) : Int), rfl, _, _, rfl, rfl, _, rfl, ifF (fun z => ?_) ?_⟩
      · have := of_decide_eq_true z
        omega
      refine ⟨.byt (bytL L), rfl, .int n, rfl, _, rfl, .int ((n + (TL.tl r).length : Nat) : Int), rfl, _, rfl, bytL L, rfl, by omega, ⟨_, rfl⟩, _, rfl, rfl, _, rfl, ifF (fun z => ?_) ?_⟩
      · rw [pk, asc_L hal] at z
        cases z
      refine ⟨.byt (bytL L), rfl, .int n, rfl, _, rfl, .int ((n + (TL.tl r).length : Nat) : Int), rfl, _, rfl, bytL L, rfl, by omega, ⟨_, rfl⟩, _, rfl, rfl, by rw [pk]; exact asc_L hal, by rw [pk, bytL_size]; omega, ?_⟩
      rw [pk, strB_L hal, TL.mk_tl]
      exact q
/-! ### a def that is handed over -/
def spA (a : Al) : Sp := fun vs H Q _ => ∃ x, vs = [.str x] ∧ x.length ≤ 4000 ∧ PlL (TL.tl x) ∧ ∀ H', Same H H' → Q (.bl (a.f x)) H'
def ALLS : List Al := [.text, .id, .seg, .auth, .msg, .time]
theorem mem_all (a : Al) : a ∈ ALLS := by cases a <;> simp [ALLS]
def allowS (mg : Str → Option Value) (f : Addr) : Option Sp := (ALLS.find? fun a => mg a.nm == some (.ref f)).map spA
theorem def_ne2 {x y : Str} {st st' : Stmt} (D : IsDef K mg x st) (D' : IsDef K mg y st') (h : x ≠ y) {f : Addr} (e : mg x = some (.ref f)) : mg y ≠ some (.ref f) := fun e' => by
  obtain ⟨g, fd, d, _⟩ := D
  obtain ⟨g', fd', d', _⟩ := D'
  have a := d.mgf
  have a' := d'.mgf
  rw [e] at a
  rw [e'] at a'
  cases a
  cases a'
  obtain ⟨_, _, _, _, _, _, _, _, _, _, e1, l1, _⟩ := d.fn.ex
  obtain ⟨_, _, _, _, _, _, _, _, _, _, e2, l2, _⟩ := d'.fn.ex
  rw [l1] at l2
  have l2 := Option.some.inj l2
  injection l2 with _ _ l2 _
  injection l2 with l2
  rw [e1, e2] at l2
  have := congrArg FuncData.name l2
  exact h this
theorem nm_inj : ∀ a b : Al, a.nm = b.nm → a = b := by
  intro a b h
  cases a <;> cases b <;> first | rfl | exact absurd h (by decide +kernel)
theorem allNames (T : Top K mg) (a : Al) : ∃ st, IsDef K mg a.nm st := by
  cases a
  · exact ⟨_, T.d_is_text⟩
  · exact ⟨_, T.d_is_id⟩
  · exact ⟨_, T.d_is_segment⟩
  · exact ⟨_, T.d_is_author⟩
  · exact ⟨_, T.d_is_message⟩
  · exact ⟨_, T.d__is_decimal_time⟩
theorem allow_at (T : Top K mg) {a : Al} {f : Addr} (e : mg a.nm = some (.ref f)) : allowS mg f = some (spA a) := by
  unfold allowS
  cases h : ALLS.find? (fun a => mg a.nm == some (.ref f)) with
  | none =>
    have := List.find?_eq_none.mp h a (mem_all a)
    rw [e] at this
    exact absurd (beq_self_eq_true _) this
  | some b =>
    have ez := eq_of_beq (List.find?_some (p := fun a : Al => mg a.nm == some (.ref f)) h)
    obtain ⟨st, D⟩ := allNames T a
    obtain ⟨st', D'⟩ := allNames T b
    by_cases c : a.nm = b.nm
    · rw [nm_inj _ _ c]
      rfl
    · exact absurd ez (def_ne2 D D' c e)
def spDec5 : Sp := fun vs H Q _ => ∃ x, vs = [.str x] ∧ x.length ≤ 4000 ∧ PlL (TL.tl x) ∧ Q (.bl (isDecF x)) H
theorem c__is_decimal_time (T : Top K mg) : C8.Cal P w K mg base 1 "_is_decimal_time" spDec5 [] := by
  refine cal_of T.d__is_decimal_time sc__is_decimal_time (fun _ _ _ _ _ _ us hl => match us, hl with | [_], _ => rfl) (fun vs H Q E h => ?_) (fun f cdv A outer s H vs Q E hr h => ?_)
  · obtain ⟨x, rfl, _⟩ := h
    rfl
  · obtain ⟨x, rfl, hl, pl, q⟩ := h
    have dg := isdig_eq pl
    have lat : (Str.ofString (toString (1000000000000 : Int))).length = 13 := by decide +kernel
    refine ⟨_, (pss_cons (ps_if (PW.pt (pw_or (pt_not (pt_val (pe_bm0 PySem.F.plainAttrs_str PySem.F.slot_str_isdigit PySem.F.type_str_isdigit mt_isdigit (pv 0)))) (pw_or1 (pt_cmpR op_gt (pe_callB call_len_str (by rfl) T.z_len (by decide +kernel) (pa_cons (pv 0) pa_nil)) (pe_callB call_len_str (by rfl) T.z_len (by decide +kernel) (pa_cons (pe_callTy call_str_int (by rfl) T.z_str (by decide +kernel) (pa_cons (C8.pe_gc (by rfl) T.g_LATEST) pa_nil)) pa_nil)) (nomark _)))))
      (pss_one (ps_ret pe_bl))
      pss_nil)
      (pss_one (ps_ret (pe_and (pe_cmpR op_eq (pv 0) (pe_callTy call_str_int (by rfl) T.z_str (by decide +kernel) (pa_cons (pe_callTy call_int_str (by rfl) T.z_int (by decide +kernel) (pa_cons (pv 0) pa_nil)) pa_nil)) (nomark _)) (pe_one (pe_cmpR op_le (pe_callTy call_int_str (by rfl) T.z_int (by decide +kernel) (pa_cons (pv 0) pa_nil)) (C8.pe_gc (by rfl) T.g_LATEST) (nomark _))))))), ?_⟩
    refine ⟨.str _, rfl, rfl, _, rfl, rfl, trivial, _, rfl, ite2 (fun z => ?_) (fun z => ?_)⟩
    · have z : Txt.isdigit x = false := by simpa using z
      refine (show Q (.bl false) H from ?_)
      have e : isDecF x = false := by
        unfold isDecF
        rw [dg] at z
        rcases Bool.and_eq_false_iff.mp z with z | z
        · rw [z, Bool.false_and, Bool.false_and]
        · rw [z, Bool.and_false, Bool.and_false, Bool.false_and]
      rw [← e]
      exact q
    · have z : Txt.isdigit x = true := by simpa using z
      rw [dg] at z
      obtain ⟨z1, z2⟩ := Bool.and_eq_true_iff.mp z
      have da := dig_all.mp z2
      refine ⟨.str _, rfl, _, rfl, small_line (by omega), _, rfl, (by decide +kernel), _, rfl, small_line (by rw [show (Str.ofString (toString (1000000000000 : Int))).length = 13 from lat]; decide), _, _, rfl, rfl, _, rfl, ite2 (fun z => ?_) (fun z => ?_)⟩
      · have z := of_decide_eq_true z
        rw [show (Str.ofString (toString (1000000000000 : Int))).length = 13 from lat] at z
        have e : isDecF x = false := by
          unfold isDecF
          rw [decide_eq_false (show ¬ x.length ≤ 13 by omega), Bool.false_and, Bool.and_false, Bool.false_and]
        rw [← e]
        exact q
      · have z3 : x.length ≤ 13 := by
          have : ¬ ((13 : Nat) : Int) < (x.length : Nat) := fun k => z (by rw [show (Str.ofString (toString (1000000000000 : Int))).length = 13 from lat]; exact decide_eq_true k)
          omega
        have it : intText? x = some ((NumText.digitsVal (TL.tl x) : Nat) : Int) := intText_digits da (of_decide_eq_true z1) (by omega)
        have lt : NumText.digitsVal (TL.tl x) < 10 ^ 13 := dig_lt da (by rw [← TL.len_tl]; exact z3)
        obtain ⟨n, en⟩ : ∃ n, n = NumText.digitsVal (TL.tl x) := ⟨_, rfl⟩
        rw [← en] at it lt
        have key : ∀ m : Nat, x = numS m → m = n := fun m e => by rw [en, e, tl_numS, TL.numL_val]
        refine ⟨.str x, rfl, .str x, rfl, _, (n : Int), rfl, it, by omega, _, rfl, Nat.lt_trans (PySem.Flt.log2_lt_of (k := 44) (by decide) (by omega)) (by decide), rfl, _, rfl, ite2 (fun c => ?_) (fun c => ?_)⟩
        · have c : x = numS n := V.str.inj (of_decide_eq_true c)
          refine ⟨.str x, rfl, _, (n : Int), rfl, it, by omega, _, _, rfl, rfl, ?_⟩
          refine (show Q (.bl (decide ((n : Int) ≤ 1000000000000))) H from ?_)
          have e : isDecF x = decide ((n : Int) ≤ 1000000000000) := by
            by_cases k : n ≤ 1000000000000
            · rw [c, num_dec k, decide_eq_true (by omega)]
            · rw [decide_eq_false (by omega)]
              refine Bool.eq_false_iff.mpr fun z => ?_
              obtain ⟨m, hm, e⟩ := dec_num z
              have := key m e
              omega
          rw [← e]
          exact q
        · refine (show Q (.bl false) H from ?_)
          have e : isDecF x = false := Bool.eq_false_iff.mpr fun z => by
            obtain ⟨m, hm, e⟩ := dec_num z
            have em := key m e
            rw [em] at e
            exact c (decide_eq_true (congrArg V.str e))
          rw [← e]
          exact q
end

end Fk

set_option maxHeartbeats 4000000
namespace Fk
open PySem PySem.Spec PyProof.Rows L2
section
variable {P : Program} {w : World} {K : PySem.W.Frag} {mg : Str → Option Value} {base : Heap}
def spMsg5 : Sp := fun vs H Q _ => ∃ x : Str, vs = [.str x] ∧ x.length ≤ 4000 ∧ PlL (TL.tl x) ∧ ∀ H', Same H H' → Q (.bl (Al.msg.f x)) H'
theorem c_is_message5 (T : Top K mg) : C8.Cal P w K mg base 2 "is_message" spMsg5 [] := by
  refine cal_of T.d_is_message sc_is_message (fun _ _ _ _ _ _ us hl => match us, hl with | [_], _ => rfl) (fun vs H Q E h => ?_) (fun f cdv A outer s H vs Q E hr h => ?_)
  · obtain ⟨x, rfl, _⟩ := h
    rfl
  · obtain ⟨x, rfl, hl, pl, q⟩ := h
    refine ⟨_, (pss_one (ps_ret (pe_and (C8.pe_c (c_is_text T) hr (by decide) (by rfl) (pa_cons (pv 0) pa_nil)) (pe_one (pe_cmpR op_le (pe_callB call_len_str (by rfl) T.z_len (by decide +kernel) (pa_cons (pv 0) pa_nil)) (C8.pe_gc (by rfl) T.g_LONGEST_MESSAGE) (nomark _)))))), ?_⟩
    refine ⟨.str x, rfl, .str x, rfl, .str x (by omega) pl.ok, fun H1 s1 => ⟨_, rfl, ?_⟩⟩
    rw [show evalV isTextF (.str x) = isTextF x from rfl]
    have q := q H1 s1
    unfold Al.f at q
    dsimp only at q
    by_cases c : isTextF x = true
    · rw [c] at q ⊢
      refine iteT ⟨.str x, rfl, x, rfl, small_line (by omega), _, _, rfl, rfl, ?_⟩
      show Q (.bl (decide ((x.length : Int) ≤ 200))) H1
      rw [show decide ((x.length : Int) ≤ 200) = decide (x.length ≤ 200) from decide_eq_decide.mpr (by omega)]
      rwa [Bool.true_and] at q
    · have c : isTextF x = false := by simpa using c
      rw [c] at q ⊢
      rw [Bool.false_and] at q
      exact iteF q
theorem allow_held (T : Top K mg) : ∀ f sp, allowS mg f = some sp → Held P w K mg base 3 f sp := fun f sp h => by
  unfold allowS at h
  cases hf : ALLS.find? (fun a => mg a.nm == some (.ref f)) with
  | none => rw [hf] at h; cases h
  | some y =>
    rw [hf] at h
    cases h
    have ey : mg y.nm = some (.ref f) := eq_of_beq (List.find?_some (p := fun a : Al => mg a.nm == some (.ref f)) hf)
    have go : ∀ {k : Nat} {sp' : Sp}, C8.Cal P w K mg base k y.nm sp' [] → k ≤ 3 → (∀ vs H Q E, spA y vs H Q E → sp' vs H Q E) → Held P w K mg base 3 f (spA y) := fun C hk hi => by
      obtain ⟨f', fd, ps, ds, F, hm, hkp, hb, hv⟩ := C.ex
      rw [ey] at hm
      cases hm
      cases hv
      exact ⟨fd, ps, (F.mono hk).imp hi, hkp, hb⟩
    cases y with
    | text => exact go (c_is_text T) (by decide) fun vs H Q E ⟨x, e, l, p, q⟩ => ⟨.str x, e, .str x (by omega) p.ok, q⟩
    | id => exact go (c_is_id T) (by decide) fun vs H Q E ⟨x, e, l, p, q⟩ => ⟨.str x, e, .str x (by omega) p.ok, q⟩
    | seg => exact go (c_is_segment T) (by decide) fun vs H Q E ⟨x, e, l, p, q⟩ => ⟨.str x, e, .str x (by omega) p.ok, q⟩
    | auth => exact go (c_is_author T) (by decide) fun vs H Q E ⟨x, e, l, p, q⟩ => ⟨.str x, e, .str x (by omega) p.ok, q⟩
    | msg => exact go (c_is_message5 T) (by decide) fun vs H Q E ⟨x, e, l, p, q⟩ => ⟨x, e, l, p, q⟩
    | time => exact go (c__is_decimal_time T) (by decide) fun vs H Q E ⟨x, e, l, p, q⟩ => ⟨x, e, l, p, q H (Same.refl H)⟩
def spBehindP : Sp := fun vs H Q _ => ∃ (n : Nat) (a b : Str), vs = [.int n, .str a, .str b] ∧ a.length ≤ 1000000 ∧ b.length ≤ 1000000 ∧ Q (.int ((n + a.length + b.length + 2 : Nat) : Int)) H
theorem c__behind (T : Top K mg) : C8.Cal P w K mg base 1 "_behind" spBehindP [] := by
  refine cal_of T.d__behind sc__behind (fun _ _ _ _ _ _ us hl => match us, hl with | [_, _, _], _ => rfl) (fun vs H Q E h => ?_) (fun f cdv A outer s H vs Q E hr h => ?_)
  · obtain ⟨n, a, b, rfl, _⟩ := h
    rfl
  · obtain ⟨n, a, b, rfl, ha, hb, q⟩ := h
    refine ⟨_, (pss_one (ps_ret (pe_op op_add (pe_op op_add (pe_op op_add (pv 0) (pe_callB call_len_str (by rfl) T.z_len (by decide +kernel) (pa_cons (pv 1) pa_nil))) (pe_callB call_len_str (by rfl) T.z_len (by decide +kernel) (pa_cons (pv 2) pa_nil))) pe_int))), ?_⟩
    refine ⟨.int n, rfl, .str a, rfl, a, rfl, small_line ha, _, _, rfl, rfl, .str b, rfl, b, rfl, small_line hb, _, _, rfl, rfl, _, _, rfl, rfl, ?_⟩
    exact q
theorem gf {x : Str} {st : Stmt} (D : IsDef K mg x st) : ∃ f, mg x = some (.ref f) := by
  obtain ⟨f, fd, d, _⟩ := D
  exact ⟨f, d.mgf⟩
end
/-- the classes, and the error with an index -/
structure TopB (K : PySem.W.Frag) (mg : Str → Option Value) (c : C4) (CS cX iX ek pd cO iO : Addr) : Prop extends TopO K mg c CS cX iX ek pd where
  eO : ErrC K mg "BadObject" "at" cO iO
  exO : PySem.W.exmOne K (.ref cO) (.ref cO) = some true
theorem calX_of {P : Program} {w : World} {K : PySem.W.Frag} {mg : Str → Option Value} {base : Heap} {x : Str} {st : Stmt} {N ps : List Str} {k : Nat} {sp : Sp} (D : IsDef K mg x st) (S : FnScope N ps (C8.fnScope st))
    (hb : ∀ (kV doc pm : Value) (an : Option Addr) (cdv ct : Value) (us : List Value), us.length = ps.length → bindArgs (PySem.W.fnOf x x (C8.fnArgs st) (C8.fnBody st) (C8.fnScope st) .none kV doc pm an cdv ct) ⟨us, []⟩ = pure (ps.zip us))
    (len : ∀ vs H Q E, sp vs H Q E → vs.length = ps.length)
    (hbody : ∀ (f : Addr) (cdv : Value) (A : Around) (outer : List Env) (s : Shared) (H : Hp) (vs : List V) (Q : VK) (E : XK), Room k (A.deeper (envOfC x (C8.fnScope st) s.heap.objs.size f cdv)) → sp vs H Q E →
      ∃ t, PSs (cxOf (L2.CX P w) P w K mg base N x (C8.fnScope st) f cdv A outer s H E) (C8.fnBody st) t ∧ t { nx := fun _ H' => Q .non H', rt := Q } (start N vs) H) : CalX P w K mg base (L2.CX P w) (k + 1) x sp [] := by
  obtain ⟨f, fd, D, df⟩ := D
  obtain ⟨oc, od, dV, kV, doc, pm, an, cdv, ct, osl, rfl, lk, hcd⟩ := D.fn.ex
  exact ⟨f, _, ps, [], fn_of lk hcd S len fun A outer s H vs Q E hr hsp => hbody f cdv A outer s H vs Q E hr hsp, D.mgf, D.kp, D.fn.binds df hb, .nil⟩
/-- the error with this index -/
def Bad (cO : Addr) (H : Hp) (n : Nat) (E : XK) : Prop := ∀ d H', Same H H' → H' d = some (.xd [("at", .int n)]) → E (.ref cO) (some d) H'
theorem Bad.same {cO : Addr} {H H1 : Hp} {n : Nat} {E : XK} (b : Bad cO H n E) (s : Same H H1) : Bad cO H1 n E := fun d H' t e => b d H' (s.trans t) e
section
variable {P : Program} {w : World} {K : PySem.W.Frag} {mg : Str → Option Value} {base : Heap} {c : C4} {CS cX iX ek pd cO iO : Addr}
def spTextAt (mg : Str → Option Value) (cO : Addr) : Sp := fun vs H Q E => ∃ (L : List Nat) (n : Nat) (f : Addr) (a : Al) (x : Str), vs = [.byt (bytL L), .int n, .ref f] ∧ mg a.nm = some (.ref f) ∧ PlL L ∧ n ≤ L.length ∧ L.length ≤ 4000 ∧ L.drop n = TL.tl x ∧ (a.f x = true → ∀ H', Same H H' → Q (.str x) H') ∧ (a.f x = false → Bad cO H n E)
theorem cx__text_at (S : TopB K mg c CS cX iX ek pd cO iO) : CalX P w K mg base (L2.CX P w) 4 "_text_at" (spTextAt mg cO) [] := by
  have T := S.toTopO
  refine calX_of T.d__text_at sc__text_at (fun _ _ _ _ _ _ us hl => match us, hl with | [_, _, _], _ => rfl) (fun vs H Q E h => ?_) (fun f cdv A outer s H vs Q E hr h => ?_)
  · obtain ⟨L, n, f, a, x, rfl, _⟩ := h
    rfl
  · obtain ⟨L, n, g, a, x, rfl, hg, ha, hn, hl, ex, q, b⟩ := h
    have A_is_allowed := allow_held (P := P) (w := w) (base := base) T.toTop
    have pk : PySem.W.KBy.picked (bytL L) (some (n : Int)) none = bytL (L.drop n) := pkf_L hn
    have plx : PlL (TL.tl x) := by
      rw [← ex]
      exact ha.sub fun u hu => List.mem_of_mem_drop hu
    have had : AsL (L.drop n) := by
      rw [ex]
      exact plx.as
    have sz := bytL_size L
    have szd := bytL_size (L.drop n)
    have lx : x.length ≤ 4000 := by
      have := congrArg List.length ex
      rw [List.length_drop, ← TL.len_tl] at this
      omega
    rw [List.length_drop] at szd
    have fin : strB (bytL (L.drop n)) = x := (strB_L had).trans (by rw [ex])
    refine ⟨_, (pss_cons (ps_if (PW.pt (pw_or (pt_not (pt_val (pe_bB0 slot_isascii type_isascii mt_bascii (pe_slice sl_byt (pv 0) (po_some (pv 1)) po_none)))) (pw_or1 (pt_not (pt_val (pe_callA (A_is_allowed) hr (i := 2) rfl (by first | exact Or.inl rfl | exact Or.inr (Or.inl rfl)) (pa_cons (pe_bB slot_bdecode type_bdecode mt_bdecode (pe_slice sl_byt (pv 0) (po_some (pv 1)) po_none) (pa_cons pe_str pa_nil)) pa_nil)))))))
      (pss_one (ps_raise rfl (takes_of rfl rfl rfl rfl) (rs_of S.eO (hr.mono (by decide)) (by rfl) (pa_cons (pv 1) pa_nil))))
      pss_nil)
      (pss_one (ps_ret (pe_bB slot_bdecode type_bdecode mt_bdecode (pe_slice sl_byt (pv 0) (po_some (pv 1)) po_none) (pa_cons pe_str pa_nil))))), ?_⟩
    refine ⟨.byt (bytL L), rfl, .int n, rfl, _, rfl, bytL L, rfl, by omega, ⟨_, rfl⟩, _, rfl, rfl, _, rfl, ifF (fun z => ?_) ?_⟩
    · rw [pk, asc_L had] at z
      cases z
    refine ⟨g, _, rfl, allow_at T.toTop hg, ?_⟩
    refine ⟨.byt (bytL L), rfl, .int n, rfl, _, rfl, bytL L, rfl, by omega, ⟨_, rfl⟩, _, rfl, rfl, by rw [pk]; exact asc_L had, by rw [pk, szd]; omega, ?_⟩
    rw [pk, fin]
    refine ⟨x, rfl, lx, plx, fun H1 s1 => ⟨_, rfl, ?_⟩⟩
    cases e : a.f x with
    | false =>
      refine ifT rfl ⟨.int n, rfl, (by show 1 ≤ 1000; decide), do_raise S.eO fun dd H3 s3 _ h3 => b e dd H3 (s1.trans s3) h3⟩
    | true =>
      refine ifF (fun z => by cases z) ?_
      refine ⟨.byt (bytL L), rfl, .int n, rfl, _, rfl, bytL L, rfl, by omega, ⟨_, rfl⟩, _, rfl, rfl, by rw [pk]; exact asc_L had, by rw [pk, szd]; omega, ?_⟩
      rw [pk, fin]
      exact q e H1 s1
def spWordAt (mg : Str → Option Value) (cO : Addr) : Sp := fun vs H Q E => ∃ (L : List Nat) (n : Nat) (ls : List Str) (t : Str) (f : Addr) (a : Al) (hd : Str), vs = [.byt (bytL L), .int n, .str hd, .ref f] ∧ Tx L n ls t ∧ mg a.nm = some (.ref f) ∧ 32 ∉ TL.tl hd ∧ hd.length ≤ 100 ∧ (∀ x, wordF a hd ls = some x → ∀ H', Same H H' → Q (.str x) H') ∧ (wordF a hd ls = none → Bad cO H n E)
theorem cx__word_at (S : TopB K mg c CS cX iX ek pd cO iO) : CalX P w K mg base (L2.CX P w) 4 "_word_at" (spWordAt mg cO) [] := by
  have T := S.toTopO
  refine calX_of T.d__word_at sc__word_at (fun _ _ _ _ _ _ us hl => match us, hl with | [_, _, _, _], _ => rfl) (fun vs H Q E h => ?_) (fun f cdv A outer s H vs Q E hr h => ?_)
  · obtain ⟨L, n, ls, t, f, a, hd, rfl, _⟩ := h
    rfl
  · obtain ⟨L, n, ls, t, g, a, hd, rfl, tx, hg, hs, hl, q, b⟩ := h
    have A_is_allowed := allow_held (P := P) (w := w) (base := base) T.toTop
    have l1 : (" " : Str).length = 1 := lit1.1
    refine ⟨_, (pss_cons (ps_set (i := 4) sc__word_at.nd rfl (Or.inl rfl) (C8.pe_c (c__line_at T.toTop) hr (by decide) (by rfl) (pa_cons (pv 0) (pa_cons (pv 1) pa_nil))))
      (pss_cons (ps_if (PW.pt (pw_or (pt_cmpR op_isN (pv 4) pe_non (nomark _)) (pw_or (pt_not (pt_val (pe_bm PySem.F.plainAttrs_str PySem.F.slot_str_startswith PySem.F.type_str_startswith mt_startswith (pv 4) (pa_cons (pe_op op_add_str (pv 2) pe_str) pa_nil)))) (pw_or1 (pt_not (pt_val (pe_callA (A_is_allowed) hr (i := 3) rfl (by first | exact Or.inl rfl | exact Or.inr (Or.inl rfl)) (pa_cons (pe_slice sl_str (pv 4) (po_some (pe_op op_add (pe_callB call_len_str (by rfl) T.z_len (by decide +kernel) (pa_cons (pv 2) pa_nil)) pe_int)) po_none) pa_nil))))))))
      (pss_one (ps_raise rfl (takes_of rfl rfl rfl rfl) (rs_of S.eO (hr.mono (by decide)) (by rfl) (pa_cons (pv 1) pa_nil))))
      pss_nil)
      (pss_one (ps_ret (pe_slice sl_str (pv 4) (po_some (pe_op op_add (pe_callB call_len_str (by rfl) T.z_len (by decide +kernel) (pa_cons (pv 2) pa_nil)) pe_int)) po_none))))), ?_⟩
    refine ⟨.byt (bytL L), rfl, .int n, rfl, L, n, ls, t, rfl, tx, ?_⟩
    cases ls with
    | nil => exact ⟨.non, rfl, rfl, _, rfl, ifT rfl ⟨.int n, rfl, (by show 1 ≤ 1000; decide), do_raise S.eO fun dd H3 s3 _ h3 => b rfl dd H3 s3 h3⟩⟩
    | cons r ls =>
      obtain ⟨rl, rp⟩ := tx.mem (r := r) List.mem_cons_self
      have ew : wordF a hd (r :: ls) = (match restF hd r with
        | none => none
        | some x => if a.f x = true then some x else none) := rfl
      rw [restF_eq hs] at ew
      refine ⟨.str r, rfl, rfl, _, rfl, ifF (fun z => by cases z) ?_⟩
      refine ⟨.str r, rfl, rfl, .str hd, rfl, _, _, rfl, rfl, small_line (by rw [l1]; omega), _, _, rfl, rfl, _, rfl, ?_⟩
      by_cases st : Txt.startswith r (hd ++ (" " : Str)) = true
      · rw [if_pos st] at ew
        dsimp only at ew
        refine ifF (fun z => ?_) ?_
        · have z : (!Txt.startswith r (hd ++ (" " : Str))) = true := z
          rw [st] at z
          cases z
        have dl := drop_len r (hd.length + 1)
        refine ⟨g, _, rfl, allow_at T.toTop hg, .str _, rfl, .str hd, rfl, hd, rfl, small_line (by omega), _, _, rfl, rfl, _, rfl, _, rfl, small_line (by omega), ?_⟩
        refine ⟨dropS r (hd.length + 1), rfl, by omega, ?_, fun H1 s1 => ⟨_, rfl, ?_⟩⟩
        · rw [tl_drop]
          exact rp.sub fun u hu => List.mem_of_mem_drop hu
        cases e : a.f (dropS r (hd.length + 1)) with
        | false =>
          rw [e, if_neg Bool.false_ne_true] at ew
          exact ifT rfl ⟨.int n, rfl, (by show 1 ≤ 1000; decide), do_raise S.eO fun dd H3 s3 _ h3 => b ew dd H3 (s1.trans s3) h3⟩
        | true =>
          rw [e, if_pos rfl] at ew
          refine ifF (fun z => by cases z) ?_
          refine ⟨.str _, rfl, .str hd, rfl, hd, rfl, small_line (by omega), _, _, rfl, rfl, _, rfl, _, rfl, small_line (by omega), ?_⟩
          exact q _ ew H1 s1
      · rw [if_neg st] at ew
        refine ifT ?_ ⟨.int n, rfl, (by show 1 ≤ 1000; decide), do_raise S.eO fun dd H3 s3 _ h3 => b ew dd H3 s3 h3⟩
        show (!Txt.startswith r (hd ++ (" " : Str))) = true
        rw [Bool.eq_false_iff.mpr st]
        rfl
def spMsgAt (cO : Addr) : Sp := fun vs H Q E => ∃ (L : List Nat) (n : Nat) (ls : List Str) (t : Str), vs = [.byt (bytL L), .int n] ∧ Tx L n ls t ∧ ((∀ rs, ls ≠ ("" : Str) :: rs) → Bad cO H n E) ∧
  ∀ rs y, ls = ("" : Str) :: rs → TL.tl y = flatL rs ++ TL.tl t → (y.length ≤ 200 → isTextF y = true → ∀ H', Same H H' → Q (.str y) H') ∧ (200 < y.length → Bad cO H (n + 1) E)
theorem cx__message_at (S : TopB K mg c CS cX iX ek pd cO iO) : CalX P w K mg base (L2.CX P w) 5 "_message_at" (spMsgAt cO) [] := by
  have T := S.toTopO
  refine calX_of T.d__message_at sc__message_at (fun _ _ _ _ _ _ us hl => match us, hl with | [_, _], _ => rfl) (fun vs H Q E h => ?_) (fun f cdv A outer s H vs Q E hr h => ?_)
  · obtain ⟨L, n, ls, t, rfl, _⟩ := h
    rfl
  · obtain ⟨L, n, ls, t, rfl, tx, b, q⟩ := h
    obtain ⟨g, hg⟩ := gf T.d_is_message
    have g_is_message : ∃ u, mg "is_message" = some u ∧ RelV (.ref g) u := ⟨_, hg, rfl⟩
    refine ⟨_, (pss_cons (ps_if (pt_cmpR op_ne (C8.pe_c (c__line_at T.toTop) hr (by decide) (by rfl) (pa_cons (pv 0) (pa_cons (pv 1) pa_nil))) pe_str (nomark _))
      (pss_one (ps_raise rfl (takes_of rfl rfl rfl rfl) (rs_of S.eO (hr.mono (by decide)) (by rfl) (pa_cons (pv 1) pa_nil))))
      pss_nil)
      (pss_one (ps_ret (pe_cx (cx__text_at S) hr (by decide) (fun _ => passAt (takes_of rfl rfl rfl rfl) _) (by rfl) (pa_cons (pv 0) (pa_cons (pe_op op_add (pv 1) pe_int) (pa_cons (C8.pe_gc (by rfl) g_is_message) pa_nil))))))), ?_⟩
    refine ⟨.byt (bytL L), rfl, .int n, rfl, L, n, ls, t, rfl, tx, ?_⟩
    by_cases k : ∃ rs, ls = ("" : Str) :: rs
    · obtain ⟨rs, rfl⟩ := k
      refine ⟨rfl, _, rfl, ifF (fun z => ?_) ?_⟩
      · have z : (!decide (V.str ("" : Str) = V.str ("" : Str))) = true := z
        rw [decide_eq_true rfl] at z
        cases z
      have tx2 := tx.next
      have e0 : ("" : Str).length = 0 := by decide +kernel
      rw [e0] at tx2
      obtain ⟨y, ey, ly, py⟩ := tx2.tail
      have ey2 : TL.tl y = flatL rs ++ TL.tl t := by rw [← ey]; exact tx2.e
      obtain ⟨q1, q2⟩ := q rs y rfl ey2
      have tn := tx2.len
      have tl4 := tx2.ln
      refine ⟨.byt (bytL L), rfl, .int n, rfl, _, _, rfl, rfl, L, n + 1, g, .msg, y, rfl, hg, tx.pl, by omega, tl4, ey, fun z => ?_, fun z => ?_⟩
      · obtain ⟨z1, z2⟩ := Bool.and_eq_true_iff.mp (show (isTextF y && decide (y.length ≤ 200)) = true from z)
        exact q1 (of_decide_eq_true z2) z1
      · have z : (isTextF y && decide (y.length ≤ 200)) = false := z
        rw [py.text] at z
        refine q2 ?_
        refine Classical.byContradiction fun h => ?_
        rw [decide_eq_true (show y.length ≤ 2000 by omega), decide_eq_true (show y.length ≤ 200 by omega)] at z
        cases z
    · refine ⟨?_, _, rfl, ifT ?_ ⟨.int n, rfl, (by show 1 ≤ 1000; decide), do_raise S.eO fun dd H3 s3 _ h3 => b (fun rs e => k ⟨rs, e⟩) dd H3 s3 h3⟩⟩
      · cases ls <;> rfl
      · cases ls with
        | nil => decide +kernel
        | cons r rs =>
          refine (show (!decide (V.str r = V.str ("" : Str))) = true from ?_)
          rw [decide_eq_false fun z => k ⟨rs, by rw [V.str.inj z]⟩]
          rfl
end

end Fk

set_option maxHeartbeats 4000000
/-! An object's lines, row by row. -/
namespace Fk
open PySem PySem.Spec PyProof.Rows L2
theorem ints_L {L : List Nat} (h : AsL L) : PySem.W.KBw.bInts (bytL L) = L.map fun (u : Nat) => (u : Int) := by
  show (L.map (·.toUInt8)).map (fun b => ((b.toNat : Nat) : Int)) = _
  rw [List.map_map]
  exact List.map_congr_left fun u hu => congrArg (fun n : Nat => (n : Int)) (u8_nat (h u hu))
theorem ints_inj : ∀ a b : List Nat, a.map (fun (u : Nat) => (u : Int)) = b.map (fun (u : Nat) => (u : Int)) → a = b := by
  intro a
  induction a with
  | nil => intro b h; cases b with
    | nil => rfl
    | cons x r => cases h
  | cons x r ih => intro b h; cases b with
    | nil => cases h
    | cons y s =>
      rw [List.map_cons, List.map_cons] at h
      injection h with h1 h2
      rw [ih s h2, show x = y by omega]
theorem starts_eq {R M : List Nat} (hR : AsL R) (hM : AsL M) : PySem.W.KBf.starts (PySem.W.KBw.bInts (bytL R)) (PySem.W.KBw.bInts (bytL M)) = decide (R.take M.length = M) := by
  rw [ints_L hR, ints_L hM]
  unfold PySem.W.KBf.starts
  rw [List.length_map, ← List.map_take, Bool.eq_iff_iff]
  constructor
  · intro z
    exact decide_eq_true (ints_inj _ _ (eq_of_beq z))
  · intro z
    rw [of_decide_eq_true z]
    exact beq_self_eq_true _
theorem par_lit : TL.tl ("parent " : Str) = [112, 97, 114, 101, 110, 116, 32] := by decide +kernel
theorem par_as : AsL (TL.tl ("parent " : Str)) := by
  rw [par_lit]
  intro u hu
  simp only [List.mem_cons, List.not_mem_nil, or_false] at hu
  omega
theorem par_row {r : Str} {R : List Nat} : (TL.tl r ++ 10 :: R).take (TL.tl ("parent " : Str)).length = TL.tl ("parent " : Str) ↔ Txt.startswith r "parent " = true := by
  rw [starts_iff]
  have l7 : (TL.tl ("parent " : Str)).length = 7 := by rw [par_lit]; rfl
  have l7' : ("parent " : Str).length = 7 := by rw [TL.len_tl]; exact l7
  rw [l7, l7']
  by_cases c : 7 ≤ (TL.tl r).length
  · rw [List.take_append_of_le_length c]
  · constructor
    · intro z
      have m : 10 ∈ TL.tl ("parent " : Str) := by
        rw [← z, List.take_append, List.mem_append]
        right
        obtain ⟨k, hk⟩ : ∃ k, 7 - (TL.tl r).length = k + 1 := ⟨6 - (TL.tl r).length, by omega⟩
        rw [hk]
        exact List.mem_cons_self
      rw [par_lit] at m
      simp at m
    · intro z
      have := congrArg List.length z
      rw [List.length_take, l7] at this
      omega
/-! ### the lines of an object -/
def kindF : Ob → Str
  | .blob _ => "blob"
  | .tree _ => "tree"
  | .commit .. => "commit"
  | .tag .. => "tag"
def rowsO : Ob → List Str
  | .blob _ => []
  | .tree es => es.map lineF
  | .commit t ps au tm _ => (("tree" : Str) ++ (" " : Str) ++ t) :: (ps.map parR ++ [("author" : Str) ++ (" " : Str) ++ au, ("time" : Str) ++ (" " : Str) ++ Str.ofString (toString tm), ("" : Str)])
  | .tag tg lb _ => [("target" : Str) ++ (" " : Str) ++ tg, ("label" : Str) ++ (" " : Str) ++ lb, ("" : Str)]
def tailO : Ob → Str
  | .blob x => x
  | .tree _ => ""
  | .commit _ _ _ _ msg => msg
  | .tag _ _ msg => msg
theorem lits_all : TL.tl ("blob\n" : Str) = TL.tl ("blob" : Str) ++ [10] ∧ TL.tl ("tree\n" : Str) = TL.tl ("tree" : Str) ++ [10] ∧ TL.tl ("tag\ntarget " : Str) = TL.tl ("tag" : Str) ++ 10 :: (TL.tl ("target" : Str) ++ [32]) ∧ TL.tl ("\nlabel " : Str) = 10 :: (TL.tl ("label" : Str) ++ [32]) ∧ TL.tl ("\n\n" : Str) = [10, 10] ∧ TL.tl Str.empty = [] ∧
    TL.tl ("commit\ntree " : Str) = TL.tl ("commit" : Str) ++ 10 :: (TL.tl ("tree" : Str) ++ [32]) ∧ TL.tl ("parent " : Str) = TL.tl ("parent" : Str) ++ [32] ∧ TL.tl ("author " : Str) = TL.tl ("author" : Str) ++ [32] ∧ TL.tl ("\ntime " : Str) = 10 :: (TL.tl ("time" : Str) ++ [32]) := by decide +kernel
theorem line_tl (e : Ent) : TL.tl (lineF e) = TL.tl e.2.1 ++ 32 :: (TL.tl e.1 ++ 32 :: TL.tl e.2.2) := by
  unfold lineF
  rw [TL.join_eq, TL.tl_join, sp_one]
  rfl
theorem flat_par (ps : List Str) : (ps.map fun p => TL.tl (parF p)).flatten = flatL (ps.map parR) := by
  obtain ⟨_, _, _, _, _, l6, _, l8, _, _⟩ := lits_all
  unfold flatL
  rw [List.map_map]
  congr 1
  refine List.map_congr_left fun p _ => ?_
  show TL.tl (parF p) = TL.tl (parR p) ++ [10]
  unfold parF parR
  simp only [TL.tl_append, l6, l8, sp_one, nl_one, List.append_assoc, List.cons_append, List.nil_append]
theorem flat_line (es : List Ent) : (es.map fun e => TL.tl (rowF e)).flatten = flatL (es.map lineF) := by
  obtain ⟨_, _, _, _, _, l6, _, _, _, _⟩ := lits_all
  unfold flatL
  rw [List.map_map]
  congr 1
  refine List.map_congr_left fun e _ => ?_
  show TL.tl (rowF e) = TL.tl (lineF e) ++ [10]
  unfold rowF
  rw [line_tl]
  simp only [TL.tl_append, l6, sp_one, nl_one, List.append_assoc, List.cons_append, List.nil_append]
theorem enc_rows (o : Ob) : TL.tl (encF o) = TL.tl (kindF o) ++ 10 :: (flatL (rowsO o) ++ TL.tl (tailO o)) := by
  obtain ⟨l1, l2, l3, l4, l5, l6, l7, l8, l9, l10⟩ := lits_all
  cases o with
  | blob x =>
    show TL.tl (("blob\n" : Str) ++ x) = TL.tl ("blob" : Str) ++ 10 :: ([] ++ TL.tl x)
    rw [TL.tl_append, l1]
    simp
  | tree es =>
    show TL.tl (("tree\n" : Str) ++ Txt.join ("" : Str) (es.map rowF)) = TL.tl ("tree" : Str) ++ 10 :: (flatL (es.map lineF) ++ TL.tl ("" : Str))
    rw [TL.tl_append, l2, tl_join0, List.map_map, em_one, List.append_nil, ← flat_line]
    simp
    rfl
  | commit t ps au tm msg =>
    show TL.tl (headF t ps au tm ++ msg) = TL.tl ("commit" : Str) ++ 10 :: (flatL ((("tree" : Str) ++ (" " : Str) ++ t) :: (ps.map parR ++ [("author" : Str) ++ (" " : Str) ++ au, ("time" : Str) ++ (" " : Str) ++ Str.ofString (toString tm), ("" : Str)])) ++ TL.tl msg)
    unfold headF
    have e : (ps.map parF).map TL.tl = ps.map fun p => TL.tl (parF p) := by rw [List.map_map]; rfl
    rw [flat_cons, flat_app, flat_cons, flat_cons, flat_cons, em_one]
    simp only [TL.tl_append, l5, l6, l7, l9, l10, sp_one, nl_one, tl_join0, e, flat_par, List.append_assoc, List.cons_append, List.nil_append]
    rfl
  | tag tg lb msg =>
    show TL.tl (tagF tg lb msg) = TL.tl ("tag" : Str) ++ 10 :: (flatL [("target" : Str) ++ (" " : Str) ++ tg, ("label" : Str) ++ (" " : Str) ++ lb, ("" : Str)] ++ TL.tl msg)
    unfold tagF
    rw [flat_cons, flat_cons, flat_cons, em_one]
    simp only [TL.tl_append, l3, l4, l5, l6, sp_one, List.append_assoc, List.cons_append, List.nil_append]
    rfl
/-! ### what is due -/
theorem due_no {len a k : Nat} {steps ls : List Str} (h : faultF ls steps [] 0 = (k, false)) : dueS len steps a ls = some (a + flen (ls.take k)) := by
  unfold dueS
  rw [h, if_pos rfl]
theorem due_yes {len a k : Nat} {steps ls : List Str} (h : faultF ls steps [] 0 = (k, true)) : dueS len steps a ls = if len - (a + flen (ls.take k)) ≤ 200 then none else some (a + flen (ls.take k)) := by
  unfold dueS
  rw [h, if_neg (fun z => by cases z)]
theorem fr_words : 32 ∉ TL.tl ("tree" : Str) ∧ 32 ∉ TL.tl ("author" : Str) ∧ 32 ∉ TL.tl ("time" : Str) ∧ 32 ∉ TL.tl ("target" : Str) ∧ 32 ∉ TL.tl ("label" : Str) := by decide +kernel
theorem st_tree : ("tree" : Str) ≠ "empty" ∧ ((("tree" : Str) = "tree" ∨ ("tree" : Str) = "target") ∧ Al.id = .id ∨ ("tree" : Str) = "author" ∧ Al.id = .auth ∨ ("tree" : Str) = "label" ∧ Al.id = .seg ∨ ("tree" : Str) = "time" ∧ Al.id = .time) := ⟨by decide +kernel, .inl ⟨.inl rfl, rfl⟩⟩
theorem st_target : ("target" : Str) ≠ "empty" ∧ ((("target" : Str) = "tree" ∨ ("target" : Str) = "target") ∧ Al.id = .id ∨ ("target" : Str) = "author" ∧ Al.id = .auth ∨ ("target" : Str) = "label" ∧ Al.id = .seg ∨ ("target" : Str) = "time" ∧ Al.id = .time) := ⟨by decide +kernel, .inl ⟨.inr rfl, rfl⟩⟩
theorem st_auth : ("author" : Str) ≠ "empty" ∧ ((("author" : Str) = "tree" ∨ ("author" : Str) = "target") ∧ Al.auth = .id ∨ ("author" : Str) = "author" ∧ Al.auth = .auth ∨ ("author" : Str) = "label" ∧ Al.auth = .seg ∨ ("author" : Str) = "time" ∧ Al.auth = .time) := ⟨by decide +kernel, .inr (.inl ⟨rfl, rfl⟩)⟩
theorem st_label : ("label" : Str) ≠ "empty" ∧ ((("label" : Str) = "tree" ∨ ("label" : Str) = "target") ∧ Al.seg = .id ∨ ("label" : Str) = "author" ∧ Al.seg = .auth ∨ ("label" : Str) = "label" ∧ Al.seg = .seg ∨ ("label" : Str) = "time" ∧ Al.seg = .time) := ⟨by decide +kernel, .inr (.inr (.inl ⟨rfl, rfl⟩))⟩
theorem st_time : ("time" : Str) ≠ "empty" ∧ ((("time" : Str) = "tree" ∨ ("time" : Str) = "target") ∧ Al.time = .id ∨ ("time" : Str) = "author" ∧ Al.time = .auth ∨ ("time" : Str) = "label" ∧ Al.time = .seg ∨ ("time" : Str) = "time" ∧ Al.time = .time) := ⟨by decide +kernel, .inr (.inr (.inr ⟨rfl, rfl⟩))⟩
theorem not_auth : ("tree" : Str) ≠ "author" ∧ ("target" : Str) ≠ "author" ∧ ("label" : Str) ≠ "author" ∧ ("time" : Str) ≠ "author" := by decide +kernel
theorem auth_not_par {x : Str} : Txt.startswith (("author" : Str) ++ (" " : Str) ++ x) "parent " ≠ true := fun z => by
  rw [starts_iff, par_lit, show ("parent " : Str).length = 7 by decide +kernel, TL.tl_append, TL.tl_append, sp_one, show TL.tl ("author" : Str) = [97, 117, 116, 104, 111, 114] by decide +kernel] at z
  simp at z
theorem fault_pars : ∀ (ps cur : List Str) {rest ss : List Str} {n : Nat}, (∀ p ∈ ps, isIdF p = true) → (cur ++ ps).Nodup → (cur ++ ps).length ≤ 6 → faultF (ps.map parR ++ rest) ("author" :: ss) cur n = faultF rest ("author" :: ss) (cur ++ ps) (n + ps.length)
  | [], cur, rest, ss, n, _, _, _ => by rw [List.append_nil]; rfl
  | p :: ps, cur, rest, ss, n, h1, h2, h3 => by
    have hp : p ∉ cur := fun z => (List.nodup_append.mp h2).2.2 p z p List.mem_cons_self rfl
    have hl : cur.length < 6 := by
      rw [List.length_append, List.length_cons] at h3
      omega
    show faultF (parR p :: (ps.map parR ++ rest)) _ _ _ = _
    rw [fault_par (h1 p List.mem_cons_self) hp hl, fault_pars ps (cur ++ [p]) (fun q hq => h1 q (List.mem_cons_of_mem _ hq)) (by rwa [List.append_assoc]) (by rwa [List.append_assoc]), List.append_assoc, List.length_cons]
    congr 1
    omega
theorem tree_line {e : Ent} (h : EntOk e) : entW (lineF e) = some e := by
  have fr : ∀ x ∈ [e.2.1, e.1, e.2.2], 32 ∉ TL.tl x := by
    have ks : ∀ k ∈ KINDS, 32 ∉ TL.tl k := by decide +kernel
    have nh : 32 ∉ TL.tl HEX ∧ 32 ∉ TL.tl SSG := by decide +kernel
    intro x hx
    simp only [List.mem_cons, List.not_mem_nil, or_false] at hx
    rcases hx with rfl | rfl | rfl
    · exact ks _ h.2.1
    · have hs := h.1
      unfold isSegF isWordF at hs
      simp only [Bool.and_eq_true] at hs
      exact fun z => nh.2 (only_sub hs.1.2.2 _ z)
    · exact fun z => nh.1 (only_sub (Bool.and_eq_true_iff.mp (show (decide _ && _) = true from h.2.2)).2 _ z)
  have e1 : Txt.split (lineF e) " " = [e.2.1, e.1, e.2.2] := TL.split_join sp_one (by decide +kernel) (by simp) fr
  unfold entW
  rw [e1]
  dsimp only
  rw [if_pos]
  rw [decide_eq_true h.2.1, h.1, h.2.2]
  rfl
theorem tree_go : ∀ (es : List Ent) (k : Nat) (last : Str), (∀ e ∈ es, EntOk e) → k + es.length ≤ 30 → (last :: es.map (·.1)).Pairwise (fun a b : Str => a.cps.toList < b.cps.toList) → treeF (es.map lineF) k last = none
  | [], _, _, _, _, _ => rfl
  | e :: es, k, last, h, hk, pw => by
    obtain ⟨p1, p2⟩ := List.pairwise_cons.mp pw
    rw [List.length_cons] at hk
    show treeF (lineF e :: es.map lineF) k last = none
    unfold treeF
    rw [tree_line (h e List.mem_cons_self)]
    dsimp only
    rw [if_pos, tree_go es (k + 1) e.1 (fun f hf => h f (List.mem_cons_of_mem _ hf)) (by omega) p2]
    rw [decide_eq_true (p1 e.1 List.mem_cons_self), decide_eq_true (show k ≠ 30 by omega)]
    rfl
end Fk

set_option maxHeartbeats 4000000
namespace Fk
open PySem PySem.Spec PyProof.Rows L2
theorem parent_byt : ([112, 97, 114, 101, 110, 116, 32] : List UInt8).toArray = bytL (TL.tl ("parent " : Str)) := by decide +kernel
theorem par_test {rest : List Str} {t : Str} (h : (flatL rest ++ TL.tl t).take (TL.tl ("parent " : Str)).length = TL.tl ("parent " : Str)) : ∀ r rs, rest = r :: rs → Txt.startswith r "parent " = true := fun r rs e => by
  rw [e, flat_cons, List.append_assoc, List.cons_append] at h
  exact par_row.mp h
theorem par_test_no {rest : List Str} {t : Str} (h : ¬ (flatL rest ++ TL.tl t).take (TL.tl ("parent " : Str)).length = TL.tl ("parent " : Str)) : ∀ r rs, rest = r :: rs → Txt.startswith r "parent " ≠ true := fun r rs e z => by
  rw [e, flat_cons, List.append_assoc, List.cons_append] at h
  exact h (par_row.mpr z)
def ParsAt (ls cur rest : List Str) : Prop := ls = cur.map parR ++ rest ∧ (∀ x ∈ cur, isIdF x = true) ∧ cur.Nodup ∧ cur.length ≤ 6 ∧ ∀ ss c, faultF ls ("author" :: ss) [] c = faultF rest ("author" :: ss) cur (c + cur.length)
def parW (H : Hp) (L : List Nat) (n : Nat) (ls : List Str) (D : Addr) : Nat → L2.St → Hp → Prop := fun m σ H' => ∃ cur rest, m = rest.length ∧ ParsAt ls cur rest ∧ ∃ z3, σ = [some (.byt (bytL L)), some (.int ((n + flen (cur.map parR) : Nat) : Int)), some (.ref D), z3] ∧ Same H H' ∧ H' D = some (.lst (cur.map V.str))
theorem parR_len (x : Str) : (parR x).length = x.length + 7 := by
  unfold parR
  rw [len_app, len_app, show ("parent" : Str).length = 6 by decide +kernel, show (" " : Str).length = 1 by decide +kernel]
  omega
theorem inV_mem {x : Str} {l : List Str} : inV (.str x) (l.map V.str) = decide (x ∈ l) := by
  unfold inV
  rw [Bool.eq_iff_iff, List.any_eq_true]
  constructor
  · rintro ⟨v, hv, ev⟩
    obtain ⟨y, hy, rfl⟩ := List.mem_map.mp hv
    have ev : (y == x) = true := ev
    exact decide_eq_true (by rw [← eq_of_beq ev]; exact hy)
  · intro h
    refine ⟨.str x, List.mem_map.mpr ⟨x, of_decide_eq_true h, rfl⟩, ?_⟩
    show (x == x) = true
    exact beq_self_eq_true _
section
variable {P : Program} {w : World} {K : PySem.W.Frag} {mg : Str → Option Value} {base : Heap} {c : C4} {CS cX iX ek pd cO iO : Addr}
def spParents (cO : Addr) : Sp := fun vs H Q E => ∃ (L : List Nat) (n : Nat) (ls : List Str) (t : Str), vs = [.byt (bytL L), .int n] ∧ Tx L n ls t ∧
  (∀ cur rest p H', ParsAt ls cur rest → (∀ r rs, rest = r :: rs → Txt.startswith r "parent " ≠ true) → Same H H' → H' p = some (.tup (cur.map V.str)) → Q (.ref p) H') ∧
  ∀ cur rest, ParsAt ls cur rest → (∀ ss c, faultF rest ("author" :: ss) cur c = (c, false)) → Bad cO H (n + flen (cur.map parR)) E
theorem cx__parents_at (S : TopB K mg c CS cX iX ek pd cO iO) : CalX P w K mg base (L2.CX P w) 5 "_parents_at" (spParents cO) [] := by
  have T := S.toTopO
  refine calX_of T.d__parents_at sc__parents_at (fun _ _ _ _ _ _ us hl => match us, hl with | [_, _], _ => rfl) (fun vs H Q E h => ?_) (fun f cdv A outer s H vs Q E hr h => ?_)
  · obtain ⟨L, n, ls, t, rfl, _⟩ := h
    rfl
  · obtain ⟨L, n, ls, t, rfl, tx, q, b⟩ := h
    have sz := bytL_size L
    have lL := tx.ln
    obtain ⟨g, hg⟩ := gf T.d_is_id
    have g_is_id : ∃ u, mg "is_id" = some u ∧ RelV (.ref g) u := ⟨_, hg, rfl⟩
    refine ⟨_, (pss_cons (ps_set (i := 2) sc__parents_at.nd rfl (Or.inl rfl) (pe_lst pa_nil))
      (pss_cons (ps_while (passes_of rfl) (pt_val (pe_bB slot_bstarts type_bstarts mt_bstarts (pe_slice sl_byt (pv 0) (po_some (pv 1)) po_none) (pa_cons pe_byt pa_nil)))
      (pss_cons (ps_set (i := 3) sc__parents_at.nd rfl (Or.inl rfl) (pe_cx (cx__word_at S) hr (by decide) (fun _ => passAt (takes_of rfl rfl rfl rfl) _) (by rfl) (pa_cons (pv 0) (pa_cons (pv 1) (pa_cons pe_str (pa_cons (C8.pe_gc (by rfl) g_is_id) pa_nil))))))
      (pss_cons (ps_if (PW.pt (pw_or (pt_cmpR op_in_seq (pv 3) (pv 2) rfl) (pw_or1 (pt_cmpR op_eq (pe_callB call_len_seq (by rfl) T.z_len (by decide +kernel) (pa_cons (pv 2) pa_nil)) (C8.pe_gc (by rfl) T.g_MOST_PARENTS) (nomark _)))))
      (pss_one (ps_raise rfl (takes_of rfl rfl rfl rfl) (rs_of S.eO (hr.mono (by decide)) (by rfl) (pa_cons (pv 1) pa_nil))))
      pss_nil)
      (pss_cons (ps_expr (pe_bm PySem.F.plainAttrs_list PySem.F.slot_list_append PySem.F.type_list_append mt_append (pv 2) (pa_cons (pv 3) pa_nil)))
      (pss_one (ps_set (i := 1) sc__parents_at.nd rfl (Or.inl rfl) (C8.pe_c (c__behind T.toTop) hr (by decide) (by rfl) (pa_cons (pv 1) (pa_cons pe_str (pa_cons (pv 3) pa_nil))))))))))
      (pss_one (ps_ret (pe_callTy call_tuple_of (by rfl) T.z_tuple (by decide +kernel) (pa_cons (pv 2) pa_nil)))))), ?_⟩
    refine ⟨(by show 0 ≤ sizeLine; decide), fun D hD => ?_⟩
    refine ⟨parW H L n ls D, ⟨ls.length, [], ls, rfl, ⟨rfl, fun x hx => (List.not_mem_nil hx).elim, List.nodup_nil, by decide, fun ss c => rfl⟩, none, rfl, same_new hD, upd_same⟩, fun m σ H' I => ?_⟩
    obtain ⟨cur, rest, rfl, pa, z3, rfl, s1, hD1⟩ := I
    have pa' := pa
    obtain ⟨e1, ids, nd, l6, fe⟩ := pa'
    have tc : Tx L (n + flen (cur.map parR)) rest t := Tx.nexts _ (by rw [← e1]; exact tx)
    have lp := tc.hn
    have pk : PySem.W.KBy.picked (bytL L) (some (((n + flen (cur.map parR) : Nat) : Int))) none = bytL (L.drop (n + flen (cur.map parR))) := pkf_L lp
    refine ⟨.byt _, rfl, .int _, rfl, _, rfl, _, rfl, by omega, ⟨_, rfl⟩, _, _, rfl, rfl, ?_⟩
    rw [pk, parent_byt, starts_eq (tx.pl.as.sub fun u hu => List.mem_of_mem_drop hu) par_as, tc.e]
    by_cases k : (flatL rest ++ TL.tl t).take (TL.tl ("parent " : Str)).length = TL.tl ("parent " : Str)
    · rw [decide_eq_true k]
      refine ⟨_, rfl, iteT ?_⟩
      have hs := par_test k
      cases hrest : rest with
      | nil =>
        subst hrest
        refine ⟨fun _ _ => False, fun σ' H' nn => nn.elim, ?_⟩
        refine ⟨.byt _, rfl, .int _, rfl, L, n + flen (cur.map parR), [], t, g, .id, "parent", rfl, tc, hg, par_free, by decide +kernel, fun x hx => (by cases hx), fun hn => (b cur [] pa fun ss c => rfl).same s1⟩
      | cons r0 rs0 =>
      rw [← hrest]
      refine ⟨parW H L n ls D (rest.length - 1), fun σ' H' nn => ⟨_, by rw [hrest]; exact Nat.lt_succ_self _, nn⟩, ?_⟩
      refine ⟨.byt _, rfl, .int _, rfl, L, n + flen (cur.map parR), rest, t, g, .id, "parent", rfl, tc, hg, par_free, by decide +kernel, fun x hx H1 s2 => ?_, fun hn => ?_⟩
      · obtain ⟨rs, er, hi⟩ := word_row par_free hx
        have er : rest = parR x :: rs := er
        have idx : isIdF x = true := hi
        have lpi := id_len idx
        have hD2 := s2 _ _ hD1
        refine ⟨.str x, rfl, .ref D, rfl, D, _, rfl, .inl (SqL.of hD2), rfl, flat_strs cur, _, rfl, ?_⟩
        rw [inV_mem]
        have bad : (x ∈ cur ∨ cur.length = 6) → Bad cO H1 (n + flen (cur.map parR)) E := fun z => (b cur rest pa fun ss c => by
          rw [er]
          refine fault_par_no (hs _ _ er) fun y ey _ hy hl => ?_
          have : y = x := by
            have e := congrArg (fun r => dropS r 7) ey
            exact ((drop_self ("parent" : Str) x).symm.trans (e.trans (drop_self ("parent" : Str) y))).symm
          rw [this] at hy
          rcases z with z | z
          · exact hy z
          · omega).same (s1.trans s2)
        by_cases h1 : x ∈ cur
        · rw [decide_eq_true h1]
          exact ifT rfl ⟨.int _, rfl, (by show 1 ≤ 1000; decide), do_raise S.eO fun dd H3 s3 _ h3 => bad (.inl h1) dd H3 s3 h3⟩
        rw [decide_eq_false h1]
        refine ifF Bool.false_ne_true ?_
        refine ⟨.ref D, rfl, D, _, rfl, .inl (SqL.of hD2), rfl, _, rfl, ?_⟩
        by_cases h2 : cur.length = 6
        · refine ifT (decide_eq_true (by rw [List.length_map, h2]; rfl)) ⟨.int _, rfl, (by show 1 ≤ 1000; decide), do_raise S.eO fun dd H3 s3 _ h3 => bad (.inr h2) dd H3 s3 h3⟩
        refine ifF (fun z => h2 (by
          have z := V.int.inj (of_decide_eq_true z)
          rw [List.length_map] at z
          omega)) ?_
        refine ⟨.ref D, rfl, .inl ⟨rfl, _, SqL.of hD2⟩, .str x, rfl, D, _, .str x, rfl, rfl, hD2, small_lt (by rw [List.length_map]; omega), ?_⟩
        refine ⟨.int _, rfl, .str x, rfl, _, _, x, rfl, by decide +kernel, by omega, ?_⟩
        have pl : n + flen ((cur ++ [x]).map parR) = n + flen (cur.map parR) + ("parent" : Str).length + x.length + 2 := by
          rw [List.map_append, flen_app, List.map_cons, List.map_nil, flen_cons, flen_nil, parR_len, show ("parent" : Str).length = 6 by decide +kernel]
          omega
        refine ⟨cur ++ [x], rs, by rw [er, List.length_cons]; omega, ⟨?_, ?_, ?_, ?_, fun ss c => ?_⟩, some (.str x), ?_, same_mut (s1.trans s2) hD, ?_⟩
        · rw [e1, er, List.map_append, List.append_assoc]
          rfl
        · intro y hy
          rcases List.mem_append.mp hy with hy | hy
          · exact ids y hy
          · rw [List.mem_singleton.mp hy]; exact idx
        · rw [List.nodup_append]
          exact ⟨nd, List.nodup_cons.mpr ⟨List.not_mem_nil, List.nodup_nil⟩, fun a ha b' hb => by rw [List.mem_singleton.mp hb]; exact fun z => h1 (by rw [← z]; exact ha)⟩
        · rw [List.length_append]
          show cur.length + 1 ≤ 6
          omega
        · rw [fe ss c, er, fault_par idx h1 (by omega), List.length_append]
          rfl
        · rw [pl]
          rfl
        · rw [List.map_append]
          exact upd_same
      · refine (b cur rest pa fun ss c => ?_).same s1
        cases rest with
        | nil => rfl
        | cons r rs =>
          refine fault_par_no (hs r rs rfl) fun y ey hy _ _ => ?_
          rw [ey] at hn
          have z := word_of_row (a := .id) (hd := ("parent" : Str)) (rs := rs) par_free (show Al.id.f y = true from hy)
          have hn : wordF .id "parent" ((("parent" : Str) ++ (" " : Str) ++ y) :: rs) = none := hn
          rw [z] at hn
          cases hn
    · rw [decide_eq_false k]
      exact ⟨_, rfl, iteF ⟨.ref D, rfl, D, _, rfl, .inl ⟨SqL.of hD1, fun l hl => q cur rest l _ pa (par_test_no k) (s1.trans (same_new hl)) upd_same⟩⟩⟩
end

end Fk

set_option maxHeartbeats 4000000
namespace Fk
open PySem PySem.Spec PyProof.Rows L2
theorem wd_len (hd x : Str) : (hd ++ (" " : Str) ++ x).length = hd.length + 1 + x.length := by
  rw [len_app, len_app, show (" " : Str).length = 1 by decide +kernel]
theorem word_lens : ("tree" : Str).length = 4 ∧ ("parent" : Str).length = 6 ∧ ("author" : Str).length = 6 ∧ ("time" : Str).length = 4 ∧ ("target" : Str).length = 6 ∧ ("label" : Str).length = 5 ∧ ("" : Str).length = 0 ∧ ("tag\n" : Str).length = 4 ∧ ("commit\n" : Str).length = 7 ∧ ("tree\n" : Str).length = 5 := by decide +kernel
/-- a text whose first row is hd, with the rows ls and the rest t behind it -/
structure Hd (x hd : Str) (ls : List Str) (t : Str) : Prop where
  e : TL.tl x = TL.tl hd ++ 10 :: (flatL ls ++ TL.tl t)
  nh : Row hd
  nl : ∀ r ∈ ls, Row r
  nt : Row t
  pl : PlL (TL.tl x)
  ln : x.length ≤ 4000
theorem Hd.tx {x hd : Str} {ls : List Str} {t : Str} (h : Hd x hd ls t) : Tx (TL.tl x) (hd.length + 1) ls t := by
  refine ⟨?_, ?_, h.nl, h.nt, h.pl, by rw [← TL.len_tl]; exact h.ln⟩
  · rw [h.e, TL.len_tl, show (TL.tl hd).length + 1 = (TL.tl hd ++ [10]).length by rw [List.length_append]; rfl, show TL.tl hd ++ 10 :: (flatL ls ++ TL.tl t) = (TL.tl hd ++ [10]) ++ (flatL ls ++ TL.tl t) by simp, List.drop_left]
  · rw [h.e, List.length_append, List.length_cons, TL.len_tl]
    omega
theorem Hd.len {x hd : Str} {ls : List Str} {t : Str} (h : Hd x hd ls t) : x.length = hd.length + 1 + flen ls + t.length := by
  have := h.tx.len
  rw [← TL.len_tl] at this
  exact this
section
variable {P : Program} {w : World} {K : PySem.W.Frag} {mg : Str → Option Value} {base : Heap} {c : C4} {CS cX iX ek pd cO iO : Addr}
def spDecd (K : PySem.W.Frag) (c : C4) (cO : Addr) (hd : Str) (due : Nat → List Str → Str → Option Nat) : Sp := fun vs H Q E => ∃ (x : Str) (ls : List Str) (t : Str), vs = [.byt (bytL (TL.tl x))] ∧ Hd x hd ls t ∧
  (due x.length ls t = none → ∀ o a d H', o.ok → encF o = x → Same H H' → ObAt K c H' a d o → Q (.ref a) H') ∧ ∀ k, due x.length ls t = some k → Bad cO H k E
theorem cx__decoded_tag (S : TopB K mg c CS cX iX ek pd cO iO) : CalX P w K mg base (L2.CX P w) 7 "_decoded_tag" (spDecd K c cO "tag" fun n ls _ => dueS n STG 4 ls) [] := by
  have T := S.toTopO
  refine calX_of T.d__decoded_tag sc__decoded_tag (fun _ _ _ _ _ _ us hl => match us, hl with | [_], _ => rfl) (fun vs H Q E h => ?_) (fun f cdv A outer s H vs Q E hr h => ?_)
  · obtain ⟨x, ls, t, rfl, _⟩ := h
    rfl
  · obtain ⟨x, ls, t, rfl, hx, q, b⟩ := h
    obtain ⟨l1, l2, l3, l4, l5, l6, l0, lt, _, _⟩ := word_lens
    have lx := hx.len
    have tx : Tx (TL.tl x) 4 ls t := hx.tx
    have l4k := hx.ln
    obtain ⟨g, hg⟩ := gf T.d_is_id
    obtain ⟨g2, hg2⟩ := gf T.d_is_segment
    have g_is_id : ∃ u, mg "is_id" = some u ∧ RelV (.ref g) u := ⟨_, hg, rfl⟩
    have g_is_segment : ∃ u, mg "is_segment" = some u ∧ RelV (.ref g2) u := ⟨_, hg2, rfl⟩
    refine ⟨_, (pss_cons (ps_set (i := 1) sc__decoded_tag.nd rfl (Or.inl rfl) (pe_callB call_len_str (by rfl) T.z_len (by decide +kernel) (pa_cons pe_str pa_nil)))
      (pss_cons (ps_set (i := 2) sc__decoded_tag.nd rfl (Or.inl rfl) (pe_cx (cx__word_at S) hr (by decide) (fun _ => passAt (takes_of rfl rfl rfl rfl) _) (by rfl) (pa_cons (pv 0) (pa_cons (pv 1) (pa_cons pe_str (pa_cons (C8.pe_gc (by rfl) g_is_id) pa_nil))))))
      (pss_cons (ps_set (i := 1) sc__decoded_tag.nd rfl (Or.inl rfl) (C8.pe_c (c__behind T.toTop) hr (by decide) (by rfl) (pa_cons (pv 1) (pa_cons pe_str (pa_cons (pv 2) pa_nil)))))
      (pss_cons (ps_set (i := 3) sc__decoded_tag.nd rfl (Or.inl rfl) (pe_cx (cx__word_at S) hr (by decide) (fun _ => passAt (takes_of rfl rfl rfl rfl) _) (by rfl) (pa_cons (pv 0) (pa_cons (pv 1) (pa_cons pe_str (pa_cons (C8.pe_gc (by rfl) g_is_segment) pa_nil))))))
      (pss_cons (ps_set (i := 1) sc__decoded_tag.nd rfl (Or.inl rfl) (C8.pe_c (c__behind T.toTop) hr (by decide) (by rfl) (pa_cons (pv 1) (pa_cons pe_str (pa_cons (pv 3) pa_nil)))))
      (pss_one (ps_ret (pe_mkK (k_Tag_1_label_message T) hr (by decide) (by rfl) (pa_cons (pv 2) pa_nil) (pk_cons (pv 3) (pk_cons (pe_cx (cx__message_at S) hr (by decide) (fun _ => passAt (takes_of rfl rfl rfl rfl) _) (by rfl) (pa_cons (pv 0) (pa_cons (pv 1) pa_nil))) pk_nil)))))))))), ?_⟩
    refine ⟨_, rfl, small_line (by decide +kernel), ?_⟩
    rw [show ((("tag\n" : Str).length : Nat) : Int) = ((4 : Nat) : Int) by rw [lt]]
    refine ⟨.byt _, rfl, .int _, rfl, TL.tl x, 4, ls, t, g, .id, "target", rfl, tx, hg, fr_words.2.2.2.1, by decide +kernel, fun tg htg H1 s1 => ?_, fun hn => b _ (due_no ((fault_word st_target (fun z => absurd z not_auth.2.1)).1 hn))⟩
    obtain ⟨ls1, e1, idt⟩ := word_row fr_words.2.2.2.1 htg
    have f1 := (fault_word st_target (ls := ls) (ps := []) (n := 0) (ss := ["label", "empty"]) (fun z => absurd z not_auth.2.1)).2 tg ls1 e1 htg (by simp)
    have ltg := id_len idt
    have tx1 := Tx.next (show Tx (TL.tl x) 4 ((("target" : Str) ++ (" " : Str) ++ tg) :: ls1) t from by rw [← e1]; exact tx)
    rw [wd_len, l5, ltg] at tx1
    refine ⟨.int _, rfl, .str tg, rfl, 4, _, tg, rfl, by rw [l5]; decide, by omega, ?_⟩
    rw [l5, ltg]
    have eA : flen [("target" : Str) ++ (" " : Str) ++ tg] = 24 := by
      rw [flen_cons, flen_nil, wd_len, l5, ltg]
    refine ⟨.byt _, rfl, .int _, rfl, TL.tl x, 28, ls1, t, g2, .seg, "label", rfl, tx1, hg2, fr_words.2.2.2.2, by decide +kernel, fun lb hlb H2 s2 => ?_, fun hn => (show Bad cO H 28 E from b _ ((due_no (f1.trans ((fault_word st_label (fun z => absurd z not_auth.2.2.1)).1 hn))).trans (by
      rw [e1]
      show some (4 + flen [("target" : Str) ++ (" " : Str) ++ tg]) = _
      rw [eA]))).same s1⟩
    obtain ⟨ls2, e2, idl⟩ := word_row fr_words.2.2.2.2 hlb
    have f2 := (fault_word st_label (ls := ls1) (ps := []) (n := 0 + 1) (ss := ["empty"]) (fun z => absurd z not_auth.2.2.1)).2 lb ls2 e2 hlb (by simp)
    have sgl : isSegF lb = true := idl
    have ll := seg_len sgl
    have tx2 := Tx.next (show Tx (TL.tl x) 28 ((("label" : Str) ++ (" " : Str) ++ lb) :: ls2) t from by rw [← e2]; exact tx1)
    rw [wd_len, l6] at tx2
    refine ⟨.int _, rfl, .str lb, rfl, 28, _, lb, rfl, by rw [l6]; decide, by omega, ?_⟩
    rw [l6]
    have eB : flen [("target" : Str) ++ (" " : Str) ++ tg, ("label" : Str) ++ (" " : Str) ++ lb] = 31 + lb.length := by
      rw [flen_cons, flen_cons, flen_nil, wd_len, wd_len, l5, l6, ltg]
      omega
    have s12 := s1.trans s2
    refine ⟨.str tg, rfl, .str lb, rfl, .byt _, rfl, .int _, rfl, TL.tl x, 28 + 5 + lb.length + 2, ls2, t, rfl, by rwa [show 28 + 5 + lb.length + 2 = 28 + (5 + 1 + lb.length) + 1 by omega], fun hn => (b _ ((due_no (f1.trans (f2.trans (fault_empty.1 hn)))).trans (by
      rw [e1, e2]
      show some (4 + flen [("target" : Str) ++ (" " : Str) ++ tg, ("label" : Str) ++ (" " : Str) ++ lb]) = _
      rw [eB]
      congr 1
      omega))).same s12, fun rs y e3 ey => ?_⟩
    have f3 := f1.trans (f2.trans (fault_empty.2 rs e3))
    have tk : flen (ls.take (0 + 1 + 1 + 1)) = 32 + lb.length := by
      rw [e1, e2, e3]
      show flen [("target" : Str) ++ (" " : Str) ++ tg, ("label" : Str) ++ (" " : Str) ++ lb, ("" : Str)] = _
      rw [flen_cons, flen_cons, flen_cons, flen_nil, wd_len, wd_len, l5, l6, ltg, l0]
      omega
    have due := due_yes (len := x.length) (a := 4) f3
    rw [tk] at due
    have ly : y.length = flen rs + t.length := by
      rw [TL.len_tl, ey, List.length_append, ← TL.len_tl]
      rfl
    have lx2 : x.length = 4 + (32 + lb.length) + y.length := by
      rw [lx, e1, e2, e3, flen_cons, flen_cons, flen_cons, wd_len, wd_len, l5, l6, ltg, l0, ly, show ("tag" : Str).length = 3 by decide +kernel]
      omega
    refine ⟨fun hy ht H3 s3 => ?_, fun hy => (b _ (due.trans (by rw [if_neg (by omega)]; congr 1; omega))).same s12⟩
    rw [if_pos (by omega)] at due
    have ok : Ob.ok (.tag tg lb y) := ⟨idt, sgl, ht, hy⟩
    have ex : encF (.tag tg lb y) = x := str_ext (by
      show TL.tl (encF (.tag tg lb y)) = TL.tl x
      rw [enc_rows, hx.e, e1, e2, e3]
      show TL.tl ("tag" : Str) ++ 10 :: (flatL [_, _, _] ++ TL.tl y) = _
      rw [ey]
      simp only [flat_cons, List.append_assoc, List.cons_append]
      rfl)
    exact ⟨rfl, rfl, fun a x1 ha hx1 _ => mk_tag (K := K) ok ha hx1 fun H4 s4 o4 => q due _ a a H4 ok ex (s12.trans (s3.trans s4)) o4⟩
end

end Fk

set_option maxHeartbeats 4000000
namespace Fk
open PySem PySem.Spec PyProof.Rows L2
section
variable {P : Program} {w : World} {K : PySem.W.Frag} {mg : Str → Option Value} {base : Heap} {c : C4} {CS cX iX ek pd cO iO : Addr}
theorem cx__decoded_commit (S : TopB K mg c CS cX iX ek pd cO iO) : CalX P w K mg base (L2.CX P w) 7 "_decoded_commit" (spDecd K c cO "commit" fun n ls _ => dueS n STC 7 ls) [] := by
  have T := S.toTopO
  refine calX_of T.d__decoded_commit sc__decoded_commit (fun _ _ _ _ _ _ us hl => match us, hl with | [_], _ => rfl) (fun vs H Q E h => ?_) (fun f cdv A outer s H vs Q E hr h => ?_)
  · obtain ⟨x, ls, t, rfl, _⟩ := h
    rfl
  · obtain ⟨x, ls, t, rfl, hx, q, b⟩ := h
    obtain ⟨l1, l2, l3, l4, l5, l6, l0, _, lc, _⟩ := word_lens
    have lx := hx.len
    rw [show ("commit" : Str).length = 6 by decide +kernel] at lx
    have tx : Tx (TL.tl x) 7 ls t := hx.tx
    have l4k := hx.ln
    obtain ⟨g, hg⟩ := gf T.d_is_id
    obtain ⟨g2, hg2⟩ := gf T.d_is_author
    obtain ⟨g3, hg3⟩ := gf T.d__is_decimal_time
    have g_is_id : ∃ u, mg "is_id" = some u ∧ RelV (.ref g) u := ⟨_, hg, rfl⟩
    have g_is_author : ∃ u, mg "is_author" = some u ∧ RelV (.ref g2) u := ⟨_, hg2, rfl⟩
    have g__is_decimal_time : ∃ u, mg "_is_decimal_time" = some u ∧ RelV (.ref g3) u := ⟨_, hg3, rfl⟩
    refine ⟨_, (pss_cons (ps_set (i := 1) sc__decoded_commit.nd rfl (Or.inl rfl) (pe_callB call_len_str (by rfl) T.z_len (by decide +kernel) (pa_cons pe_str pa_nil)))
      (pss_cons (ps_set (i := 2) sc__decoded_commit.nd rfl (Or.inl rfl) (pe_cx (cx__word_at S) hr (by decide) (fun _ => passAt (takes_of rfl rfl rfl rfl) _) (by rfl) (pa_cons (pv 0) (pa_cons (pv 1) (pa_cons pe_str (pa_cons (C8.pe_gc (by rfl) g_is_id) pa_nil))))))
      (pss_cons (ps_set (i := 1) sc__decoded_commit.nd rfl (Or.inl rfl) (C8.pe_c (c__behind T.toTop) hr (by decide) (by rfl) (pa_cons (pv 1) (pa_cons pe_str (pa_cons (pv 2) pa_nil)))))
      (pss_cons (ps_set (i := 3) sc__decoded_commit.nd rfl (Or.inl rfl) (pe_cx (cx__parents_at S) hr (by decide) (fun _ => passAt (takes_of rfl rfl rfl rfl) _) (by rfl) (pa_cons (pv 0) (pa_cons (pv 1) pa_nil))))
      (pss_cons (ps_for (passes_of rfl) rfl (pi_tup (pv 3)) (pg_name (i := 4) sc__decoded_commit.nd rfl (Or.inl rfl))
      (pss_one (ps_set (i := 1) sc__decoded_commit.nd rfl (Or.inl rfl) (C8.pe_c (c__behind T.toTop) hr (by decide) (by rfl) (pa_cons (pv 1) (pa_cons pe_str (pa_cons (pv 4) pa_nil)))))))
      (pss_cons (ps_set (i := 5) sc__decoded_commit.nd rfl (Or.inl rfl) (pe_cx (cx__word_at S) hr (by decide) (fun _ => passAt (takes_of rfl rfl rfl rfl) _) (by rfl) (pa_cons (pv 0) (pa_cons (pv 1) (pa_cons pe_str (pa_cons (C8.pe_gc (by rfl) g_is_author) pa_nil))))))
      (pss_cons (ps_set (i := 1) sc__decoded_commit.nd rfl (Or.inl rfl) (C8.pe_c (c__behind T.toTop) hr (by decide) (by rfl) (pa_cons (pv 1) (pa_cons pe_str (pa_cons (pv 5) pa_nil)))))
      (pss_cons (ps_set (i := 6) sc__decoded_commit.nd rfl (Or.inl rfl) (pe_cx (cx__word_at S) hr (by decide) (fun _ => passAt (takes_of rfl rfl rfl rfl) _) (by rfl) (pa_cons (pv 0) (pa_cons (pv 1) (pa_cons pe_str (pa_cons (C8.pe_gc (by rfl) g__is_decimal_time) pa_nil))))))
      (pss_cons (ps_set (i := 1) sc__decoded_commit.nd rfl (Or.inl rfl) (C8.pe_c (c__behind T.toTop) hr (by decide) (by rfl) (pa_cons (pv 1) (pa_cons pe_str (pa_cons (pv 6) pa_nil)))))
      (pss_cons (ps_set (i := 7) sc__decoded_commit.nd rfl (Or.inl rfl) (pe_cx (cx__message_at S) hr (by decide) (fun _ => passAt (takes_of rfl rfl rfl rfl) _) (by rfl) (pa_cons (pv 0) (pa_cons (pv 1) pa_nil))))
      (pss_one (ps_ret (pe_mkK (k_Commit_2_author_time_message T) hr (by decide) (by rfl) (pa_cons (pv 2) (pa_cons (pv 3) pa_nil)) (pk_cons (pv 5) (pk_cons (pe_callTy call_int_str (by rfl) T.z_int (by decide +kernel) (pa_cons (pv 6) pa_nil)) (pk_cons (pv 7) pk_nil)))))))))))))))), ?_⟩
    refine ⟨_, rfl, small_line (by decide +kernel), ?_⟩
    rw [show ((("commit\n" : Str).length : Nat) : Int) = ((7 : Nat) : Int) by rw [lc]]
    refine ⟨.byt _, rfl, .int _, rfl, TL.tl x, 7, ls, t, g, .id, "tree", rfl, tx, hg, fr_words.1, by decide +kernel, fun tr htr H1 s1 => ?_, fun hn => b _ (due_no ((fault_word st_tree (fun z => absurd z not_auth.1)).1 hn))⟩
    obtain ⟨ls1, e1, idt⟩ := word_row fr_words.1 htr
    have f1 := (fault_word st_tree (ls := ls) (ps := []) (n := 0) (ss := ["author", "time", "empty"]) (fun z => absurd z not_auth.1)).2 tr ls1 e1 htr (by simp)
    have ltr := id_len idt
    have tx1 := Tx.next (show Tx (TL.tl x) 7 ((("tree" : Str) ++ (" " : Str) ++ tr) :: ls1) t from by rw [← e1]; exact tx)
    rw [wd_len, l1, ltr] at tx1
    refine ⟨.int _, rfl, .str tr, rfl, 7, _, tr, rfl, by rw [l1]; decide, by omega, ?_⟩
    rw [l1, ltr]
    have eA : flen [("tree" : Str) ++ (" " : Str) ++ tr] = 22 := by
      rw [flen_cons, flen_nil, wd_len, l1, ltr]
    refine ⟨.byt _, rfl, .int _, rfl, TL.tl x, 29, ls1, t, rfl, tx1, fun cur rest pp H2 pa npar s2 hpp => ?_, fun cur rest pa nf => (show Bad cO H (29 + flen (cur.map parR)) E from b _ ((due_no (f1.trans ((pa.2.2.2.2 _ _).trans (nf _ _)))).trans (by
      rw [e1, pa.1]
      have tk : List.take (0 + 1 + cur.length) ((("tree" : Str) ++ (" " : Str) ++ tr) :: (cur.map parR ++ rest)) = (("tree" : Str) ++ (" " : Str) ++ tr) :: cur.map parR := by
        rw [show 0 + 1 + cur.length = cur.length + 1 by omega, List.take_succ_cons, List.take_left' (by rw [List.length_map])]
      rw [tk, flen_cons, wd_len, l1, ltr]
      congr 1
      omega))).same s1⟩
    obtain ⟨ep, ids, nd, l6c, fe⟩ := pa
    have f2 := f1.trans (fe ["time", "empty"] (0 + 1))
    refine ⟨.ref pp, rfl, pp, rfl, ⟨_, SqT.of hpp⟩, ?_⟩
    refine forG (items := cur.map V.str) yields_tup (fun i σ H' => Same H2 H' ∧ ∃ z4, σ = [some (.byt (bytL (TL.tl x))), some (.int ((29 + flen ((cur.take i).map parR) : Nat) : Int)), some (.str tr), some (.ref pp), z4, none, none, none]) ⟨Same.refl _, none, rfl⟩ (fun i σ H' I => SqT.of (I.1 _ _ hpp)) (fun i v σ H' hv I => ?_) (fun σ H' I => ?_)
    · obtain ⟨s3, z4, rfl⟩ := I
      obtain ⟨hi, ex⟩ := List.getElem?_eq_some_iff.mp hv
      rw [List.length_map] at hi
      rw [List.getElem_map] at ex
      subst ex
      have lpi := id_len (ids cur[i] (List.getElem_mem hi))
      have pl : 29 + flen ((cur.take (i + 1)).map parR) = 29 + flen ((cur.take i).map parR) + ("parent" : Str).length + cur[i].length + 2 := by
        rw [List.take_add_one, List.getElem?_eq_getElem hi, List.map_append, flen_app]
        show 29 + (_ + flen [parR cur[i]]) = _
        rw [flen_cons, flen_nil, parR_len, l2]
        omega
      refine ⟨.int _, rfl, .str cur[i], rfl, _, _, cur[i], rfl, by rw [l2]; decide, by omega, s3, some (.str cur[i]), ?_⟩
      rw [pl]
      rfl
    · obtain ⟨s3, z4, rfl⟩ := I
      rw [List.length_map, List.take_length]
      have tx2 : Tx (TL.tl x) (29 + flen (cur.map parR)) rest t := Tx.nexts _ (by rw [← ep]; exact tx1)
      have s13 := s1.trans (s2.trans s3)
      have pre : ∀ k : Nat, ∀ more : List Str, List.take (0 + 1 + cur.length + k) ((("tree" : Str) ++ (" " : Str) ++ tr) :: (cur.map parR ++ more)) = (("tree" : Str) ++ (" " : Str) ++ tr) :: (cur.map parR ++ more.take k) := fun k more => by
        rw [show 0 + 1 + cur.length + k = cur.length + k + 1 by omega, List.take_succ_cons, List.take_append, List.length_map, List.take_of_length_le (by rw [List.length_map]; omega), Nat.add_sub_cancel_left]
      have lcur : flen (cur.map parR) = 24 * cur.length := by
        clear fe ep f2 tx2 pre nd l6c npar hpp
        induction cur with
        | nil => rfl
        | cons y cur ih =>
          rw [List.map_cons, flen_cons, parR_len, id_len (ids y List.mem_cons_self), ih fun z hz => ids z (List.mem_cons_of_mem _ hz), List.length_cons]
          omega
      generalize hN : 29 + flen (cur.map parR) = N at tx2 ⊢
      refine ⟨.byt _, rfl, .int _, rfl, TL.tl x, N, rest, t, g2, .auth, "author", rfl, tx2, hg2, fr_words.2.1, by decide +kernel, fun au hau H4 s4 => ?_, fun hn => (b _ ((due_no (f2.trans ((fault_word st_auth (fun _ => npar)).1 hn))).trans (by
        rw [e1, ep]
        have := pre 0 rest
        rw [Nat.add_zero] at this
        rw [this, flen_cons, wd_len, l1, ltr, flen_app, List.take_zero, flen_nil]
        congr 1
        omega))).same s13⟩
      obtain ⟨ls2, e2, ida⟩ := word_row fr_words.2.1 hau
      have f3 := f2.trans ((fault_word st_auth (ls := rest) (ps := cur) (n := 0 + 1 + cur.length) (ss := ["time", "empty"]) (fun _ => npar)).2 au ls2 e2 hau (by simp))
      have wau : isWordF LET au = true := ida
      have la := (word_ok wau ok_let).2
      have tx3 := Tx.next (show Tx (TL.tl x) N ((("author" : Str) ++ (" " : Str) ++ au) :: ls2) t from by rw [← e2]; exact tx2)
      rw [wd_len, l3] at tx3
      refine ⟨.int _, rfl, .str au, rfl, N, _, au, rfl, by rw [l3]; decide, by omega, ?_⟩
      rw [l3]
      have s14 := s13.trans s4
      refine ⟨.byt _, rfl, .int _, rfl, TL.tl x, N + 6 + au.length + 2, ls2, t, g3, .time, "time", rfl, by rwa [show N + 6 + au.length + 2 = N + (6 + 1 + au.length) + 1 by omega], hg3, fr_words.2.2.1, by decide +kernel, fun tmS htm H5 s5 => ?_, fun hn => (b _ ((due_no (f3.trans ((fault_word st_time (fun z => absurd z not_auth.2.2.2)).1 hn))).trans (by
        rw [e1, ep, e2]
        rw [pre 1 _, flen_cons, wd_len, l1, ltr, flen_app]
        show some (7 + (_ + (_ + flen [_]))) = _
        rw [flen_cons, flen_nil, wd_len, l3]
        congr 1
        omega))).same s14⟩
      obtain ⟨ls3, e3, idm⟩ := word_row fr_words.2.2.1 htm
      have f4 := f3.trans ((fault_word st_time (ls := ls2) (ps := cur) (n := 0 + 1 + cur.length + 1) (ss := ["empty"]) (fun z => absurd z not_auth.2.2.2)).2 tmS ls3 e3 htm (by simp))
      obtain ⟨m, hm, em⟩ := dec_num idm
      have lm : tmS.length ≤ 13 := by rw [em]; exact num_13 hm
      have tx4 := Tx.next (show Tx (TL.tl x) (N + 6 + au.length + 2) ((("time" : Str) ++ (" " : Str) ++ tmS) :: ls3) t from by rw [← e3]; rwa [show N + 6 + au.length + 2 = N + (6 + 1 + au.length) + 1 by omega])
      rw [wd_len, l4] at tx4
      refine ⟨.int _, rfl, .str tmS, rfl, N + 6 + au.length + 2, _, tmS, rfl, by rw [l4]; decide, by omega, ?_⟩
      rw [l4]
      have s15 := s14.trans s5
      have lrow : ∀ more : List Str, flen ((("tree" : Str) ++ (" " : Str) ++ tr) :: (cur.map parR ++ ((("author" : Str) ++ (" " : Str) ++ au) :: (("time" : Str) ++ (" " : Str) ++ tmS) :: more))) = N - 7 + (au.length + 8) + (tmS.length + 6) + flen more := fun more => by
        rw [flen_cons, wd_len, l1, ltr, flen_app, flen_cons, flen_cons, wd_len, wd_len, l3, l4]
        omega
      refine ⟨.byt _, rfl, .int _, rfl, TL.tl x, N + 6 + au.length + 2 + 4 + tmS.length + 2, ls3, t, rfl, by rwa [show N + 6 + au.length + 2 + 4 + tmS.length + 2 = N + 6 + au.length + 2 + (4 + 1 + tmS.length) + 1 by omega], fun hn => (b _ ((due_no (f4.trans (fault_empty.1 hn))).trans (by
        rw [e1, ep, e2, e3, pre 2 _]
        show some (7 + flen ((("tree" : Str) ++ (" " : Str) ++ tr) :: (cur.map parR ++ [("author" : Str) ++ (" " : Str) ++ au, ("time" : Str) ++ (" " : Str) ++ tmS]))) = _
        rw [lrow []]
        rw [flen_nil]
        congr 1
        omega))).same s15, fun rs y e4 ey => ?_⟩
      have f5 := f4.trans (fault_empty.2 rs e4)
      have due := due_yes (len := x.length) (a := 7) f5
      have tk : flen (ls.take (0 + 1 + cur.length + 1 + 1 + 1)) = N - 7 + (au.length + 8) + (tmS.length + 6) + 1 := by
        rw [e1, ep, e2, e3, e4, show 0 + 1 + cur.length + 1 + 1 + 1 = 0 + 1 + cur.length + 3 by omega, pre 3 _]
        show flen ((("tree" : Str) ++ (" " : Str) ++ tr) :: (cur.map parR ++ [("author" : Str) ++ (" " : Str) ++ au, ("time" : Str) ++ (" " : Str) ++ tmS, ("" : Str)])) = _
        rw [lrow [("" : Str)], flen_cons, flen_nil, l0]
      rw [tk] at due
      have ly : y.length = flen rs + t.length := by
        rw [TL.len_tl, ey, List.length_append, ← TL.len_tl]
        rfl
      have lx2 : x.length = 7 + (N - 7 + (au.length + 8) + (tmS.length + 6) + 1) + y.length := by
        rw [lx, e1, ep, e2, e3, e4, lrow, flen_cons, ly, l0]
        omega
      refine ⟨fun hy ht H6 s6 => ?_, fun hy => (b _ (due.trans (by rw [if_neg (by omega)]; congr 1; omega))).same s15⟩
      rw [if_pos (by omega)] at due
      have ok : Ob.ok (.commit tr cur au (m : Int) y) := ⟨idt, l6c, nd, ids, wau, by omega, by omega, ht, hy⟩
      have ex : encF (.commit tr cur au (m : Int) y) = x := str_ext (by
        show TL.tl (encF (.commit tr cur au (m : Int) y)) = TL.tl x
        rw [enc_rows, hx.e, e1, ep, e2, e3, e4]
        show TL.tl ("commit" : Str) ++ 10 :: (flatL (_ :: (cur.map parR ++ [_, ("time" : Str) ++ (" " : Str) ++ numS m, _])) ++ TL.tl y) = _
        rw [ey, ← em]
        simp only [flat_cons, flat_app, List.append_assoc, List.cons_append]
        rfl)
      have it : intText? tmS = some (m : Int) := by
        rw [em]
        refine TL.int_num ?_
        rw [← tl_numS, ← TL.len_tl, ← em]
        omega
      refine ⟨.str tr, rfl, .ref pp, rfl, .str au, rfl, .str _, rfl, _, (m : Int), rfl, it, by omega, .str y, rfl, rfl, rfl, fun a x1 ha hx1 _ => mk_commit (K := K) (.inl (s6 _ _ (s5 _ _ (s4 _ _ (s3 _ _ hpp))))) ok ha hx1 fun H7 s7 o7 => ?_⟩
      exact q due _ a a H7 ok ex (s15.trans (s6.trans s7)) o7
end

end Fk

set_option maxHeartbeats 4000000
namespace Fk
open PySem PySem.Spec PyProof.Rows L2
theorem split_sub {r : Str} (h : PlL (TL.tl r)) (hl : r.length ≤ 4000) : ∀ p ∈ Txt.split r " ", PlL (TL.tl p) ∧ p.length ≤ 4000 := fun p hp => by
  have m := (join_split sp_one (by decide +kernel) r).2.1 p hp
  refine ⟨h.sub m, ?_⟩
  have j := (join_split sp_one (by decide +kernel) r).1
  have : p.length ≤ (Txt.join " " (Txt.split r " ")).length := by
    generalize Txt.split r " " = l at hp
    rw [TL.join_eq, TL.len_tl, TL.len_tl, TL.tl_join]
    clear m j
    induction l with
    | nil => cases hp
    | cons q l ih =>
      cases l with
      | nil => rw [List.mem_singleton.mp hp]; exact Nat.le_refl _
      | cons z l =>
        show _ ≤ (TL.tl q ++ (TL.tl (" " : Str) ++ TL.joinL (TL.tl (" " : Str)) ((z :: l).map TL.tl))).length
        rw [List.length_append, List.length_append]
        rcases List.mem_cons.mp hp with rfl | hp
        · omega
        · have := ih hp
          omega
  rw [j] at this
  omega
theorem split_len {r : Str} (hl : r.length ≤ 4000) : (Txt.split r " ").length ≤ 4001 := by
  have j := (join_split sp_one (by decide +kernel) r).1
  have : (Txt.split r " ").length ≤ (Txt.join " " (Txt.split r " ")).length + 1 := by
    generalize Txt.split r " " = l
    rw [TL.join_eq, TL.len_tl, TL.tl_join]
    clear j
    induction l with
    | nil => exact Nat.zero_le _
    | cons q l ih =>
      cases l with
      | nil => exact Nat.le_add_left 1 _
      | cons z l =>
        show _ ≤ (TL.tl q ++ (TL.tl (" " : Str) ++ TL.joinL (TL.tl (" " : Str)) ((z :: l).map TL.tl))).length + 1
        rw [List.length_append, List.length_append, sp_one, List.length_cons]
        rw [sp_one] at ih
        show _ ≤ _ + (1 + _) + 1
        omega
  rw [j] at this
  omega
section
variable {P : Program} {w : World} {K : PySem.W.Frag} {mg : Str → Option Value} {base : Heap} {c : C4} {CS cX iX ek pd cO iO : Addr}
def spEntLine : Sp := fun vs H Q _ => ∃ r : Str, vs = [.str r] ∧ r.length ≤ 4000 ∧ PlL (TL.tl r) ∧ ∀ H', Same H H' → Q (.bl (entW r).isSome) H'
theorem c__is_entry_line (T : TopO K mg c CS cX iX ek pd) : C8.Cal P w K mg base 4 "_is_entry_line" spEntLine [] := by
  refine cal_of T.d__is_entry_line sc__is_entry_line (fun _ _ _ _ _ _ us hl => match us, hl with | [_], _ => rfl) (fun vs H Q E h => ?_) (fun f cdv A outer s H vs Q E hr h => ?_)
  · obtain ⟨r, rfl, _⟩ := h
    rfl
  · obtain ⟨r, rfl, hl, pl, q⟩ := h
    have sub := split_sub pl hl
    have sl := split_len hl
    have ew : entW r = (match Txt.split r " " with
      | [a, b, c] => if (decide (a ∈ KINDS) && (isSegF b && isIdF c)) = true then some (b, a, c) else none
      | _ => none) := rfl
    refine ⟨_, (pss_cons (ps_set (i := 1) sc__is_entry_line.nd rfl (Or.inl rfl) (pe_split (pv 0) pe_str))
      (pss_one (ps_ret (pe_and (pe_cmpR op_eq (pe_callB call_len_seq (by rfl) T.z_len (by decide +kernel) (pa_cons (pv 1) pa_nil)) pe_int (nomark _)) (pe_and (pe_cmpR op_in_seq (pe_ix ix_list (pv 1) pe_int (fun _ _ => rfl)) (C8.pe_gc (by rfl) T.g_ENTRY_KINDS) rfl) (pe_and (C8.pe_c (c_is_segment T.toTop) hr (by decide) (by rfl) (pa_cons (pe_ix ix_list (pv 1) pe_int (fun _ _ => rfl)) pa_nil)) (pe_one (C8.pe_c (c_is_id T.toTop) hr (by decide) (by rfl) (pa_cons (pe_ix ix_list (pv 1) pe_int (fun _ _ => rfl)) pa_nil))))))))), ?_⟩
    refine ⟨.str _, rfl, ⟨_, rfl⟩, _, _, rfl, rfl, by decide +kernel, by rw [sizeLine_eq]; omega, fun p hp => ?_⟩
    rw [show Txt.split r (Str.ofString " ") = Txt.split r " " from rfl]
    generalize Txt.split r " " = l at sub sl ew ⊢
    have s1 := same_new (o := .lst (l.map V.str)) hp
    have h1 : (upd H p (.lst (l.map V.str))) p = some (.lst (l.map V.str)) := upd_same
    generalize upd H p (.lst (l.map V.str)) = H1 at s1 h1 ⊢
    refine ⟨.ref p, rfl, p, _, rfl, .inl (SqL.of h1), rfl, _, rfl, ite2 (fun z => ?_) (fun z => ?_)⟩
    · have z := V.int.inj (of_decide_eq_true z)
      rw [List.length_map] at z
      obtain ⟨a, b, c', rfl⟩ : ∃ a b c', l = [a, b, c'] := by
        have z : l.length = 3 := by omega
        match l, z with
        | [a, b, c'], _ => exact ⟨a, b, c', rfl⟩
      have ew : entW r = if (decide (a ∈ KINDS) && (isSegF b && isIdF c')) = true then some (b, a, c') else none := ew
      have ei : (entW r).isSome = (decide (a ∈ KINDS) && (isSegF b && isIdF c')) := by
        rw [ew]
        split <;> simp_all
      obtain ⟨pb, lb⟩ := sub b (by simp)
      obtain ⟨pc, lc⟩ := sub c' (by simp)
      refine ⟨.ref p, rfl, p, _, 0, .str a, rfl, rfl, SqL.of h1, rfl, ek, _, rfl, .inr (show SqT K H1 ek (KINDS.map V.str) from TupK.sq (.inr T.kE)), rfl, flat_strs KINDS, _, rfl, ?_⟩
      rw [inV_mem]
      by_cases ka : a ∈ KINDS
      · rw [decide_eq_true ka] at ei ⊢
        refine ifT rfl ?_
        refine ⟨.ref p, rfl, p, _, 1, .str b, rfl, rfl, SqL.of h1, rfl, .str b, rfl, .str b (by omega) pb.ok, fun H2 s2 => ⟨_, rfl, ?_⟩⟩
        rw [show evalV isSegF (.str b) = isSegF b from rfl]
        by_cases sb : isSegF b = true
        · rw [sb] at ei ⊢
          refine iteT ⟨.ref p, rfl, p, _, 2, .str c', rfl, rfl, SqL.of (s2 _ _ h1), rfl, .str c', rfl, .str c' (by omega) pc.ok, fun H3 s3 => ?_⟩
          rw [show evalV isIdF (.str c') = isIdF c' from rfl, show isIdF c' = (entW r).isSome by rw [ei]; rfl]
          exact q H3 (s1.trans (s2.trans s3))
        · have sb : isSegF b = false := by simpa using sb
          rw [sb] at ei ⊢
          have q := q H2 (s1.trans s2)
          rw [ei] at q
          exact iteF q
      · rw [decide_eq_false ka] at ei ⊢
        have q := q H1 s1
        rw [ei] at q
        exact ifF Bool.false_ne_true q
    · have z : ¬ l.length = 3 := fun k => z (decide_eq_true (by rw [List.length_map, k]; rfl))
      have ei : (entW r).isSome = false := by
        rw [ew]
        match l, z with
        | [], _ => rfl
        | [_], _ => rfl
        | [_, _], _ => rfl
        | [_, _, _], z => exact absurd rfl z
        | _ :: _ :: _ :: _ :: _, _ => rfl
      have q := q H1 s1
      rw [ei] at q
      exact q
end
def lastK : List Ent → Str
  | [] => ""
  | es => (es.getLast?.map (·.1)).getD ""
theorem lastK_snoc (es : List Ent) (e : Ent) : lastK (es ++ [e]) = e.1 := by
  unfold lastK
  cases es with
  | nil => rfl
  | cons a es =>
    show ((((a :: es) ++ [e]).getLast?).map (·.1)).getD ("" : Str) = e.1
    rw [List.getLast?_concat]
    rfl
/-- entries read so far -/
structure Good (ls : List Str) (es : List Ent) (rest : List Str) : Prop where
  e : ls = es.map lineF ++ rest
  ok : ∀ e ∈ es, EntOk e
  len : es.length ≤ 30
  pw : (es.map (·.1)).Pairwise (fun a b : Str => a.cps.toList < b.cps.toList)
  last : ∀ e ∈ es, ¬ (lastK es).cps.toList < e.1.cps.toList
  f : treeF ls 0 "" = treeF rest es.length (lastK es)
theorem Good.add {ls : List Str} {es : List Ent} {r : Str} {rest : List Str} {e : Ent} (g : Good ls es (r :: rest)) (h : entW r = some e) (n : es.length ≠ 30) (lt : (lastK es).cps.toList < e.1.cps.toList) : Good ls (es ++ [e]) rest := by
  obtain ⟨er, eo, _⟩ := entW_line h
  have up : ∀ f ∈ es, f.1.cps.toList < e.1.cps.toList := fun f hf => List.lt_of_le_of_lt (List.not_lt.mp (g.last f hf)) lt
  refine ⟨by rw [g.e, er, List.map_append, List.append_assoc]; rfl, fun f hf => ?_, ?_, ?_, fun f hf => ?_, ?_⟩
  · rcases List.mem_append.mp hf with hf | hf
    · exact g.ok f hf
    · rw [List.mem_singleton.mp hf]; exact eo
  · rw [List.length_append]
    have := g.len
    show es.length + 1 ≤ 30
    omega
  · rw [List.map_append, List.pairwise_append]
    refine ⟨g.pw, List.pairwise_singleton _ _, fun a ha b hb => ?_⟩
    obtain ⟨f, hf, rfl⟩ := List.mem_map.mp ha
    rw [List.mem_singleton.mp hb]
    exact up f hf
  · rw [lastK_snoc]
    rcases List.mem_append.mp hf with hf | hf
    · exact fun z => List.lt_irrefl _ (List.lt_trans z (up f hf))
    · rw [List.mem_singleton.mp hf]
      exact List.lt_irrefl _
  · rw [g.f, lastK_snoc, List.length_append]
    conv => lhs; unfold treeF
    rw [h]
    dsimp only
    rw [if_pos]
    · rfl
    · rw [decide_eq_true lt, decide_eq_true n]
      rfl
theorem Good.bad {ls : List Str} {es : List Ent} {r : Str} {rest : List Str} (g : Good ls es (r :: rest)) (h : ∀ e, entW r = some e → es.length = 30 ∨ ¬ (lastK es).cps.toList < e.1.cps.toList) : treeF ls 0 "" = some es.length := by
  rw [g.f]
  unfold treeF
  cases k : entW r with
  | none => rfl
  | some e =>
    dsimp only
    rw [if_neg]
    intro z
    obtain ⟨z1, z2⟩ := Bool.and_eq_true_iff.mp z
    rcases h e k with h | h
    · exact of_decide_eq_true z2 h
    · exact h (of_decide_eq_true z1)
def dueT (ls : List Str) (t : Str) : Option Nat := match treeF ls 0 "" with
  | some k => some (5 + flen (ls.take k))
  | none => if t = "" then none else some (5 + flen ls)
theorem Good.due {ls : List Str} {es : List Ent} {rest : List Str} {t : Str} (g : Good ls es rest) (h : treeF ls 0 "" = some es.length) : dueT ls t = some (5 + flen (es.map lineF)) := by
  unfold dueT
  rw [h]
  dsimp only
  rw [g.e, List.take_left' (by rw [List.length_map])]
theorem ents_snoc {K : PySem.W.Frag} {H : Hp} {t : Tab} {es : List Ent} (h : EntsAt K H t es) {e : Ent} (n : e.1 ∉ es.map (·.1)) {q : Addr} (hq : TupK K H q (entL e)) : EntsAt K H (putK t e.1 (.ref q)) (es ++ [e]) := by
  have z := ents_put h (x := e.1) (kd := e.2.1) (i := e.2.2) hq
  have e1 : putE es e.1 (e.2.1, e.2.2) = es ++ [e] := by
    unfold putE
    rw [if_neg]
    intro c
    obtain ⟨f, hf, ef⟩ := List.any_eq_true.mp c
    exact n (List.mem_map.mpr ⟨f, hf, of_decide_eq_true ef⟩)
  rw [e1] at z
  exact z
def treeW (K : PySem.W.Frag) (H : Hp) (x : Str) (ls : List Str) (t : Str) (d : Addr) : Nat → L2.St → Hp → Prop := fun m σ H' => ∃ es rest, m = x.length - (5 + flen (es.map lineF)) ∧ Good ls es rest ∧ ∃ tb z4 z5 z6 z7, σ = [some (.byt (bytL (TL.tl x))), some (.int ((5 + flen (es.map lineF) : Nat) : Int)), some (.ref d), some (.str (lastK es)), z4, z5, z6, z7] ∧ Same H H' ∧ H' d = some (.dK (kT tb)) ∧ EntsAt K H' tb es
theorem line_pos (e : Ent) (l : List Ent) : flen ((l ++ [e]).map lineF) = flen (l.map lineF) + (lineF e).length + 1 := by
  rw [List.map_append, flen_app]
  show _ + flen [lineF e] = _
  rw [flen_cons, flen_nil]
  omega
section
variable {P : Program} {w : World} {K : PySem.W.Frag} {mg : Str → Option Value} {base : Heap} {c : C4} {CS cX iX ek pd cO iO : Addr}
theorem cx__decoded_tree (S : TopB K mg c CS cX iX ek pd cO iO) : CalX P w K mg base (L2.CX P w) 6 "_decoded_tree" (spDecd K c cO "tree" fun _ ls t => dueT ls t) [] := by
  have T := S.toTopO
  refine calX_of T.d__decoded_tree sc__decoded_tree (fun _ _ _ _ _ _ us hl => match us, hl with | [_], _ => rfl) (fun vs H Q E h => ?_) (fun f cdv A outer s H vs Q E hr h => ?_)
  · obtain ⟨x, ls, t, rfl, _⟩ := h
    rfl
  · obtain ⟨x, ls, t, rfl, hx, q, b⟩ := h
    have lx := hx.len
    rw [show ("tree" : Str).length = 4 by decide +kernel] at lx
    have tx : Tx (TL.tl x) 5 ls t := hx.tx
    have l4k := hx.ln
    have sz : (bytL (TL.tl x)).size = x.length := by rw [bytL_size, ← TL.len_tl]
    have b : ∀ k, dueT ls t = some k → Bad cO H k E := b
    refine ⟨_, (pss_cons (ps_set (i := 1) sc__decoded_tree.nd rfl (Or.inl rfl) (pe_callB call_len_str (by rfl) T.z_len (by decide +kernel) (pa_cons pe_str pa_nil)))
      (pss_cons (ps_set (i := 2) sc__decoded_tree.nd rfl (Or.inl rfl) pe_dnewK)
      (pss_cons (ps_set (i := 3) sc__decoded_tree.nd rfl (Or.inl rfl) pe_str)
      (pss_cons (ps_while (passes_of rfl) (pt_cmpR op_lt (pv 1) (pe_callB call_len (by rfl) T.z_len (by decide +kernel) (pa_cons (pv 0) pa_nil)) (nomark _))
      (pss_cons (ps_set (i := 4) sc__decoded_tree.nd rfl (Or.inl rfl) (C8.pe_c (c__line_at T.toTop) hr (by decide) (by rfl) (pa_cons (pv 0) (pa_cons (pv 1) pa_nil))))
      (pss_cons (ps_if (PW.pt (pw_or (pt_cmpR op_isN (pv 4) pe_non (nomark _)) (pw_or (pt_cmpR op_eq (pe_callB call_lenD (by rfl) T.z_len (by decide +kernel) (pa_cons (pv 2) pa_nil)) (C8.pe_gc (by rfl) T.g_MOST_ENTRIES) (nomark _)) (pw_or1 (pt_not (pt_val (C8.pe_c (c__is_entry_line T) hr (by decide) (by rfl) (pa_cons (pv 4) pa_nil))))))))
      (pss_one (ps_raise rfl (takes_of rfl rfl rfl rfl) (rs_of S.eO (hr.mono (by decide)) (by rfl) (pa_cons (pv 1) pa_nil))))
      pss_nil)
      (pss_cons (ps_asg (pe_split (pv 4) pe_str) (pg_lst rfl (pgs_cons (pg_name (i := 5) sc__decoded_tree.nd rfl (Or.inl rfl)) (pgs_cons (pg_name (i := 6) sc__decoded_tree.nd rfl (Or.inl rfl)) (pgs_cons (pg_name (i := 7) sc__decoded_tree.nd rfl (Or.inl rfl)) pgs_nil)))))
      (pss_cons (ps_if (pt_cmpR op_le_str (pv 6) (pv 3) (nomark _))
      (pss_one (ps_raise rfl (takes_of rfl rfl rfl rfl) (rs_of S.eO (hr.mono (by decide)) (by rfl) (pa_cons (pv 1) pa_nil))))
      pss_nil)
      (pss_cons (ps_dput (hu_of hr) (pv 2) (pv 6) (pe_tup (pa_cons (pv 5) (pa_cons (pv 7) pa_nil))) rfl)
      (pss_cons (ps_set (i := 3) sc__decoded_tree.nd rfl (Or.inl rfl) (pv 6))
      (pss_one (ps_set (i := 1) sc__decoded_tree.nd rfl (Or.inl rfl) (pe_op op_add (pe_op op_add (pv 1) (pe_callB call_len_str (by rfl) T.z_len (by decide +kernel) (pa_cons (pv 4) pa_nil))) pe_int))))))))))
      (pss_one (ps_ret (C8.pe_mk (k_Tree T) hr (by decide) (by rfl) (pa_cons (pv 2) pa_nil)))))))), ?_⟩
    refine ⟨_, rfl, small_line (by decide +kernel), fun d hd => ?_⟩
    have hd0 : (upd H d (.dK [])) d = some (.dK (kT [])) := upd_same
    have s0 := same_new (o := .dK []) hd
    refine ⟨treeW K H x ls t d, ⟨_, [], ls, rfl, ⟨rfl, fun e he => (List.not_mem_nil he).elim, by decide, List.Pairwise.nil, fun e he => (List.not_mem_nil he).elim, rfl⟩, [], none, none, none, none, by rw [word_lens.2.2.2.2.2.2.2.2.2]; rfl, s0, hd0, .nil⟩, fun m σ H' I => ?_⟩
    obtain ⟨es, rest, rfl, gd, tb, z4, z5, z6, z7, rfl, s1, hdt, en⟩ := I
    have tc : Tx (TL.tl x) (5 + flen (es.map lineF)) rest t := Tx.nexts _ (by rw [← gd.e]; exact tx)
    have lc := tc.len
    rw [← TL.len_tl] at lc
    have ltb : tb.length = es.length := by
      have := congrArg List.length en.keys
      rw [List.length_map, List.length_map] at this
      omega
    have l30 := gd.len
    refine ⟨.int _, rfl, .byt _, rfl, _, _, rfl, ⟨by rw [sz]; exact small_line (by omega), rfl⟩, _, _, rfl, rfl, _, rfl, ?_⟩
    rw [sz]
    cases rest with
    | nil =>
      by_cases ht : t = ""
      · have e0 : t.length = 0 := by rw [ht]; decide +kernel
        refine ifF (fun z => ?_) ?_
        · have z := of_decide_eq_true z
          rw [flen_nil] at lc
          omega
        have due : dueT ls t = none := by
          unfold dueT
          rw [gd.f]
          show (if t = "" then none else some (5 + flen ls)) = none
          rw [if_pos ht]
        have nd : (es.map (·.1)).Nodup := gd.pw.imp fun {a b} h e => by rw [e] at h; exact List.lt_irrefl _ h
        refine ⟨.ref d, rfl, fun b' x1 hb hx1 _ => mk_tree (K := K) hdt en gd.len nd gd.ok hb hx1 fun d1 es1 H1 hd1 s2 pe ok1 o1 => ?_⟩
        have e1 : es1 = es := ents_eq (pw_uniq (sorted_pw ok1.2.2.1) (gd.pw.imp fun {a b} h z => List.lt_irrefl _ (List.lt_trans h z)) (pe.map _)) nd fun e he => pe.mem_iff.mp he
        rw [e1] at o1 ok1
        have ex : encF (.tree es) = x := str_ext (by
          show TL.tl (encF (.tree es)) = TL.tl x
          rw [enc_rows, hx.e, gd.e, List.append_nil, ht]
          rfl)
        exact q due _ b' d1 H1 ok1 ex (s1.trans s2) o1
      · have tpos : 0 < t.length := by
          rw [TL.len_tl]
          refine Nat.pos_of_ne_zero fun z => ht (tl_len0.mp (List.length_eq_zero_iff.mp z))
        refine ifT (decide_eq_true (by omega)) ?_
        refine ⟨fun _ _ => False, fun σ' H' nn => nn.elim, ?_⟩
        refine ⟨.byt _, rfl, .int _, rfl, _, _, [], t, rfl, tc, ?_⟩
        refine ⟨.non, rfl, rfl, _, rfl, ifT rfl ⟨.int _, rfl, (by show 1 ≤ 1000; decide), do_raise S.eO fun dd H3 s3 _ h3 => b _ (by
          unfold dueT
          rw [gd.f]
          show (if t = "" then none else some (5 + flen ls)) = some (5 + flen (es.map lineF))
          rw [if_neg ht, gd.e, List.append_nil]) dd H3 (s1.trans s3) h3⟩⟩
    | cons r rest =>
      rw [flen_cons] at lc
      obtain ⟨rl, rp⟩ := tc.mem (r := r) List.mem_cons_self
      refine ifT (decide_eq_true (by omega)) ?_
      refine ⟨treeW K H x ls t d (x.length - (5 + flen (es.map lineF) + r.length + 1)), fun σ' H' n => ⟨_, by omega, n⟩, ?_⟩
      refine ⟨.byt _, rfl, .int _, rfl, _, _, r :: rest, t, rfl, tc, ?_⟩
      refine ⟨.str r, rfl, rfl, _, rfl, ifF (fun z => by cases z) ?_⟩
      refine ⟨.ref d, rfl, d, _, rfl, hdt, rfl, _, rfl, ?_⟩
      by_cases n30 : es.length = 30
      · refine ifT (decide_eq_true (by rw [len_kT, ltb, n30]; rfl)) ⟨.int _, rfl, (by show 1 ≤ 1000; decide), do_raise S.eO fun dd H3 s3 _ h3 => b _ (gd.due (gd.bad fun _ _ => .inl n30)) dd H3 (s1.trans s3) h3⟩
      refine ifF (fun z => n30 (by
        have z := V.int.inj (of_decide_eq_true z)
        rw [len_kT, ltb] at z
        omega)) ?_
      refine ⟨.str r, rfl, r, rfl, rl, rp, fun H1 s2 => ⟨_, rfl, ?_⟩⟩
      cases ew : entW r with
      | none => exact ifT rfl ⟨.int _, rfl, (by show 1 ≤ 1000; decide), do_raise S.eO fun dd H3 s3 _ h3 => b _ (gd.due (gd.bad fun e he => by rw [ew] at he; cases he)) dd H3 (s1.trans (s2.trans s3)) h3⟩
      | some e =>
        refine ifF (fun z => by cases z) ?_
        obtain ⟨er, eo, es3⟩ := entW_line ew
        refine ⟨.str r, rfl, ⟨_, rfl⟩, _, _, rfl, rfl, by decide +kernel, by rw [sizeLine_eq]; omega, fun p hp => ?_⟩
        rw [show Txt.split r (Str.ofString " ") = [e.2.1, e.1, e.2.2] from es3]
        have s3 := same_new (o := .lst ([e.2.1, e.1, e.2.2].map V.str)) hp
        have h3 : (upd H1 p (.lst ([e.2.1, e.1, e.2.2].map V.str))) p = some (.lst ([e.2.1, e.1, e.2.2].map V.str)) := upd_same
        generalize upd H1 p (.lst ([e.2.1, e.1, e.2.2].map V.str)) = H2 at s3 h3 ⊢
        refine ⟨p, _, rfl, SqL.of h3, rfl, .str e.2.1, _, rfl, .str e.1, _, rfl, .str e.2.2, _, rfl, rfl, ?_⟩
        refine ⟨.str e.1, rfl, .str (lastK es), rfl, _, _, rfl, rfl, _, rfl, ?_⟩
        by_cases lt : (lastK es).cps.toList < e.1.cps.toList
        · refine ifF (fun z => ?_) ?_
          · have z : (!decide ((lastK es).cps.toList < e.1.cps.toList)) = true := z
            rw [decide_eq_true lt] at z
            cases z
          refine ⟨.str e.2.1, rfl, .str e.2.2, rfl, (by show 2 ≤ sizeLine; decide), fun q0 hq => ?_⟩
          have s4 := same_new (o := .tup [.str e.2.1, .str e.2.2]) hq
          have s24 := s2.trans (s3.trans s4)
          refine ⟨.ref d, rfl, .str e.1, rfl, d, _, rfl, .inl ⟨kT tb, .inr e.1, s24 _ _ hdt, rfl, small_lt (by rw [len_kT]; omega), rfl⟩, ?_⟩
          rw [putK_kT]
          refine ⟨.str e.1, rfl, ?_⟩
          refine ⟨.int _, rfl, .str r, rfl, r, rfl, small_line (by omega), _, _, rfl, rfl, _, _, rfl, rfl, ?_⟩
          have gd2 := gd.add ew n30 lt
          have nin : e.1 ∉ es.map (·.1) := fun z => by
            obtain ⟨y, hy, ey⟩ := List.mem_map.mp z
            have := List.lt_of_le_of_lt (List.not_lt.mp (gd.last y hy)) lt
            rw [ey] at this
            exact List.lt_irrefl _ this
          have en2 := ents_snoc (en.keep (TupKeep.of s24)) nin (q := q0) (.inl upd_same)
          have kt : TupKeep (upd H2 q0 (.tup [.str e.2.1, .str e.2.2])) (upd (upd H2 q0 (.tup [.str e.2.1, .str e.2.2])) d (.dK (kT (putK tb e.1 (.ref q0))))) := TupKeep.at fun xs z => by rw [s24 _ _ hdt] at z; cases z
          have lp := line_pos e es
          rw [← er] at lp
          refine ⟨es ++ [e], rest, by rw [lp]; omega, gd2, putK tb e.1 (.ref q0), some (.str r), some (.str e.2.1), some (.str e.1), some (.str e.2.2), ?_, same_mut (s1.trans s24) hd, upd_same, en2.keep kt⟩
          rw [show ((5 + flen ((es ++ [e]).map lineF) : Nat) : Int) = ((5 + flen (es.map lineF) : Nat) : Int) + ((r.length : Nat) : Int) + 1 by rw [lp]; omega, lastK_snoc]
          rfl
        · refine ifT ?_ ⟨.int _, rfl, (by show 1 ≤ 1000; decide), do_raise S.eO fun dd H4 s4 _ h4 => b _ (gd.due (gd.bad fun e' he => by rw [ew] at he; cases he; exact .inr lt)) dd H4 (s1.trans (s2.trans (s3.trans s4))) h4⟩
          show (!decide ((lastK es).cps.toList < e.1.cps.toList)) = true
          rw [decide_eq_false lt]
          rfl
end

end Fk

set_option maxHeartbeats 4000000
namespace Fk
open PySem PySem.Spec PyProof.Rows L2
def OTY : List String := ["NoneType", "bool", "int", "str", "tuple", "list", "dict"]
/-- a value of a kind that is hardly ever wanted -/
def OddV (K : PySem.W.Frag) (H : Hp) (v : V) : Prop := ∃ T ∈ OTY, TyX K H v (.type T)
theorem odd_byt : ∀ T ∈ OTY, kitB T "bytes" = some false := by decide +kernel
theorem heads_ne : ("tree" : Str) ≠ "blob" ∧ ("commit" : Str) ≠ "blob" ∧ ("tag" : Str) ≠ "blob" ∧ ("commit" : Str) ≠ "tree" ∧ ("tag" : Str) ≠ "tree" ∧ ("tag" : Str) ≠ "commit" := by decide +kernel
theorem heads_len : ("blob" : Str).length = 4 ∧ ("tree" : Str).length = 4 ∧ ("commit" : Str).length = 6 ∧ ("tag" : Str).length = 3 := by decide +kernel
theorem due_blob (n : Nat) (ls : List Str) (t : Str) : dueR n "blob" ls t = if flen ls + t.length ≤ 2000 then none else some 5 := by
  unfold dueR
  rw [if_neg (fun z => z (by decide +kernel)), if_pos rfl]
theorem due_tree (n : Nat) (ls : List Str) (t : Str) : dueR n "tree" ls t = dueT ls t := by
  unfold dueR
  rw [if_neg (fun z => z (by decide +kernel)), if_neg heads_ne.1, if_pos rfl]
  rfl
theorem due_commit (n : Nat) (ls : List Str) (t : Str) : dueR n "commit" ls t = dueS n STC 7 ls := by
  unfold dueR
  rw [if_neg (fun z => z (by decide +kernel)), if_neg heads_ne.2.1, if_neg heads_ne.2.2.2.1, if_pos rfl]
theorem due_tag (n : Nat) (ls : List Str) (t : Str) : dueR n "tag" ls t = dueS n STG 4 ls := by
  unfold dueR
  rw [if_neg (fun z => z (by decide +kernel)), if_neg heads_ne.2.2.1, if_neg heads_ne.2.2.2.2.1, if_neg heads_ne.2.2.2.2.2]
theorem due_else (n : Nat) {hd : Str} (ls : List Str) (t : Str) (h : hd ≠ "blob" ∧ hd ≠ "tree" ∧ hd ≠ "commit" ∧ hd ≠ "tag") : dueR n hd ls t = some 0 := by
  unfold dueR
  rw [if_pos]
  unfold HEADS
  simp only [List.mem_cons, List.not_mem_nil, or_false]
  rintro (z | z | z | z)
  · exact h.1 z
  · exact h.2.1 z
  · exact h.2.2.1 z
  · exact h.2.2.2 z
theorem ifS {x y : Str} {A B : Prop} (h1 : x = y → A) (h2 : x ≠ y → B) : if decide (V.str x = V.str y) = true then A else B := by
  by_cases c : x = y
  · rw [if_pos (decide_eq_true (congrArg V.str c))]
    exact h1 c
  · rw [if_neg fun z => c (V.str.inj (of_decide_eq_true z))]
    exact h2 c
section
variable {P : Program} {w : World} {K : PySem.W.Frag} {mg : Str → Option Value} {base : Heap} {c : C4} {CS cX iX ek pd cO iO : Addr}
def spDecode (K : PySem.W.Frag) (c : C4) (cO : Addr) : Sp := fun vs H Q E => (∃ (x : Str) (o : Option (Str × List Str × Str)), vs = [.byt (bytL (TL.tl x))] ∧ DecR x o ∧ PlL (TL.tl x) ∧ x.length ≤ 4000 ∧
  (dueX x.length o = none → ∀ o a d H', o.ok → encF o = x → Same H H' → ObAt K c H' a d o → Q (.ref a) H') ∧ ∀ k, dueX x.length o = some k → Bad cO H k E) ∨
  ∃ v, vs = [v] ∧ OddV K H v ∧ Bad cO H 0 E
theorem cx_decode (S : TopB K mg c CS cX iX ek pd cO iO) : CalX P w K mg base (L2.CX P w) 8 "decode" (spDecode K c cO) [] := by
  have T := S.toTopO
  refine calX_of T.d_decode sc_decode (fun _ _ _ _ _ _ us hl => match us, hl with | [_], _ => rfl) (fun vs H Q E h => ?_) (fun f cdv A outer s H vs Q E hr h => ?_)
  · rcases h with ⟨x, o, rfl, _⟩ | ⟨v, rfl, _⟩ <;> rfl
  · obtain ⟨g, hg⟩ := gf T.d_is_text
    have g_is_text : ∃ u, mg "is_text" = some u ∧ RelV (.ref g) u := ⟨_, hg, rfl⟩
    rcases h with ⟨x, o, rfl, dec, pl, hl, q, b⟩ | ⟨v, rfl, ⟨Ty, hT, ty⟩, b⟩
    · refine ⟨_, (pss_cons (ps_if (pt_not (pt_val (pe_callB call_isi (by rfl) T.z_isinstance (by decide +kernel) (pa_cons (pv 0) (pa_cons (pe_bltn (v := .ty "bytes") (by rfl) T.z_bytes (by decide +kernel) rfl) pa_nil)))))
      (pss_one (ps_raise rfl (takes_of rfl rfl rfl rfl) (rs_of S.eO (hr.mono (by decide)) (by rfl) (pa_cons pe_int pa_nil))))
      pss_nil)
      (pss_cons (ps_set (i := 1) sc_decode.nd rfl (Or.inl rfl) (C8.pe_c (c__line_at T.toTop) hr (by decide) (by rfl) (pa_cons (pv 0) (pa_cons pe_int pa_nil))))
      (pss_cons (ps_if (pt_cmpR op_eq (pv 1) pe_str (nomark _))
      (pss_one (ps_ret (C8.pe_mk (k_Blob T) hr (by decide) (by rfl) (pa_cons (pe_cx (cx__text_at S) hr (by decide) (fun _ => passAt (takes_of rfl rfl rfl rfl) _) (by rfl) (pa_cons (pv 0) (pa_cons pe_int (pa_cons (C8.pe_gc (by rfl) g_is_text) pa_nil)))) pa_nil))))
      pss_nil)
      (pss_cons (ps_if (pt_cmpR op_eq (pv 1) pe_str (nomark _))
      (pss_one (ps_ret (pe_cx (cx__decoded_tree S) hr (by decide) (fun _ => passAt (takes_of rfl rfl rfl rfl) _) (by rfl) (pa_cons (pv 0) pa_nil))))
      pss_nil)
      (pss_cons (ps_if (pt_cmpR op_eq (pv 1) pe_str (nomark _))
      (pss_one (ps_ret (pe_cx (cx__decoded_commit S) hr (by decide) (fun _ => passAt (takes_of rfl rfl rfl rfl) _) (by rfl) (pa_cons (pv 0) pa_nil))))
      pss_nil)
      (pss_cons (ps_if (pt_cmpR op_eq (pv 1) pe_str (nomark _))
      (pss_one (ps_ret (pe_cx (cx__decoded_tag S) hr (by decide) (fun _ => passAt (takes_of rfl rfl rfl rfl) _) (by rfl) (pa_cons (pv 0) pa_nil))))
      pss_nil)
      (pss_one (ps_raise rfl (takes_of rfl rfl rfl rfl) (rs_of S.eO (hr.mono (by decide)) (by rfl) (pa_cons pe_int pa_nil)))))))))), ?_⟩
      refine ⟨.byt _, rfl, ?_⟩
      dsimp only [tCons, tC, tNil]
      refine ⟨_, _, .type "bytes", .type "bytes", true, rfl, .ty "bytes", .byt _, kit_ty (by decide +kernel), _, rfl, iteF ?_⟩
      cases o with
      | none =>
        have tx : Tx (TL.tl x) 0 [] x := ⟨rfl, Nat.zero_le _, fun r hr => (List.not_mem_nil hr).elim, dec, pl, by rw [← TL.len_tl]; exact hl⟩
        refine ⟨.byt _, rfl, _, 0, [], x, rfl, tx, ?_⟩
        exact ⟨.non, rfl, rfl, _, rfl, ifF (fun z => by cases z) ⟨.non, rfl, rfl, _, rfl, ifF (fun z => by cases z) ⟨.non, rfl, rfl, _, rfl, ifF (fun z => by cases z) ⟨.non, rfl, rfl, _, rfl, ifF (fun z => by cases z) ⟨(by show 1 ≤ 1000; decide), do_raise S.eO fun dd H3 s3 _ h3 => b 0 rfl dd H3 s3 h3⟩⟩⟩⟩⟩
      | some dl =>
        obtain ⟨hd, ls, t⟩ := dl
        obtain ⟨e, nh, nl, nt⟩ := dec
        have tx : Tx (TL.tl x) 0 (hd :: ls) t := ⟨by rw [flat_cons, List.append_assoc]; exact e, Nat.zero_le _, fun r hr => by
          rcases List.mem_cons.mp hr with rfl | hr
          · exact nh
          · exact nl r hr, nt, pl, by rw [← TL.len_tl]; exact hl⟩
        refine ⟨.byt _, rfl, _, 0, hd :: ls, t, rfl, tx, ?_⟩
        have q : dueR x.length hd ls t = none → ∀ o a d H', o.ok → encF o = x → Same H H' → ObAt K c H' a d o → Q (.ref a) H' := q
        have b : ∀ k, dueR x.length hd ls t = some k → Bad cO H k E := b
        refine ⟨.str hd, rfl, rfl, _, rfl, ifS (fun h1 => ?_) (fun h1 => ?_)⟩
        · subst h1
          rw [due_blob] at q b
          have tx5 := tx.next
          rw [heads_len.1] at tx5
          obtain ⟨y, ey, ly, py⟩ := tx5.tail
          have l5 := tx5.hn
          refine ⟨.byt _, rfl, _, 5, g, .text, y, rfl, hg, pl, l5, by rw [← TL.len_tl]; exact hl, ey, fun ht H1 s1 => fun a x1 ha hx1 _ => ?_, fun ht => b 5 ?_⟩
          · have ht : isTextF y = true := ht
            have ht2 := ht
            rw [py.text] at ht2
            have ly2 := of_decide_eq_true ht2
            have ex : encF (.blob y) = x := str_ext (by
              show TL.tl (encF (.blob y)) = TL.tl x
              rw [enc_rows, e, ← tx5.e, ey]
              rfl)
            exact mk_blob (K := K) ht ha hx1 fun H2 s2 o2 => q (if_pos (by omega)) (.blob y) a a H2 ht ex (s1.trans s2) o2
          · have ht : isTextF y = false := ht
            rw [py.text] at ht
            rw [if_neg]
            intro z
            rw [decide_eq_true (by omega)] at ht
            cases ht
        have mk : Hd x hd ls t := ⟨e, nh, nl, nt, pl, hl⟩
        refine ⟨.str hd, rfl, rfl, _, rfl, ifS (fun h2 => ?_) (fun h2 => ?_)⟩
        · subst h2
          rw [due_tree] at q b
          exact ⟨.byt _, rfl, x, ls, t, rfl, mk, q, b⟩
        refine ⟨.str hd, rfl, rfl, _, rfl, ifS (fun h3 => ?_) (fun h3 => ?_)⟩
        · subst h3
          rw [due_commit] at q b
          exact ⟨.byt _, rfl, x, ls, t, rfl, mk, q, b⟩
        refine ⟨.str hd, rfl, rfl, _, rfl, ifS (fun h4 => ?_) (fun h4 => ?_)⟩
        · subst h4
          rw [due_tag] at q b
          exact ⟨.byt _, rfl, x, ls, t, rfl, mk, q, b⟩
        exact ⟨(by show 1 ≤ 1000; decide), do_raise S.eO fun dd H3 s3 _ h5 => b 0 (due_else _ ls t ⟨h1, h2, h3, h4⟩) dd H3 s3 h5⟩
    · refine ⟨_, (pss_cons (ps_if (pt_not (pt_val (pe_callB call_isi (by rfl) T.z_isinstance (by decide +kernel) (pa_cons (pv 0) (pa_cons (pe_bltn (v := .ty "bytes") (by rfl) T.z_bytes (by decide +kernel) rfl) pa_nil)))))
      (pss_one (ps_raise rfl (takes_of rfl rfl rfl rfl) (rs_of S.eO (hr.mono (by decide)) (by rfl) (pa_cons pe_int pa_nil))))
      pss_nil)
      (pss_cons (ps_set (i := 1) sc_decode.nd rfl (Or.inl rfl) (C8.pe_c (c__line_at T.toTop) hr (by decide) (by rfl) (pa_cons (pv 0) (pa_cons pe_int pa_nil))))
      (pss_cons (ps_if (pt_cmpR op_eq (pv 1) pe_str (nomark _))
      (pss_one (ps_ret (C8.pe_mk (k_Blob T) hr (by decide) (by rfl) (pa_cons (pe_cx (cx__text_at S) hr (by decide) (fun _ => passAt (takes_of rfl rfl rfl rfl) _) (by rfl) (pa_cons (pv 0) (pa_cons pe_int (pa_cons (C8.pe_gc (by rfl) g_is_text) pa_nil)))) pa_nil))))
      pss_nil)
      (pss_cons (ps_if (pt_cmpR op_eq (pv 1) pe_str (nomark _))
      (pss_one (ps_ret (pe_cx (cx__decoded_tree S) hr (by decide) (fun _ => passAt (takes_of rfl rfl rfl rfl) _) (by rfl) (pa_cons (pv 0) pa_nil))))
      pss_nil)
      (pss_cons (ps_if (pt_cmpR op_eq (pv 1) pe_str (nomark _))
      (pss_one (ps_ret (pe_cx (cx__decoded_commit S) hr (by decide) (fun _ => passAt (takes_of rfl rfl rfl rfl) _) (by rfl) (pa_cons (pv 0) pa_nil))))
      pss_nil)
      (pss_cons (ps_if (pt_cmpR op_eq (pv 1) pe_str (nomark _))
      (pss_one (ps_ret (pe_cx (cx__decoded_tag S) hr (by decide) (fun _ => passAt (takes_of rfl rfl rfl rfl) _) (by rfl) (pa_cons (pv 0) pa_nil))))
      pss_nil)
      (pss_one (ps_raise rfl (takes_of rfl rfl rfl rfl) (rs_of S.eO (hr.mono (by decide)) (by rfl) (pa_cons pe_int pa_nil)))))))))), ?_⟩
      refine ⟨v, rfl, ?_⟩
      dsimp only [tCons, tC, tNil]
      refine ⟨_, _, .type Ty, .type "bytes", false, rfl, .ty "bytes", ty, kit_ty (odd_byt Ty hT), _, rfl, iteT ?_⟩
      exact ⟨(by show 1 ≤ 1000; decide), do_raise S.eO fun dd H3 s3 _ h3 => b dd H3 s3 h3⟩
end

end Fk

set_option maxHeartbeats 4000000
namespace Fk
open PySem PySem.Spec PyProof.Rows L2
section
variable {P : Program} {w : World} {K : PySem.W.Frag} {mg : Str → Option Value} {base : Heap}
/-! ### the wells -/
def spCellAt (K : PySem.W.Frag) : Sp := fun vs H Q _ => ∃ (a : Addr) (ns : List Int) (k : Nat), vs = [.ref a, .int k] ∧ SqL K H a (ns.map V.int) ∧ ∀ v : Int, Q (.int v) H
theorem c_l_cell_at (T : Top K mg) : C8.Cal P w K mg base 1 "_law_cell_at" (spCellAt K) [] := by
  refine cal_of T.d_l_cell_at sc_l_cell_at (fun _ _ _ _ _ _ us hl => match us, hl with | [_, _], _ => rfl) (fun vs H Q E h => ?_) (fun f cdv A outer s H vs Q E hr h => ?_)
  · obtain ⟨a, ns, k, rfl, _⟩ := h
    rfl
  · obtain ⟨a, ns, k, rfl, hS, q⟩ := h
    refine ⟨_, (pss_cons (ps_if (pt_cmpR op_lt (pv 1) (pe_callB call_len_seq (by rfl) T.z_len (by decide +kernel) (pa_cons (pv 0) pa_nil)) (nomark _))
      (pss_one (ps_ret (pe_ix ix_list (pv 0) (pv 1) (fun _ _ => rfl))))
      pss_nil)
      (pss_one (ps_ret pe_int))), ?_⟩
    refine ⟨.int k, rfl, .ref a, rfl, a, _, rfl, .inl hS, _, _, rfl, rfl, _, rfl, ite2 (fun h1 => ?_) (fun h1 => ?_)⟩
    · have h1 := of_decide_eq_true h1
      rw [List.length_map] at h1
      have h2 : k < ns.length := by omega
      exact ⟨.ref a, rfl, .int k, rfl, a, _, k, .int ns[k], rfl, rfl, hS, atI_nat (by rw [List.getElem?_map, List.getElem?_eq_getElem h2]; rfl), q _⟩
    · exact q _
def spWell : Sp := fun vs H Q _ => ∃ (x : Int), vs = [.int x] ∧ ∀ H' a, H a = none → Same H H' → Wl H' a 0 → Q (.ref a) H'
theorem c_l_well (T : Top K mg) : C8.Cal P w K mg base 1 "_law_well" spWell [] := by
  refine cal_of T.d_l_well sc_l_well (fun _ _ _ _ _ _ us hl => match us, hl with | [_], _ => rfl) (fun vs H Q E h => ?_) (fun f cdv A outer s H vs Q E hr h => ?_)
  · obtain ⟨x, rfl, _⟩ := h
    rfl
  · obtain ⟨x, rfl, q⟩ := h
    refine ⟨_, (pss_one (ps_ret (pe_lst (pa_cons (pe_op op_mul (pv 0) (pe_callTy call_int1 (by rfl) T.z_int (by decide +kernel) (pa_cons (pe_cmpR op_ge (pv 0) (pe_op op_pow pe_int pe_int) (nomark _)) pa_nil))) (pa_cons (pv 0) (pa_cons pe_int pa_nil)))))), ?_⟩
    refine ⟨.int x, rfl, .int x, rfl, 10, 18, rfl, rfl, ⟨by decide, by decide, by decide⟩, _, _, rfl, rfl, .inr ⟨_, rfl, _, _, rfl, rfl, .inr ?_, .int x, rfl, (by show 3 ≤ sizeLine; decide), fun p hp => ?_⟩⟩
    · split <;> exact ⟨by decide, by decide⟩
    · exact q _ p hp (same_new hp) ⟨Int.le_refl _, _, _, upd_same⟩
/-- the number that is drawn; the well behind it -/
def Drawn (H : Hp) (a : Addr) (n c : Int) (Q : VK) : Prop := ∀ r x y c', 0 ≤ r → r < n → c ≤ c' → c' ≤ c + 1 → Q (.int r) (upd H a (.lst [.int x, .int y, .int c']))
def spDraw : Sp := fun vs H Q _ => ∃ (a : Addr) (n c : Int), vs = [.ref a, .int n] ∧ Wl H a c ∧ 0 < n ∧ n < 2000000000 ∧ c < 2 ^ 40 ∧ Drawn H a n c Q
theorem at3 (x y c : Int) : atI [V.int x, .int y, .int c] 0 = some (.int x) ∧ atI [V.int x, .int y, .int c] 1 = some (.int y) ∧ atI [V.int x, .int y, .int c] 2 = some (.int c) := ⟨rfl, rfl, rfl⟩
theorem pow_small {i : Int} (h0 : 0 ≤ i) (h : i < 2 ^ 62) : i.natAbs < 2 ^ 64 := by omega
theorem c_l_draw (T : Top K mg) : C8.Cal P w K mg base 1 "_law_draw" spDraw [] := by
  refine cal_of T.d_l_draw sc_l_draw (fun _ _ _ _ _ _ us hl => match us, hl with | [_, _], _ => rfl) (fun vs H Q E h => ?_) (fun f cdv A outer s H vs Q E hr h => ?_)
  · obtain ⟨a, n, c, rfl, _⟩ := h
    rfl
  · obtain ⟨a, n, c, rfl, ⟨hc0, x, y, hw⟩, hn0, hn1, hc, q⟩ := h
    refine ⟨_, (pss_cons (ps_if (pt_cmpR op_gt (pe_ix ix_list (pv 0) pe_int (fun _ _ => rfl)) pe_int (nomark _))
      (pss_cons (ps_set (i := 2) sc_l_draw.nd rfl (Or.inl rfl) (pe_op op_mod (pe_callTy call_int1 (by rfl) T.z_int (by decide +kernel) (pa_cons (pe_ix ix_list (pv 0) pe_int (fun _ _ => rfl)) pa_nil)) (pv 1)))
      (pss_cons (ps_asg (pe_op op_fdivW (pe_ix ix_list (pv 0) pe_int (fun _ _ => rfl)) (pv 1)) (pg_sub (pv 0) pe_int set_list))
      (pss_one (ps_ret (pv 2)))))
      pss_nil)
      (pss_cons (ps_asg (pe_op op_add (pe_ix ix_list (pv 0) pe_int (fun _ _ => rfl)) pe_int) (pg_sub (pv 0) pe_int set_list))
      (pss_cons (ps_set (i := 3) sc_l_draw.nd rfl (Or.inl rfl) (pe_op op_add (pe_op op_mod (pe_callTy call_int1 (by rfl) T.z_int (by decide +kernel) (pa_cons (pe_ix ix_list (pv 0) pe_int (fun _ _ => rfl)) pa_nil)) pe_int) (pe_op op_mul (pe_op op_mod (pe_callTy call_int1 (by rfl) T.z_int (by decide +kernel) (pa_cons (pe_op op_fdivW (pe_ix ix_list (pv 0) pe_int (fun _ _ => rfl)) pe_int) pa_nil)) pe_int) pe_int)))
      (pss_cons (ps_set (i := 4) sc_l_draw.nd rfl (Or.inl rfl) (pe_op op_mod (pe_callTy call_int1 (by rfl) T.z_int (by decide +kernel) (pa_cons (pe_op op_pow (pe_op op_add (pe_op op_add (pv 3) (pe_op op_mul pe_int (pe_ix ix_list (pv 0) pe_int (fun _ _ => rfl)))) pe_int) pe_int) pa_nil)) pe_int))
      (pss_cons (ps_set (i := 4) sc_l_draw.nd rfl (Or.inl rfl) (pe_op op_mod (pe_callTy call_int1 (by rfl) T.z_int (by decide +kernel) (pa_cons (pe_op op_mul (pv 4) (pe_op op_add (pe_op op_add (pe_op op_fdivW (pv 4) pe_int) pe_int) (pe_ix ix_list (pv 0) pe_int (fun _ _ => rfl)))) pa_nil)) pe_int))
      (pss_one (ps_ret (pe_op op_mod (pe_callTy call_int1 (by rfl) T.z_int (by decide +kernel) (pa_cons (pe_op op_mod (pe_callTy call_int1 (by rfl) T.z_int (by decide +kernel) (pa_cons (pe_op op_mul (pv 4) (pe_op op_add (pe_op op_fdivW (pv 4) pe_int) pe_int)) pa_nil)) pe_int) pa_nil)) (pv 1))))))))), ?_⟩
    refine ⟨.ref a, rfl, a, _, 0, _, rfl, rfl, SqL.of hw, rfl, _, _, rfl, rfl, _, rfl, ite2 (fun h1 => ?_) (fun h1 => ?_)⟩
    · refine ⟨.ref a, rfl, a, _, 0, _, rfl, rfl, SqL.of hw, rfl, .inl ⟨_, rfl, .int n, rfl, _, _, rfl, rfl, hn0, ?_⟩⟩
      refine ⟨.ref a, rfl, a, _, 0, _, rfl, rfl, SqL.of hw, rfl, .int n, rfl, _, _, rfl, rfl, wide_div (b := 31) hn0 (by omega) (by decide) (by decide), .ref a, rfl, a, _, 0, 0, rfl, rfl, hw, rfl, .int (x % n), rfl, ?_⟩
      exact q _ _ _ _ (Int.emod_nonneg _ (by omega)) (Int.emod_lt_of_pos _ hn0) (Int.le_refl _) (by omega)
    · refine ⟨.ref a, rfl, a, _, 2, _, rfl, rfl, SqL.of hw, rfl, _, _, rfl, rfl, .ref a, rfl, a, _, 2, 2, rfl, rfl, hw, rfl, ?_⟩
      have hw2 : (upd H a (.lst [V.int x, .int y, .int (c + 1)])) a = some (.lst [V.int x, .int y, .int (c + 1)]) := upd_same
      have b1 : ∀ z m : Int, 0 < m → 0 ≤ z % m ∧ z % m < m := fun z m h => ⟨Int.emod_nonneg _ (by omega), Int.emod_lt_of_pos _ h⟩
      have y1 := b1 y 2147483549 (by decide)
      have y2 := b1 (y / 2147483549) 80021 (by decide)
      refine ⟨.ref a, rfl, a, _, 1, _, rfl, rfl, SqL.of hw2, rfl, .inl ⟨_, rfl, _, _, rfl, rfl, (by show (0 : Int) < _; decide), .ref a, rfl, a, _, 1, _, rfl, rfl, SqL.of hw2, rfl, _, _, rfl, rfl, wide_div (b := 40) (by decide) (by decide) (by decide) (by decide), .inl ⟨_, rfl, _, _, rfl, rfl, (by show (0 : Int) < _; decide), _, _, rfl, rfl, .inr (by decide), _, _, rfl, rfl, ?_⟩⟩⟩
      refine ⟨_, rfl, .ref a, rfl, a, _, 2, _, rfl, rfl, SqL.of hw2, rfl, _, _, rfl, rfl, .inl (by decide), _, _, rfl, rfl, _, _, rfl, rfl, _, _, rfl, rfl, ⟨by decide, by decide, pow_small (by omega) (by omega)⟩, .inl ⟨_, rfl, _, _, rfl, rfl, (by show (0 : Int) < _; decide), ?_⟩⟩
      generalize ((y % 2147483549 + y / 2147483549 % 80021 * 37 + 5843 * (c + 1) + 17) ^ Int.toNat 5) = big
      have m1 := b1 big 2147483647 (by decide)
      refine ⟨_, rfl, _, rfl, _, _, rfl, rfl, wide_div (b := 40) (by decide) (by decide) (by decide) (by decide), _, _, rfl, rfl, .ref a, rfl, a, _, 2, _, rfl, rfl, SqL.of hw2, rfl, _, _, rfl, rfl, _, _, rfl, rfl, .inl (by omega), .inl ⟨_, rfl, _, _, rfl, rfl, (by show (0 : Int) < _; decide), ?_⟩⟩
      generalize (big % 2147483647 * (big % 2147483647 / 953 + 40993 + (c + 1))) = big2
      have m2 := b1 big2 2147483629 (by decide)
      refine ⟨_, rfl, _, rfl, _, _, rfl, rfl, wide_div (b := 40) (by decide) (by decide) (by decide) (by decide), _, _, rfl, rfl, _, _, rfl, rfl, .inl (by omega), .inl ⟨_, rfl, _, _, rfl, rfl, (by show (0 : Int) < _; decide), .inl ⟨_, rfl, .int n, rfl, _, _, rfl, rfl, hn0, ?_⟩⟩⟩
      exact q _ _ _ _ (Int.emod_nonneg _ (by omega)) (Int.emod_lt_of_pos _ hn0) (by omega) (Int.le_refl _)
def spPick (K : PySem.W.Frag) : Sp := fun vs H Q _ => ∃ (a b : Addr) (xs : List V) (c : Int), vs = [.ref a, .ref b] ∧ Wl H a c ∧ SqL K H b xs ∧ b ≠ a ∧ 0 < xs.length ∧ xs.length < 1000000 ∧ c < 2 ^ 40 ∧ ∀ v ∈ xs, Aft a c 1 H (Q v)
theorem c_l_pick (T : Top K mg) : C8.Cal P w K mg base 2 "_law_pick" (spPick K) [] := by
  refine cal_of T.d_l_pick sc_l_pick (fun _ _ _ _ _ _ us hl => match us, hl with | [_, _], _ => rfl) (fun vs H Q E h => ?_) (fun f cdv A outer s H vs Q E hr h => ?_)
  · obtain ⟨a, b, xs, c, rfl, _⟩ := h
    rfl
  · obtain ⟨a, b, xs, c, rfl, hw, hS, nb, h0, h1, hc, q⟩ := h
    refine ⟨_, (pss_one (ps_ret (pe_ix ix_list (pv 1) (C8.pe_c (c_l_draw T) hr (by decide) (by rfl) (pa_cons (pv 0) (pa_cons (pe_callB call_len_seq (by rfl) T.z_len (by decide +kernel) (pa_cons (pv 1) pa_nil)) pa_nil))) (fun _ _ => rfl)))), ?_⟩
    refine ⟨.ref b, rfl, .ref a, rfl, .ref b, rfl, b, xs, rfl, .inl hS, a, xs.length, c, rfl, hw, by omega, by omega, hc, fun r x y c' hr0 hr1 hc1 hc2 => ?_⟩
    obtain ⟨v, hv, _, e⟩ := atI_int hr0 hr1
    exact ⟨b, xs, r, v, rfl, rfl, sql_fr hS nb Fr.at, e, q v hv _ c' Fr.at (Wl.upd (by have := hw.1; omega)) hc1 hc2⟩
def spSigns : Sp := fun vs H Q _ => ∃ (a : Addr) (s : Str) (l m : Nat) (c : Int), vs = [.ref a, .str s, .int l, .int m] ∧ Wl H a c ∧ 0 < s.length ∧ s.length < 100000 ∧ l ≤ m ∧ m ≤ 1000 ∧ c < 2 ^ 39 ∧
  ∀ x : Str, (∀ u ∈ TL.tl x, u ∈ TL.tl s) → l ≤ x.length → x.length ≤ m → Aft a c (m + 1) H (Q (.str x))
theorem c_l_signs (T : Top K mg) : C8.Cal P w K mg base 2 "_law_signs" spSigns [] := by
  refine cal_of T.d_l_signs sc_l_signs (fun _ _ _ _ _ _ us hl => match us, hl with | [_, _, _, _], _ => rfl) (fun vs H Q E h => ?_) (fun f cdv A outer s H vs Q E hr h => ?_)
  · obtain ⟨a, z, l, m, c, rfl, _⟩ := h
    rfl
  · obtain ⟨a, z, l, m, c, rfl, hw, hz0, hz1, hlm, hm, hc, q⟩ := h
    have hc0 := hw.1
    refine ⟨_, (pss_one (ps_ret (pe_join pe_str (pe_lc (own := [("_law_k", 4)]) (g := gName 4) (by rfl) sc_l_signs.nd (pi_range1 (by rfl) T.z_range (pa_cons (pe_op op_add (pv 2) (C8.pe_c (c_l_draw T) hr (by decide) (by rfl) (pa_cons (pv 0) (pa_cons (pe_op op_add (pe_op op_sub (pv 3) (pv 2)) pe_int) pa_nil)))) pa_nil)) (blkOk_by (own := [("_law_k", 4)]) (N := ["_law_well_here", "_law_signs_here", "_law_least", "_law_most", "_law_k"]) (sc := C8.fnScope s_l_signs) (by decide +kernel)) (fun _ _ _ _ _ => (pg_name (i := 4) sc_l_signs.nd rfl (Or.inl rfl))) (fun _ _ _ _ _ => pts_nil) (fun _ _ _ _ _ => (pe_ix ix_str (pv 1) (C8.pe_c (c_l_draw T) hr (by decide) (by rfl) (pa_cons (pv 0) (pa_cons (pe_callB call_len_str (by rfl) T.z_len (by decide +kernel) (pa_cons (pv 1) pa_nil)) pa_nil))) (fun _ _ => rfl))))))), ?_⟩
    refine ⟨⟨_, rfl⟩, .int l, rfl, .ref a, rfl, .int m, rfl, .int l, rfl, _, _, rfl, rfl, _, _, rfl, rfl, a, _, c, rfl, hw, by omega, by omega, by omega, fun r x y c1 hr0 hr1 hc1 hc2 => ?_⟩
    have hw1 := Wl.upd (H := H) (a := a) (x := x) (y := y) (c := c1) (by omega)
    have f1 : Fr a H (upd H a (.lst [.int x, .int y, .int c1])) := Fr.at
    generalize upd H a (.lst [.int x, .int y, .int c1]) = H1 at hw1 f1 ⊢
    refine ⟨_, _, rfl, rfl, _, rfl, by omega, by omega, fun D hD => ?_⟩
    have nD := hw1.ne hD
    have en : ((l : Int) + r).toNat ≤ m := by omega
    refine lc_inv (i := 4) yields_range (fun k acc H' => Fr a H1 H' ∧ ∃ c', Wl H' a c' ∧ c1 ≤ c' ∧ c' ≤ c1 + k ∧ ∃ cs : List Nat, acc = cs.map sgn ∧ (∀ u ∈ cs, u ∈ TL.tl z) ∧ cs.length = k) (fun _ _ _ _ _ => trivial) ?_ (fun k acc H' x I hA hx ha hk => ?_) ?_ (fun acc H' I hA _ => ?_)
    · exact ⟨Fr.new hD, c1, hw1.new hD, Int.le_refl _, by omega, [], rfl, (fun u hu => nomatch hu), rfl⟩
    · obtain ⟨fr, c', hw', hc3, hc4, cs, rfl, hcs, hl⟩ := I
      have hkm : k < m := by
        have := (List.getElem?_eq_some_iff.mp hx).1
        rw [List.length_map, List.length_range] at this
        omega
      refine yes_ ?_
      refine ⟨.str z, rfl, .ref a, rfl, .str z, rfl, z, rfl, small_line (by omega), a, z.length, c', rfl, hw', by omega, by omega, by omega, fun r x y c2 hr0 hr1 hc5 hc6 => ?_⟩
      obtain ⟨u, hu, _, e⟩ := atI_int (xs := TL.tl z) hr0 (by rw [← TL.len_tl]; exact hr1)
      have fr2 : Fr a H' (upd H' a (.lst [.int x, .int y, .int c2])) := Fr.at
      refine ⟨z, r, u, rfl, rfl, small_line (by omega), e, lc_take (by rw [upd_ne nD]; exact hA) ha hk ⟨(fr.trans fr2).mut hD, c2, (Wl.upd (by omega)).mut nD, by omega, by omega, cs ++ [u], by rw [List.map_append]; rfl, fun w hw => ?_, by rw [List.length_append, hl]; rfl⟩⟩
      rcases List.mem_append.mp hw with hw | hw
      · exact hcs w hw
      · rw [List.mem_singleton.mp hw]
        exact hu
    · rw [List.length_map, List.length_range]
      omega
    · obtain ⟨fr, c', hw', hc3, hc4, cs, rfl, hcs, hl⟩ := I
      rw [List.length_map, List.length_range] at hl hc4
      refine ⟨_, D, cs.map fun c => (⟨#[c]⟩ : Str), rfl, rfl, .inl (SqL.of (by rw [List.map_map]; exact hA)), ?_, ?_⟩
      · rw [signs_sum, List.length_map]
        show cs.length + cs.length * 0 ≤ _
        omega
      · have e := join_signs cs
        refine q _ (by rw [e]; exact hcs) (by rw [TL.len_tl, e]; omega) (by rw [TL.len_tl, e]; omega) H' c' (f1.trans fr) hw' (by omega) (by omega)
def spAllSigns : Sp := fun vs H Q _ => vs = [] ∧ Q (.str ALL) H
theorem c_l_all_signs (T : Top K mg) : C8.Cal P w K mg base 1 "_law_all_signs" spAllSigns [] := by
  refine cal_of T.d_l_all_signs sc_l_all_signs (fun _ _ _ _ _ _ us hl => match us, hl with | [], _ => rfl) (fun vs H Q E h => ?_) (fun f cdv A outer s H vs Q E hr h => ?_)
  · obtain ⟨rfl, _⟩ := h
    rfl
  · obtain ⟨rfl, q⟩ := h
    refine ⟨_, (pss_cons (ps_set (i := 0) sc_l_all_signs.nd rfl (Or.inl rfl) pe_str)
      (pss_one (ps_ret (pe_op op_add_str (pe_op op_add_str (pv 0) pe_str) pe_str)))), ?_⟩
    exact ⟨_, rfl, _, _, rfl, rfl, (by decide +kernel), _, _, rfl, rfl, (by decide +kernel), q⟩
def spId : Sp := fun vs H Q _ => ∃ (a : Addr) (c : Int), vs = [.ref a] ∧ Wl H a c ∧ c < 2 ^ 38 ∧ ∀ x : Str, (∀ u ∈ TL.tl x, u ∈ TL.tl HEX) → x.length = 16 → Aft a c 20 H (Q (.str x))
theorem c_l_id (T : Top K mg) : C8.Cal P w K mg base 3 "_law_id" spId [] := by
  refine cal_of T.d_l_id sc_l_id (fun _ _ _ _ _ _ us hl => match us, hl with | [_], _ => rfl) (fun vs H Q E h => ?_) (fun f cdv A outer s H vs Q E hr h => ?_)
  · obtain ⟨a, c, rfl, _⟩ := h
    rfl
  · obtain ⟨a, c, rfl, hw, hc, q⟩ := h
    refine ⟨_, (pss_one (ps_ret (C8.pe_c (c_l_signs T) hr (by decide) (by rfl) (pa_cons (pv 0) (pa_cons pe_str (pa_cons pe_int (pa_cons pe_int pa_nil))))))), ?_⟩
    exact ⟨.ref a, rfl, a, HEX, 16, 16, c, rfl, hw, by decide +kernel, by decide +kernel, by decide, by decide, by omega, fun x hx h1 h2 => (q x hx (by omega)).more (Fr.refl a H) (Int.le_refl _) (by omega)⟩
theorem menu {xs : List Int} {v : V} (h : v ∈ xs.map V.int) : ∃ m ∈ xs, v = .int m := by
  obtain ⟨m, hm, rfl⟩ := List.mem_map.mp h
  exact ⟨m, hm, rfl⟩
def spSegment : Sp := fun vs H Q _ => ∃ (a : Addr) (c : Int), vs = [.ref a] ∧ Wl H a c ∧ c < 2 ^ 38 ∧ ∀ x : Str, isSegF x = true → Aft a c 20 H (Q (.str x))
theorem c_l_segment (T : Top K mg) : C8.Cal P w K mg base 3 "_law_segment" (spSegment) [] := by
  refine cal_of T.d_l_segment sc_l_segment (fun _ _ _ _ _ _ us hl => match us, hl with | [_], _ => rfl) (fun vs H Q E h => ?_) (fun f cdv A outer s H vs Q E hr h => ?_)
  · obtain ⟨a, c, rfl, _⟩ := h
    rfl
  · obtain ⟨a, c, rfl, hw, hc, q⟩ := h
    refine ⟨_, (pss_cons (ps_set (i := 1) sc_l_segment.nd rfl (Or.inl rfl) pe_str)
      (pss_cons (ps_set (i := 2) sc_l_segment.nd rfl (Or.inl rfl) (C8.pe_c (c_l_signs T) hr (by decide) (by rfl) (pa_cons (pv 0) (pa_cons (pv 1) (pa_cons pe_int (pa_cons (C8.pe_c (c_l_pick T) hr (by decide) (by rfl) (pa_cons (pv 0) (pa_cons (pe_lst (pa_cons pe_int (pa_cons pe_int (pa_cons pe_int pa_nil)))) pa_nil))) pa_nil))))))
      (pss_cons (ps_if (PW.pt (pw_and (pt_cmpR op_lt (pe_callB call_len_str (by rfl) T.z_len (by decide +kernel) (pa_cons (pv 2) pa_nil)) pe_int (nomark _)) (pw_and1 (pt_cmpR op_eq (C8.pe_c (c_l_draw T) hr (by decide) (by rfl) (pa_cons (pv 0) (pa_cons pe_int pa_nil))) pe_int (nomark _)))))
      (pss_cons (ps_set (i := 3) sc_l_segment.nd rfl (Or.inl rfl) (C8.pe_c (c_l_draw T) hr (by decide) (by rfl) (pa_cons (pv 0) (pa_cons (pe_op op_add (pe_callB call_len_str (by rfl) T.z_len (by decide +kernel) (pa_cons (pv 2) pa_nil)) pe_int) pa_nil))))
      (pss_one (ps_set (i := 2) sc_l_segment.nd rfl (Or.inl rfl) (pe_op op_add_str (pe_op op_add_str (pe_slice sl_str (pv 2) po_none (po_some (pv 3))) pe_str) (pe_slice sl_str (pv 2) (po_some (pv 3)) po_none)))))
      pss_nil)
      (pss_one (ps_ret (pv 2)))))), ?_⟩
    refine ⟨.ref a, rfl, .str LTS, rfl, .ref a, rfl, (by show 3 ≤ sizeLine; decide), fun p hp => ⟨a, p, _, c, rfl, hw.new hp, SqL.of upd_same, hw.ne hp, (by show 0 < 3; decide), (by show 3 < 1000000; decide), by omega, fun v hv H1 c1 f1 w1 h1 h2 => ?_⟩⟩
    obtain ⟨m, rfl, hm⟩ : ∃ m : Nat, v = .int m ∧ 1 ≤ m ∧ m ≤ 12 := by
      obtain ⟨m, hm, rfl⟩ := menu (xs := [1, 3, 12]) hv
      simp only [List.mem_cons, List.not_mem_nil, or_false] at hm
      exact ⟨m.toNat, by congr 1; omega, by omega, by omega⟩
    refine ⟨a, LTS, 1, m, c1, rfl, w1, (by decide +kernel), (by decide +kernel), by omega, by omega, by omega, fun x hx h3 h4 H2 c2 f2 w2 h5 h6 => ?_⟩
    have fr2 : Fr a H H2 := (Fr.new hp).trans (f1.trans f2)
    refine ⟨.str x, rfl, x, rfl, small_line (by omega), _, _, rfl, rfl, _, rfl, ite2 (fun h7 => ?_) (fun h7 => ?_)⟩
    · have h7 : x.length < 12 := by
        have := of_decide_eq_true h7
        omega
      refine ⟨.ref a, rfl, a, 4, c2, rfl, w2, by decide, by decide, by omega, fun r x1 y1 c3 hr0 hr1 h8 h9 => ?_⟩
      have w3 := Wl.upd (H := H2) (a := a) (x := x1) (y := y1) (c := c3) (by have := w2.1; omega)
      have f3 : Fr a H2 (upd H2 a (.lst [.int x1, .int y1, .int c3])) := Fr.at
      generalize upd H2 a (.lst [.int x1, .int y1, .int c3]) = H3 at w3 f3 ⊢
      refine ⟨rfl, _, rfl, ite2 (fun h10 => ?_) (fun h10 => ?_)⟩
      · refine ⟨.ref a, rfl, .str x, rfl, x, rfl, small_line (by omega), _, _, rfl, rfl, a, _, c3, rfl, w3, by omega, by omega, by omega, fun r2 x2 y2 c4 hr2 hr3 h11 h12 => ?_⟩
        have w4 := Wl.upd (H := H3) (a := a) (x := x2) (y := y2) (c := c4) (by have := w3.1; omega)
        have f4 : Fr a H3 (upd H3 a (.lst [.int x2, .int y2, .int c4])) := Fr.at
        generalize upd H3 a (.lst [.int x2, .int y2, .int c4]) = H4 at w4 f4 ⊢
        obtain ⟨n, rfl⟩ : ∃ n : Nat, r2 = n := ⟨r2.toNat, by omega⟩
        obtain ⟨e1, e2⟩ := seg_dotted n hx h3 h7
        refine ⟨.str x, rfl, .int n, rfl, n, rfl, x, rfl, small_line (by omega), _, _, rfl, rfl, ?_, .str x, rfl, .int n, rfl, n, rfl, x, rfl, small_line (by omega), _, _, rfl, rfl, ?_, .str _, rfl, ?_⟩
        · refine small_line ?_
          have := cutS_le x none (some (n : Int))
          have e : ("." : Str).length = 1 := by decide +kernel
          omega
        · refine small_line ?_
          have := cutS_le x none (some (n : Int))
          have := cutS_le x (some (n : Int)) none
          have e : ("." : Str).length = 1 := by decide +kernel
          rw [Str.length_append]
          omega
        · exact q _ e1 H4 c4 (fr2.trans (f3.trans f4)) w4 (by omega) (by omega)
      · exact ⟨.str x, rfl, q x (seg_plain hx h3 (by omega)) H3 c3 (fr2.trans f3) w3 (by omega) (by omega)⟩
    · exact iteF ⟨.str x, rfl, q x (seg_plain hx h3 (by omega)) H2 c2 fr2 w2 (by omega) (by omega)⟩
def spText : Sp := fun vs H Q _ => ∃ (a : Addr) (c : Int), vs = [.ref a] ∧ Wl H a c ∧ c < 2 ^ 37 ∧ ∀ x : Str, isTextF x = true → x.length ≤ 2000 → Aft a c 100 H (Q (.str x))
theorem c_l_text (T : Top K mg) : C8.Cal P w K mg base 3 "_law_text" (spText) [] := by
  refine cal_of T.d_l_text sc_l_text (fun _ _ _ _ _ _ us hl => match us, hl with | [_], _ => rfl) (fun vs H Q E h => ?_) (fun f cdv A outer s H vs Q E hr h => ?_)
  · obtain ⟨a, c, rfl, _⟩ := h
    rfl
  · obtain ⟨a, c, rfl, hw, hc, q⟩ := h
    have hc0 := hw.1
    refine ⟨_, (pss_cons (ps_set (i := 1) sc_l_text.nd rfl (Or.inl rfl) (C8.pe_c (c_l_pick T) hr (by decide) (by rfl) (pa_cons (pv 0) (pa_cons (pe_lst (pa_cons pe_int (pa_cons pe_int (pa_cons pe_int (pa_cons pe_int pa_nil))))) pa_nil))))
      (pss_cons (ps_set (i := 2) sc_l_text.nd rfl (Or.inl rfl) (C8.pe_c (c_l_signs T) hr (by decide) (by rfl) (pa_cons (pv 0) (pa_cons (pe_c0 (c_l_all_signs T) hr (by decide) (by rfl)) (pa_cons pe_int (pa_cons (pe_callB (call_min2 rfl) (by rfl) T.z_min (by decide +kernel) (pa_cons (pv 1) (pa_cons pe_int pa_nil))) pa_nil))))))
      (pss_cons (ps_if (PW.pt (pw_and (pt_cmpR op_ne (pv 2) pe_str (nomark _)) (pw_and1 (pt_cmpR op_eq (pv 1) pe_int (nomark _)))))
      (pss_one (ps_set (i := 2) sc_l_text.nd rfl (Or.inl rfl) (pe_slice sl_str (pe_op op_mul_si (pv 2) pe_int) po_none (po_some (C8.pe_c (c_l_pick T) hr (by decide) (by rfl) (pa_cons (pv 0) (pa_cons (pe_lst (pa_cons pe_int (pa_cons pe_int (pa_cons pe_int pa_nil)))) pa_nil)))))))
      pss_nil)
      (pss_one (ps_ret (pv 2)))))), ?_⟩
    refine ⟨.ref a, rfl, (by show 4 ≤ sizeLine; decide), fun p hp => ⟨a, p, _, c, rfl, hw.new hp, SqL.of upd_same, hw.ne hp, (by show 0 < 4; decide), (by show 4 < 1000000; decide), by omega, fun v hv H1 c1 f1 w1 h1 h2 => ?_⟩⟩
    obtain ⟨m, rfl, hm⟩ : ∃ m : Int, v = .int m ∧ 3 ≤ m ∧ m ≤ 2000 := by
      obtain ⟨m, hm, rfl⟩ := menu (xs := [3, 3, 20, 2000]) hv
      simp only [List.mem_cons, List.not_mem_nil, or_false] at hm
      exact ⟨m, rfl, by omega, by omega⟩
    refine ⟨.ref a, rfl, rfl, .int m, rfl, _, _, rfl, ?_⟩
    obtain ⟨m', em, hm'⟩ : ∃ m' : Nat, (if (30 : Int) < m then 30 else m) = m' ∧ m' ≤ 30 := by
      split
      · exact ⟨30, rfl, Nat.le_refl _⟩
      · exact ⟨m.toNat, by omega, by omega⟩
    refine ⟨a, ALL, 0, m', c1, by rw [← em]; rfl, w1, (by decide +kernel), (by decide +kernel), by omega, by omega, by omega, fun x hx h3 h4 H2 c2 f2 w2 h5 h6 => ?_⟩
    have fr2 : Fr a H H2 := (Fr.new hp).trans (f1.trans f2)
    have fin : ∀ H3 c3, Fr a H2 H3 → Wl H3 a c3 → c2 ≤ c3 → c3 ≤ c2 + 10 → Q (.str x) H3 := fun H3 c3 f3 w3 h7 h8 => q x (text_of hx (by omega)) (by omega) H3 c3 (fr2.trans f3) w3 (by omega) (by omega)
    refine ⟨.str x, rfl, rfl, _, rfl, ite2 (fun h7 => ?_) (fun h7 => ?_)⟩
    · refine ⟨.int m, rfl, rfl, _, rfl, ite2 (fun h8 => ?_) (fun h8 => ?_)⟩
      · refine ⟨.str x, rfl, x, 2000, rfl, rfl, by decide, by decide, ?_, .ref a, rfl, (by show 3 ≤ sizeLine; decide), fun p2 hp2 => ⟨a, p2, _, c2, rfl, w2.new hp2, SqL.of upd_same, w2.ne hp2, (by show 0 < 3; decide), (by show 3 < 1000000; decide), by omega, fun v hv H3 c3 f3 w3 h9 h10 => ?_⟩⟩
        · have : x.length * Int.toNat 2000 ≤ 30 * 2000 := Nat.mul_le_mul (by omega) (by decide)
          omega
        · obtain ⟨k, rfl, hk⟩ : ∃ k : Nat, v = .int k ∧ k ≤ 2000 := by
            obtain ⟨m, hm, rfl⟩ := menu (xs := [2000, 1999, 1000]) hv
            simp only [List.mem_cons, List.not_mem_nil, or_false] at hm
            exact ⟨m.toNat, by congr 1; omega, by omega⟩
          have e := cut_to (repS x 2000) k
          have hr : (repS x (Int.toNat 2000)).length ≤ 100000 := by
            rw [rep_len]
            have : Int.toNat 2000 * x.length ≤ 2000 * 30 := Nat.mul_le_mul (by decide) (by omega)
            omega
          refine ⟨_, rfl, repS x (Int.toNat 2000), rfl, small_line (by omega), .str _, rfl, ?_⟩
          have hl : (cutS (repS x 2000) none (some (k : Int))).length ≤ 2000 := by
            rw [TL.len_tl, e, List.length_take]
            omega
          refine q _ (text_of (fun u hu => ?_) hl) hl H3 c3 (fr2.trans ((Fr.new hp2).trans f3)) w3 (by omega) (by omega)
          rw [e] at hu
          have hu := List.mem_of_mem_take hu
          rw [tl_rep] at hu
          obtain ⟨l, hl, hu⟩ := List.mem_flatten.mp hu
          rw [(List.mem_replicate.mp hl).2] at hu
          exact hx u hu
      · exact ⟨.str x, rfl, fin H2 c2 (Fr.refl a H2) w2 (Int.le_refl _) (by omega)⟩
    · exact iteF ⟨.str x, rfl, fin H2 c2 (Fr.refl a H2) w2 (Int.le_refl _) (by omega)⟩
end

end Fk

set_option maxHeartbeats 4000000
namespace Fk
open PySem PySem.Spec PyProof.Rows L2
section
variable {P : Program} {w : World} {K : PySem.W.Frag} {mg : Str → Option Value} {base : Heap}
def spIs (f : Str → Bool) : Sp := fun vs H Q _ => ∃ x : Str, vs = [.str x] ∧ x.length ≤ 4000 ∧ PlL (TL.tl x) ∧ ∀ H', Same H H' → Q (.bl (f x)) H'
theorem only_filt {x y : Str} : (((TL.tl x).filter fun c => !decide (c ∈ TL.tl y)).map fun c => (⟨#[c]⟩ : Str)).isEmpty = hasOnly x y := by
  rw [List.isEmpty_map, filt_empty]
  rfl
theorem c_l_is_id (T : Top K mg) : C8.Cal P w K mg base 1 "_law_is_id" (spIs isIdF) [] := by
  refine cal_of T.d_l_is_id sc_l_is_id (fun _ _ _ _ _ _ us hl => match us, hl with | [_], _ => rfl) (fun vs H Q E h => ?_) (fun f cdv A outer s H vs Q E hr h => ?_)
  · obtain ⟨x, rfl, _⟩ := h
    rfl
  · obtain ⟨x, rfl, hx, pl, q⟩ := h
    refine ⟨_, (pss_one (ps_ret (pe_and (pe_cmpR op_eq (pe_callB call_len_str (by rfl) T.z_len (by decide +kernel) (pa_cons (pv 0) pa_nil)) pe_int (nomark _)) (pe_one (pe_cmpR (op_eqD hr.units) (pe_lc (own := [("_law_sign", 1)]) (g := gName 1) (by rfl) sc_l_is_id.nd (pi_str (pv 0)) (blkOk_by (own := [("_law_sign", 1)]) (N := ["_law_text_here", "_law_sign"]) (sc := C8.fnScope s_l_is_id) (by decide +kernel)) (fun _ _ _ _ _ => (pg_name (i := 1) sc_l_is_id.nd rfl (Or.inl rfl))) (fun _ _ _ _ _ => pts_one (pt_cmpR op_notIn_sign (pv 1) pe_str rfl)) (fun _ _ _ _ _ => (pv 1))) (pe_lst pa_nil) (nomark _)))))), ?_⟩
    refine ⟨.str x, rfl, x, rfl, small_line (by omega), rfl, _, rfl, ite2 (fun h1 => ?_) (fun h1 => ?_)⟩
    · have h1 := V.int.inj (of_decide_eq_true h1)
      refine ⟨.str x, rfl, x, rfl, fun D hD => ?_⟩
      refine lc_pure (i := 1) (us := TL.tl x) (g := sgn) (yields_str x) sgn (fun c => !decide (c ∈ TL.tl HEX)) hD (fun _ _ => trivial) (fun H c _ hc R r => ⟨sgn c, rfl, c, HEX, rfl, rfl, _, rfl, r H (Same.refl H)⟩)
        (fun H c _ hc _ R r => ⟨sgn c, rfl, r H (Same.refl H)⟩) (by rw [← TL.len_tl]; omega) (fun H2 s2 h2 => ?_)
      refine ⟨Nat.zero_le _, fun p hp => ?_⟩
      refine ask_nil (ys := ((TL.tl x).filter fun c => !decide (c ∈ TL.tl HEX)).map fun c => (⟨#[c]⟩ : Str)) (ok_sgns pl.ok _) ?_ upd_same ?_
      · rw [upd_ne (ne_of_none h2 hp), h2, map_sgn]
      · rw [only_filt]
        have q := q _ (s2.trans (same_new (o := .lst []) hp))
        unfold isIdF at q
        rw [decide_eq_true (show x.length = 16 by omega)] at q
        exact q
    · have h1 : ¬ x.length = 16 := fun z => h1 (decide_eq_true (by rw [z]; rfl))
      have q := q _ (Same.refl _)
      unfold isIdF at q
      rw [decide_eq_false h1, Bool.false_and] at q
      exact q
theorem c_l_is_author (T : Top K mg) : C8.Cal P w K mg base 1 "_law_is_author" (spIs (isWordF LET)) [] := by
  refine cal_of T.d_l_is_author sc_l_is_author (fun _ _ _ _ _ _ us hl => match us, hl with | [_], _ => rfl) (fun vs H Q E h => ?_) (fun f cdv A outer s H vs Q E hr h => ?_)
  · obtain ⟨x, rfl, _⟩ := h
    rfl
  · obtain ⟨x, rfl, hx, pl, q⟩ := h
    refine ⟨_, (pss_one (ps_ret (pe_and (pe_chain op_le op_le pe_int (pe_callB call_len_str (by rfl) T.z_len (by decide +kernel) (pa_cons (pv 0) pa_nil)) pe_int) (pe_one (pe_cmpR (op_eqD hr.units) (pe_lc (own := [("_law_sign", 1)]) (g := gName 1) (by rfl) sc_l_is_author.nd (pi_str (pv 0)) (blkOk_by (own := [("_law_sign", 1)]) (N := ["_law_text_here", "_law_sign"]) (sc := C8.fnScope s_l_is_author) (by decide +kernel)) (fun _ _ _ _ _ => (pg_name (i := 1) sc_l_is_author.nd rfl (Or.inl rfl))) (fun _ _ _ _ _ => pts_one (pt_cmpR op_notIn_sign (pv 1) pe_str rfl)) (fun _ _ _ _ _ => (pv 1))) (pe_lst pa_nil) (nomark _)))))), ?_⟩
    refine ⟨.str x, rfl, x, rfl, small_line (by omega), _, _, rfl, rfl, _, rfl, ite2 (fun h1 => ?_) (fun h1 => ?_)⟩
    · have h1 := of_decide_eq_true h1
      refine ⟨_, _, rfl, rfl, _, rfl, ite2 (fun h2 => ?_) (fun h2 => ?_)⟩
      · have h2 := of_decide_eq_true h2
        refine ⟨.str x, rfl, x, rfl, fun D hD => ?_⟩
        refine lc_pure (i := 1) (us := TL.tl x) (g := sgn) (yields_str x) sgn (fun c => !decide (c ∈ TL.tl LET)) hD (fun _ _ => trivial) (fun H c _ hc R r => ⟨sgn c, rfl, c, LET, rfl, rfl, _, rfl, r H (Same.refl H)⟩)
          (fun H c _ hc _ R r => ⟨sgn c, rfl, r H (Same.refl H)⟩) (by rw [← TL.len_tl]; omega) (fun H2 s2 h3 => ?_)
        refine ⟨Nat.zero_le _, fun p hp => ?_⟩
        refine ask_nil (ys := ((TL.tl x).filter fun c => !decide (c ∈ TL.tl LET)).map fun c => (⟨#[c]⟩ : Str)) (ok_sgns pl.ok _) ?_ upd_same ?_
        · rw [upd_ne (ne_of_none h3 hp), h3, map_sgn]
        · rw [only_filt]
          have q := q _ (s2.trans (same_new (o := .lst []) hp))
          unfold isWordF at q
          rw [decide_eq_true (show 1 ≤ x.length by omega), decide_eq_true (show x.length ≤ 12 by omega)] at q
          exact q
      · have h2 : ¬ x.length ≤ 12 := fun z => h2 (decide_eq_true (by omega))
        have q := q _ (Same.refl _)
        unfold isWordF at q
        rw [decide_eq_false h2, Bool.false_and, Bool.and_false] at q
        exact q
    · have h1 : ¬ 1 ≤ x.length := fun z => h1 (decide_eq_true (by omega))
      have q := q _ (Same.refl _)
      unfold isWordF at q
      rw [decide_eq_false h1, Bool.false_and] at q
      exact ⟨_, rfl, iteF q⟩
theorem c_l_is_segment (T : Top K mg) : C8.Cal P w K mg base 1 "_law_is_segment" (spIs isSegF) [] := by
  refine cal_of T.d_l_is_segment sc_l_is_segment (fun _ _ _ _ _ _ us hl => match us, hl with | [_], _ => rfl) (fun vs H Q E h => ?_) (fun f cdv A outer s H vs Q E hr h => ?_)
  · obtain ⟨x, rfl, _⟩ := h
    rfl
  · obtain ⟨x, rfl, hx, pl, q⟩ := h
    refine ⟨_, (pss_cons (ps_set (i := 1) sc_l_is_segment.nd rfl (Or.inr rfl) pe_str)
      (pss_cons (ps_if (PW.pt (pw_or (pt_not (pt_chain op_le op_le pe_int (pe_callB call_len_str (by rfl) T.z_len (by decide +kernel) (pa_cons (pv 0) pa_nil)) pe_int)) (pw_or1 (pt_cmpR (op_neD hr.units) (pe_lc (own := [("_law_sign", 2)]) (g := gName 2) (by rfl) sc_l_is_segment.nd (pi_str (pv 0)) (blkOk_by (own := [("_law_sign", 2)]) (N := ["_law_text_here", "_law_signs_here", "_law_sign"]) (sc := C8.fnScope s_l_is_segment) (by decide +kernel)) (fun _ _ _ _ _ => (pg_name (i := 2) sc_l_is_segment.nd rfl (Or.inl rfl))) (fun _ _ _ _ _ => pts_one (pt_cmpR op_notIn_sign (pv 2) (pv 1) rfl)) (fun _ _ _ _ _ => (pv 2))) (pe_lst pa_nil) (nomark _)))))
      (pss_one (ps_ret pe_bl))
      pss_nil)
      (pss_one (ps_ret (pe_and (pe_cmpR op_ne (pv 0) pe_str (nomark _)) (pe_one (pe_cmpR op_notin_str pe_str (pv 0) rfl))))))), ?_⟩
    have no : isWordF SSG x = false → Q (.bl false) H := fun e => by
      have q := q _ (Same.refl _)
      unfold isSegF at q
      rw [e, Bool.false_and] at q
      exact q
    have wf : (1 ≤ x.length ∧ x.length ≤ 12) → isWordF SSG x = hasOnly x SSG := fun ⟨h1, h2⟩ => by
      unfold isWordF
      rw [decide_eq_true h1, decide_eq_true h2]
      rfl
    refine ⟨.str x, rfl, x, rfl, small_line (by omega), _, _, rfl, rfl, _, rfl, ite2 (fun h1 => ?_) (fun h1 => ?_)⟩
    · have h1 := of_decide_eq_true h1
      refine ⟨_, _, rfl, rfl, _, rfl, ite2 (fun h2 => ?_) (fun h2 => ?_)⟩
      · have h2 : ¬ x.length ≤ 12 := fun z => by
          rw [decide_eq_true (by omega)] at h2
          exact absurd h2 (by decide)
        refine no ?_
        unfold isWordF
        rw [decide_eq_false h2, Bool.false_and, Bool.and_false]
      · have h2 : x.length ≤ 12 := Decidable.byContradiction fun z => h2 (by
          rw [decide_eq_false (by omega)]
          rfl)
        have wf := wf ⟨by omega, h2⟩
        refine ⟨.str x, rfl, x, rfl, fun D hD => ?_⟩
        refine lc_pure (i := 2) (us := TL.tl x) (g := sgn) (yields_str x) sgn (fun c => !decide (c ∈ TL.tl SSG)) hD (fun _ _ => trivial) (fun H c _ hc R r => ⟨sgn c, rfl, .str SSG, rfl, c, SSG, rfl, rfl, _, rfl, r H (Same.refl H)⟩)
          (fun H c _ hc _ R r => ⟨sgn c, rfl, r H (Same.refl H)⟩) (by rw [← TL.len_tl]; omega) (fun H2 s2 h3 => ?_)
        refine ⟨Nat.zero_le _, fun p hp => ?_⟩
        have h4 : (upd H2 p (.lst [])) D = some (.lst ((((TL.tl x).filter fun c => !decide (c ∈ TL.tl SSG)).map fun c => (⟨#[c]⟩ : Str)).map V.str)) := by rw [upd_ne (ne_of_none h3 hp), h3, map_sgn]
        have s3 := s2.trans (same_new (o := .lst []) hp)
        refine ⟨_, _, .lst (SqL.of h4) (dp_strs _), dp_nil upd_same, shaped_strs _ (ok_sgns pl.ok _), shaped_nil, _, rfl, ?_⟩
        rw [eqv_nil, only_filt]
        have q := q _ s3
        unfold isSegF at q
        rw [wf] at q
        cases ho : hasOnly x SSG with
        | false =>
          rw [ho] at q
          exact ifT rfl q
        | true =>
          rw [ho] at q
          refine ifF (fun z => by cases z) ?_
          refine ⟨.str x, rfl, rfl, _, rfl, ite2 (fun h5 => ?_) (fun h5 => ?_)⟩
          · have h5 : ¬ x = "." := fun z => by
              rw [z] at h5
              simp at h5
            refine ⟨.str x, rfl, _, x, rfl, rfl, ?_⟩
            rw [decide_eq_false h5] at q
            exact q
          · have h5 : x = "." := Decidable.byContradiction fun z => h5 (by rw [decide_eq_false (fun e => z (V.str.inj e))]; rfl)
            rw [decide_eq_true h5] at q
            exact q
    · have h1 : ¬ 1 ≤ x.length := fun z => h1 (decide_eq_true (by omega))
      refine ⟨_, rfl, iteT (no ?_)⟩
      unfold isWordF
      rw [decide_eq_false h1, Bool.false_and]
theorem dig10 : TL.tl ("0123456789" : Str) = [48, 49, 50, 51, 52, 53, 54, 55, 56, 57] := by decide +kernel
theorem only_dig (x : Str) : hasOnly x ("0123456789" : Str) = (TL.tl x).all fun c => decide (48 ≤ c ∧ c ≤ 57) := by
  unfold hasOnly
  rw [dig10]
  congr 1
  funext c
  refine decide_eq_decide.mpr ?_
  simp only [List.mem_cons, List.not_mem_nil, or_false]
  omega
theorem head_item {x : Str} (h : TL.tl x ≠ []) : ∃ u, (TL.tl x).head? = some u ∧ (TL.tl x)[0]? = some u := by
  cases e : TL.tl x with
  | nil => exact absurd e h
  | cons a r => exact ⟨a, rfl, rfl⟩
theorem c_l_is_time (T : Top K mg) : C8.Cal P w K mg base 1 "_law_is_time" (spIs isDecF) [] := by
  refine cal_of T.d_l_is_time sc_l_is_time (fun _ _ _ _ _ _ us hl => match us, hl with | [_], _ => rfl) (fun vs H Q E h => ?_) (fun f cdv A outer s H vs Q E hr h => ?_)
  · obtain ⟨x, rfl, _⟩ := h
    rfl
  · obtain ⟨x, rfl, hx, pl, q⟩ := h
    refine ⟨_, (pss_cons (ps_if (PW.pt (pw_or (pt_cmpR op_eq (pv 0) pe_str (nomark _)) (pw_or (pt_cmpR op_gt (pe_callB call_len_str (by rfl) T.z_len (by decide +kernel) (pa_cons (pv 0) pa_nil)) pe_int (nomark _)) (pw_or1 (pt_cmpR (op_neD hr.units) (pe_lc (own := [("_law_sign", 1)]) (g := gName 1) (by rfl) sc_l_is_time.nd (pi_str (pv 0)) (blkOk_by (own := [("_law_sign", 1)]) (N := ["_law_text_here", "_law_sign"]) (sc := C8.fnScope s_l_is_time) (by decide +kernel)) (fun _ _ _ _ _ => (pg_name (i := 1) sc_l_is_time.nd rfl (Or.inl rfl))) (fun _ _ _ _ _ => pts_one (pt_cmpR op_notIn_sign (pv 1) pe_str rfl)) (fun _ _ _ _ _ => (pv 1))) (pe_lst pa_nil) (nomark _))))))
      (pss_one (ps_ret pe_bl))
      pss_nil)
      (pss_one (ps_ret (pe_and (pe_or (pe_cmpR op_eq (pv 0) pe_str (nomark _)) (pe_one (pe_cmpR op_ne (pe_ix ix_str (pv 0) pe_int (fun _ _ => rfl)) pe_str (nomark _)))) (pe_one (pe_cmpR op_le (pe_callTy call_int_str (by rfl) T.z_int (by decide +kernel) (pa_cons (pv 0) pa_nil)) (pe_op op_pow pe_int pe_int) (nomark _))))))), ?_⟩
    have no : (decide (TL.tl x ≠ []) && (decide (x.length ≤ 13) && (TL.tl x).all fun c => decide (48 ≤ c ∧ c ≤ 57))) = false → Q (.bl false) H := fun e => by
      have q := q _ (Same.refl _)
      unfold isDecF at q
      rw [e, Bool.false_and] at q
      exact q
    refine ⟨.str x, rfl, rfl, _, rfl, ifS (fun h1 => ?_) (fun h1 => ?_)⟩
    · refine no ?_
      rw [decide_eq_false (fun z => z (tl_len0.mpr h1)), Bool.false_and]
    have ne : TL.tl x ≠ [] := fun z => h1 (tl_len0.mp z)
    refine ⟨.str x, rfl, x, rfl, small_line (by omega), _, _, rfl, rfl, _, rfl, ite2 (fun h2 => ?_) (fun h2 => ?_)⟩
    · have h2 := of_decide_eq_true h2
      refine no ?_
      rw [decide_eq_false (show ¬ x.length ≤ 13 by omega), Bool.false_and, Bool.and_false]
    have h2 : x.length ≤ 13 := by
      have : ¬ (13 : Int) < ((x.length : Nat) : Int) := fun z => h2 (decide_eq_true z)
      omega
    refine ⟨.str x, rfl, x, rfl, fun D hD => ?_⟩
    refine lc_pure (i := 1) (us := TL.tl x) (g := sgn) (yields_str x) sgn (fun c => !decide (c ∈ TL.tl ("0123456789" : Str))) hD (fun _ _ => trivial) (fun H c _ hc R r => ⟨sgn c, rfl, c, _, rfl, rfl, _, rfl, r H (Same.refl H)⟩)
      (fun H c _ hc _ R r => ⟨sgn c, rfl, r H (Same.refl H)⟩) (by rw [← TL.len_tl]; omega) (fun H2 s2 h3 => ?_)
    refine ⟨Nat.zero_le _, fun p hp => ?_⟩
    have h4 : (upd H2 p (.lst [])) D = some (.lst ((((TL.tl x).filter fun c => !decide (c ∈ TL.tl ("0123456789" : Str))).map fun c => (⟨#[c]⟩ : Str)).map V.str)) := by rw [upd_ne (ne_of_none h3 hp), h3, map_sgn]
    have s3 := s2.trans (same_new (o := .lst []) hp)
    refine ⟨_, _, .lst (SqL.of h4) (dp_strs _), dp_nil upd_same, shaped_strs _ (ok_sgns pl.ok _), shaped_nil, _, rfl, ?_⟩
    rw [eqv_nil, only_filt, only_dig]
    have q := q _ s3
    unfold isDecF at q
    rw [decide_eq_true ne, decide_eq_true h2] at q
    cases ho : (TL.tl x).all fun c => decide (48 ≤ c ∧ c ≤ 57) with
    | false =>
      rw [ho] at q
      exact ifT rfl q
    | true =>
      rw [ho, Bool.true_and, Bool.true_and, Bool.true_and] at q
      refine ifF (fun z => by cases z) ?_
      have da := dig_all.mp ho
      have it : intText? x = some ((NumText.digitsVal (TL.tl x) : Nat) : Int) := intText_digits da ne (by omega)
      obtain ⟨u, hu, hu0⟩ := head_item ne
      rw [hu] at q
      have fin : ∀ b : Bool, (decide (x = "0") || decide (some u ≠ some 48)) = true → tOp (rI0 fun i j => V.bl (decide (i ≤ j)))
            (tCB (fun xs H Q => ∃ a n, xs = [V.str a] ∧ intText? a = some n ∧ a.length ≤ 640 ∧ Q (V.int n) H) (tCons (tVar 0) tNil))
            (tOp (rI CPow fun i j => V.int (i ^ j.toNat)) (tC (V.int 10)) (tC (V.int 12)))
            (L2.start ["_law_text_here", "_law_sign"] [V.str x]) (upd H2 p (HO.lst [])) Q := fun _ e => by
        rw [e, Bool.true_and] at q
        refine ⟨.str x, rfl, _, _, rfl, it, by omega, 10, 12, rfl, rfl, ⟨by decide, by decide, by decide⟩, _, _, rfl, rfl, ?_⟩
        refine (show Q (.bl (decide (((NumText.digitsVal (TL.tl x) : Nat) : Int) ≤ 10 ^ (12 : Int).toNat))) _ from ?_)
        rw [show decide (((NumText.digitsVal (TL.tl x) : Nat) : Int) ≤ 10 ^ (12 : Int).toNat) = decide (NumText.digitsVal (TL.tl x) ≤ 1000000000000) from decide_eq_decide.mpr (by rw [show (10 : Int) ^ (12 : Int).toNat = 1000000000000 by decide]; omega)]
        exact q
      refine ⟨.str x, rfl, rfl, _, rfl, ifS (fun h5 => ?_) (fun h5 => ?_)⟩
      · exact ⟨_, rfl, iteT (fin true (by rw [decide_eq_true h5]; rfl))⟩
      · have e48 : (⟨#[u]⟩ : Str) = "0" ↔ u = 48 := by
          rw [show ("0" : Str) = ⟨#[48]⟩ by decide +kernel]
          constructor
          · intro z
            have := congrArg (fun y : Str => TL.tl y) z
            simpa using this
          · rintro rfl
            rfl
        refine ⟨.str x, rfl, x, 0, u, rfl, rfl, small_line (by omega), atI_nat (j := 0) hu0, ?_⟩
        refine ⟨rfl, _, rfl, ?_⟩
        by_cases h6 : u = 48
        · rw [decide_eq_true (congrArg V.str (e48.mpr h6))]
          refine iteF ?_
          rw [decide_eq_false h5, h6, decide_eq_false (fun z => z rfl)] at q
          exact q
        · rw [decide_eq_false (fun z => h6 (e48.mp (V.str.inj z)))]
          exact iteT (fin true (by rw [decide_eq_true (show some u ≠ some 48 from fun z => h6 (Option.some.inj z)), Bool.or_true]))
end

end Fk

set_option maxHeartbeats 4000000
namespace Fk
open PySem PySem.Spec PyProof.Rows L2
/-! ### a call of what an expression gives -/
def tCallE (tf : TE) (S : Addr → Option Sp) (t : TA) : TE := fun σ H Q => tf σ H fun x H1 => ∃ f sp, x = .ref f ∧ S f = some sp ∧ t σ H1 fun vs H2 => sp vs H2 Q (fun _ _ _ => False)
theorem pe_callE {X : Cx} {k j : Nat} {S : Addr → Option Sp} {a b e : Expr} {es : List Expr} {p pos : Pos} {tf : TE} {t : TA} (A : ∀ f sp, S f = some sp → Held X.prog X.w X.K X.mg X.base k f sp) (hr : Room j X.A) (hk : k ≤ j) (hf : PE X (.Subscript a b p) tf) (ha : PA X (e :: es) t)
    (he : starEach (e :: es) X.env = (false, eval e X.env) :: starEach es X.env := by rfl) (hpl : (backTo pos (starEach es X.env)).any (·.1) = false := by rfl) : PE X (.Call (.Subscript a b p) (e :: es) [] pos) (tCallE tf S t) := by
  refine ⟨fun pins s σ H Q I h => ?_⟩
  have ev : eval (.Call (.Subscript a b p) (e :: es) [] pos) X.env = (do
    callWith pos (← eval (.Subscript a b p) X.env) [] (backTo pos (starEach (e :: es) X.env)) (backToKw pos (keywordEach [] X.env))) := rfl
  rw [ev]
  refine wpAny_bind (thn (hf.run pins s σ H _ I h) fun u s1 ⟨v, H1, I1, r1, f, sp, e1, hS, ht⟩ => ?_)
  subst e1
  cases r1
  obtain ⟨fd, ps, F, hkp, hb⟩ := (A f sp hS).ex
  refine PySem.W.callWith_K (h₀ := X.base) I.ok.mod.kin hkp (thn (ha.run pos pins s1 σ _ _ I1 ht) fun us s2 ⟨vs, H2, I2, r, q⟩ => ⟨I2.kIn, ?_⟩) he hpl
  refine run_fn (E := fun _ _ _ => False) F (hr.mono hk) hb .nil (fun _ _ _ _ _ _ _ z => z.elim) I2 r ?_
  rw [List.append_nil]
  exact q
section
variable {P : Program} {w : World} {K : PySem.W.Frag} {mg : Str → Option Value} {base : Heap}
def allowL (mg : Str → Option Value) (f : Addr) : Option Sp := if mg "_law_is_time" = some (.ref f) then some (spIs isDecF) else if mg "_law_is_segment" = some (.ref f) then some (spIs isSegF) else none
theorem allowL_held (T : Top K mg) : ∀ f sp, allowL mg f = some sp → Held P w K mg base 1 f sp := fun f sp h => by
  unfold allowL at h
  split at h
  · next e =>
    cases h
    exact held_of (c_l_is_time T) e
  · split at h
    · next e =>
      cases h
      exact held_of (c_l_is_segment T) e
    · cases h
def STEPS : List Str := ["tree", "target", "parent", "author", "time", "label", "empty"]
def spNext : Sp := fun vs H Q _ => ∃ (st row : Str) (p : Addr) (ps : List Str), vs = [.str st, .str row, .ref p] ∧ H p = some (.lst (ps.map V.str)) ∧ row.length ≤ 4000 ∧ PlL (TL.tl row) ∧ ps.length ≤ 100 ∧ (st = "label" ∨ st = "time" ∨ st = "empty" ∨ st = "tree" ∨ st = "target" ∨ st = "parent" ∨ st = "author") ∧ ∀ H', Same H H' → Q (.bl (nextF st row ps)) H'
theorem part_sub {x : Str} (h : PlL (TL.tl x)) (hl : x.length ≤ 4000) : PlL (TL.tl (Txt.partition x " ").2.2) ∧ (Txt.partition x " ").2.2.length ≤ 4000 := by
  rcases first_sp (TL.tl x) with n | ⟨a, b, e, n⟩
  · rw [TL.partition_none sp_one n]
    exact ⟨fun u hu => (List.not_mem_nil hu).elim, Nat.zero_le _⟩
  · have ex : x = (⟨a.toArray⟩ : Str) ++ (" " : Str) ++ ⟨b.toArray⟩ := str_ext (by
      show TL.tl x = TL.tl _
      rw [TL.tl_append, TL.tl_append, sp_one, e, List.append_assoc]
      rfl)
    have p : Txt.partition x " " = (⟨a.toArray⟩, (" " : Str), ⟨b.toArray⟩) := by
      rw [ex]
      exact TL.partition_app sp_one n
    rw [p]
    refine ⟨h.sub fun u hu => by rw [e]; exact List.mem_append_right _ (List.mem_cons_of_mem _ hu), ?_⟩
    have := congrArg List.length e
    rw [List.length_append, List.length_cons, ← TL.len_tl] at this
    show b.length ≤ 4000
    omega
theorem c_l_is_next (T : Top K mg) : C8.Cal P w K mg base 3 "_law_is_next" spNext [] := by
  refine cal_of T.d_l_is_next sc_l_is_next (fun _ _ _ _ _ _ us hl => match us, hl with | [_, _, _], _ => rfl) (fun vs H Q E h => ?_) (fun f cdv A outer s H vs Q E hr h => ?_)
  · obtain ⟨st, row, p, ps, rfl, _⟩ := h
    rfl
  · obtain ⟨st, row, p, ps, rfl, hp, hl, pl, lp, hst, q⟩ := h
    obtain ⟨g1, hg1⟩ := gf T.d_l_is_time
    obtain ⟨g2, hg2⟩ := gf T.d_l_is_segment
    have g_time : ∃ u, mg "_law_is_time" = some u ∧ RelV (.ref g1) u := ⟨_, hg1, rfl⟩
    have g_seg : ∃ u, mg "_law_is_segment" = some u ∧ RelV (.ref g2) u := ⟨_, hg2, rfl⟩
    have AL := allowL_held (P := P) (w := w) (base := base) T
    obtain ⟨pr, lr⟩ := part_sub pl hl
    have nx : nextF st row ps = if st = "empty" then decide (row = "") else
      match restF st row with
      | none => false
      | some x => if st = "tree" ∨ st = "target" then isIdF x else if st = "parent" then isIdF x && (!decide (x ∈ ps) && decide (ps.length < 6)) else if st = "author" then isWordF LET x else if st = "label" then isSegF x else isDecF x := rfl
    unfold restF at nx
    refine ⟨_, (pss_cons (ps_asg (pe_bm PySem.F.plainAttrs_str PySem.F.slot_str_partition PySem.F.type_str_partition mt_partition (pv 1) (pa_cons pe_str pa_nil)) (pg_tup rfl (pgs_cons (pg_name (i := 3) sc_l_is_next.nd rfl (Or.inl rfl)) (pgs_cons (pg_name (i := 4) sc_l_is_next.nd rfl (Or.inl rfl)) (pgs_cons (pg_name (i := 5) sc_l_is_next.nd rfl (Or.inl rfl)) pgs_nil)))))
      (pss_cons (ps_if (pt_cmpR op_eq (pv 0) pe_str (nomark _))
      (pss_one (ps_ret (pe_cmpR op_eq (pv 1) pe_str (nomark _))))
      pss_nil)
      (pss_cons (ps_if (PW.pt (pw_or (pt_cmpR op_eq (pv 4) pe_str (nomark _)) (pw_or1 (pt_cmpR op_ne (pv 3) (pv 0) (nomark _)))))
      (pss_one (ps_ret pe_bl))
      pss_nil)
      (pss_cons (ps_if (pt_cmpR op_in_seq (pv 0) (pe_tup (pa_cons pe_str (pa_cons pe_str pa_nil))) rfl)
      (pss_one (ps_ret (C8.pe_c (c_l_is_id T) hr (by decide) (by rfl) (pa_cons (pv 5) pa_nil))))
      pss_nil)
      (pss_cons (ps_if (pt_cmpR op_eq (pv 0) pe_str (nomark _))
      (pss_one (ps_ret (pe_and (C8.pe_c (c_l_is_id T) hr (by decide) (by rfl) (pa_cons (pv 5) pa_nil)) (pe_and (pe_cmpR op_notIn_seq (pv 5) (pv 2) rfl) (pe_one (pe_cmpR op_lt (pe_callB call_len_seq (by rfl) T.z_len (by decide +kernel) (pa_cons (pv 2) pa_nil)) pe_int (nomark _)))))))
      pss_nil)
      (pss_cons (ps_if (pt_cmpR op_eq (pv 0) pe_str (nomark _))
      (pss_one (ps_ret (C8.pe_c (c_l_is_author T) hr (by decide) (by rfl) (pa_cons (pv 5) pa_nil))))
      pss_nil)
      (pss_one (ps_ret (pe_callE AL hr (by decide) (pe_ix ix_list (pe_lst (pa_cons (C8.pe_gc (by rfl) g_time) (pa_cons (C8.pe_gc (by rfl) g_seg) pa_nil))) (pe_callTy call_int1 (by rfl) T.z_int (by decide +kernel) (pa_cons (pe_cmpR op_eq (pv 0) pe_str (nomark _)) pa_nil)) (fun _ _ => rfl)) (pa_cons (pv 5) pa_nil)))))))))), ?_⟩
    refine ⟨.str row, rfl, rfl, row, _, rfl, rfl, by decide +kernel, small_line (by omega), fun b hb => ?_⟩
    rw [show Txt.partition row (Str.ofString " ") = Txt.partition row " " from rfl]
    generalize Txt.partition row " " = w3 at pr lr nx ⊢
    obtain ⟨wd, bl, rs⟩ := w3
    dsimp only at pr lr nx ⊢
    have s1 := same_new (o := .tup [.str wd, .str bl, .str rs]) hb
    have h1 : (upd H b (.tup [.str wd, .str bl, .str rs])) b = some (.tup [.str wd, .str bl, .str rs]) := upd_same
    generalize upd H b (.tup [.str wd, .str bl, .str rs]) = H1 at s1 h1 ⊢
    refine ⟨b, _, rfl, SqT.of h1, rfl, .str wd, _, rfl, .str bl, _, rfl, .str rs, _, rfl, rfl, ?_⟩
    refine ⟨.str st, rfl, rfl, _, rfl, ifS (fun e1 => ?_) (fun e1 => ?_)⟩
    · rw [if_pos e1] at nx
      have q := q H1 s1
      rw [nx] at q
      refine ⟨.str row, rfl, rfl, ?_⟩
      refine (show Q (.bl (decide (V.str row = V.str ""))) H1 from ?_)
      rw [show decide (V.str row = V.str "") = decide (row = "") from decide_eq_decide.mpr ⟨fun z => V.str.inj z, fun z => congrArg V.str z⟩]
      exact q
    rw [if_neg e1] at nx
    have no : bl = "" ∨ wd ≠ st → Q (.bl false) H1 := fun z => by
      rw [if_pos z] at nx
      have q := q H1 s1
      rw [nx] at q
      exact q
    refine ⟨.str bl, rfl, rfl, _, rfl, ifS (fun e2 => no (.inl e2)) (fun e2 => ?_)⟩
    refine ⟨.str wd, rfl, .str st, rfl, rfl, _, rfl, ?_⟩
    by_cases e3 : wd = st
    case neg =>
      rw [decide_eq_false (fun z => e3 (V.str.inj z))]
      exact ifT rfl (no (.inr e3))
    rw [decide_eq_true (congrArg V.str e3)]
    refine ifF (fun z => by cases z) ?_
    rw [if_neg (fun z => z.elim e2 (fun z => z e3))] at nx
    dsimp only at nx
    refine ⟨.str st, rfl, (by show 2 ≤ sizeLine; decide), fun b2 hb2 => ?_⟩
    have s2 := same_new (o := .tup [.str "tree", .str "target"]) hb2
    have h2 : (upd H1 b2 (.tup [.str "tree", .str "target"])) b2 = some (.tup ((["tree", "target"] : List Str).map V.str)) := upd_same
    generalize upd H1 b2 (.tup [.str "tree", .str "target"]) = H2 at s2 h2 ⊢
    have s12 := s1.trans s2
    refine ⟨b2, _, rfl, .inr (SqT.of h2), rfl, flat_strs _, _, rfl, ?_⟩
    rw [inV_mem]
    by_cases e4 : st = "tree" ∨ st = "target"
    · rw [if_pos e4] at nx
      rw [decide_eq_true (show st ∈ (["tree", "target"] : List Str) by simpa using e4)]
      exact ifT rfl ⟨.str rs, rfl, rs, rfl, lr, pr, fun H3 s3 => by rw [← nx]; exact q H3 (s12.trans s3)⟩
    rw [if_neg e4] at nx
    rw [decide_eq_false (show ¬ st ∈ (["tree", "target"] : List Str) by simpa using e4)]
    refine ifF (fun z => by cases z) ?_
    refine ⟨.str st, rfl, rfl, _, rfl, ifS (fun e5 => ?_) (fun e5 => ?_)⟩
    · rw [if_pos e5] at nx
      refine ⟨.str rs, rfl, rs, rfl, lr, pr, fun H3 s3 => ⟨_, rfl, ?_⟩⟩
      have q := q H3 (s12.trans s3)
      have hp3 := s3 _ _ (s12 _ _ hp)
      cases h3 : isIdF rs with
      | false =>
        rw [h3] at nx
        rw [nx] at q
        exact iteF q
      | true =>
        rw [h3, Bool.true_and] at nx
        refine iteT ⟨.str rs, rfl, .ref p, rfl, p, _, rfl, .inl (SqL.of hp3), rfl, flat_strs ps, _, rfl, ?_⟩
        rw [inV_mem]
        by_cases e6 : rs ∈ ps
        · rw [decide_eq_true e6] at nx ⊢
          rw [nx] at q
          exact ifF (fun z => by cases z) q
        · rw [decide_eq_false e6] at nx ⊢
          refine ifT rfl ⟨.ref p, rfl, p, _, rfl, .inl (SqL.of hp3), _, _, rfl, rfl, ?_⟩
          rw [nx] at q
          refine (show Q (.bl (decide ((((ps.map V.str).length : Nat) : Int) < 6))) H3 from ?_)
          rw [List.length_map, show decide (((ps.length : Nat) : Int) < 6) = decide (ps.length < 6) from decide_eq_decide.mpr (by omega)]
          exact q
    rw [if_neg e5] at nx
    refine ⟨.str st, rfl, rfl, _, rfl, ifS (fun e6 => ?_) (fun e6 => ?_)⟩
    · rw [if_pos e6] at nx
      exact ⟨.str rs, rfl, rs, rfl, lr, pr, fun H3 s3 => by rw [← nx]; exact q H3 (s12.trans s3)⟩
    rw [if_neg e6] at nx
    refine ⟨(by show 2 ≤ sizeLine; decide), fun p3 hp3 => ⟨.str st, rfl, rfl, .inr ⟨_, rfl, ?_⟩⟩⟩
    have s3 := same_new (o := .lst [V.ref g1, V.ref g2]) hp3
    by_cases e7 : st = "label"
    · rw [if_pos e7] at nx
      have a2 : allowL mg g2 = some (spIs isSegF) := by
        unfold allowL
        rw [if_neg (def_ne2 T.d_l_is_segment T.d_l_is_time (by decide +kernel) hg2), if_pos hg2]
      refine ⟨p3, [V.ref g1, V.ref g2], 1, .ref g2, rfl, ?_, SqL.of upd_same, rfl, g2, _, rfl, a2, .str rs, rfl, rs, rfl, lr, pr, fun H4 s4 => by rw [← nx]; exact q H4 (s12.trans (s3.trans s4))⟩
      rw [decide_eq_true (congrArg V.str e7)]
      rfl
    · rw [if_neg e7] at nx
      have a1 : allowL mg g1 = some (spIs isDecF) := by
        unfold allowL
        rw [if_pos hg1]
      refine ⟨p3, [V.ref g1, V.ref g2], 0, .ref g1, rfl, ?_, SqL.of upd_same, rfl, g1, _, rfl, a1, .str rs, rfl, rs, rfl, lr, pr, fun H4 s4 => by rw [← nx]; exact q H4 (s12.trans (s3.trans s4))⟩
      rw [decide_eq_false (fun z => e7 (V.str.inj z))]
      rfl
end

end Fk

set_option maxHeartbeats 4000000
namespace Fk
open PySem PySem.Spec PyProof.Rows L2
theorem steps_ok {steps : List Str} (h : steps = STC ∨ steps = STG) : ∀ s ∈ steps, s = "label" ∨ s = "time" ∨ s = "empty" ∨ s = "tree" ∨ s = "target" ∨ s = "parent" ∨ s = "author" := by
  intro s hs
  rcases h with rfl | rfl
  · unfold STC at hs
    simp only [List.mem_cons, List.not_mem_nil, or_false] at hs
    rcases hs with h | h | h | h <;> simp [h]
  · unfold STG at hs
    simp only [List.mem_cons, List.not_mem_nil, or_false] at hs
    rcases hs with h | h | h <;> simp [h]
theorem steps_len {steps : List Str} (h : steps = STC ∨ steps = STG) : steps.length ≤ 4 ∧ 0 < steps.length := by
  rcases h with rfl | rfl <;> decide
theorem fault_cons (r s : Str) (rs ss ps : List Str) (n : Nat) : faultF (r :: rs) (s :: ss) ps n = if s = "author" ∧ Txt.startswith r "parent " = true then
      if nextF "parent" r ps = true then faultF rs (s :: ss) (ps ++ [dropS r 7]) (n + 1) else (n, false)
    else if nextF s r ps = true then (if ss = [] then (n + 1, true) else faultF rs ss ps (n + 1)) else (n, false) := by
  conv => lhs; unfold faultF
theorem next_par_lt {r : Str} {ps : List Str} (h : nextF "parent" r ps = true) : ps.length < 6 := by
  rw [next_par] at h
  split at h
  · cases h
  · simp only [Bool.and_eq_true, decide_eq_true_eq] at h
    exact h.2.2
section
variable {P : Program} {w : World} {K : PySem.W.Frag} {mg : Str → Option Value} {base : Heap}
def spFault (K : PySem.W.Frag) : Sp := fun vs H Q _ => ∃ (p q : Addr) (rows steps : List Str), vs = [.ref p, .ref q] ∧ SqL K H p (rows.map V.str) ∧ H q = some (.lst (steps.map V.str)) ∧ (steps = STC ∨ steps = STG) ∧ (∀ r ∈ rows, r.length ≤ 4000 ∧ PlL (TL.tl r)) ∧ rows.length ≤ 4001 ∧
  ∀ a H', Same H H' → H' a = some (.tup [.int (((faultF rows steps [] 0).1 : Nat) : Int), .bl (faultF rows steps [] 0).2]) → Q (.ref a) H'
theorem c_l_fault_of_rows (T : Top K mg) : C8.Cal P w K mg base 4 "_law_fault_of_rows" (spFault K) [] := by
  refine cal_of T.d_l_fault_of_rows sc_l_fault_of_rows (fun _ _ _ _ _ _ us hl => match us, hl with | [_, _], _ => rfl) (fun vs H Q E h => ?_) (fun f cdv A outer s H vs Q E hr h => ?_)
  · obtain ⟨p, q, rows, steps, rfl, _⟩ := h
    rfl
  · obtain ⟨p, q, rows, steps, rfl, hp, hq, hst, hrw, hlr, qq⟩ := h
    have sok := steps_ok hst
    obtain ⟨sl4, sl0⟩ := steps_len hst
    refine ⟨_, (pss_cons (ps_set (i := 2) sc_l_fault_of_rows.nd rfl (Or.inl rfl) (pe_lst pa_nil))
      (pss_cons (ps_set (i := 3) sc_l_fault_of_rows.nd rfl (Or.inl rfl) pe_int)
      (pss_cons (ps_for PassesOwn.never rfl (pi_list (pv 0)) (pg_name (i := 4) sc_l_fault_of_rows.nd rfl (Or.inl rfl))
      (pss_one (ps_if (PW.pt (pw_and (pt_cmpR op_eq (pe_ix ix_list (pv 1) (pv 3) (fun _ _ => rfl)) pe_str (nomark _)) (pw_and1 (pt_val (pe_bm PySem.F.plainAttrs_str PySem.F.slot_str_startswith PySem.F.type_str_startswith mt_startswith (pv 4) (pa_cons pe_str pa_nil))))))
      (pss_cons (ps_if (pt_not (pt_val (C8.pe_c (c_l_is_next T) hr (by decide) (by rfl) (pa_cons pe_str (pa_cons (pv 4) (pa_cons (pv 2) pa_nil))))))
      (pss_one (ps_ret (pe_tup (pa_cons (pe_op op_add (pe_callB call_len_seq (by rfl) T.z_len (by decide +kernel) (pa_cons (pv 2) pa_nil)) (pv 3)) (pa_cons pe_bl pa_nil)))))
      pss_nil)
      (pss_one (ps_expr (pe_bm PySem.F.plainAttrs_list PySem.F.slot_list_append PySem.F.type_list_append mt_append (pv 2) (pa_cons (pe_slice sl_str (pv 4) (po_some pe_int) po_none) pa_nil)))))
      (pss_one (ps_if (pt_val (C8.pe_c (c_l_is_next T) hr (by decide) (by rfl) (pa_cons (pe_ix ix_list (pv 1) (pv 3) (fun _ _ => rfl)) (pa_cons (pv 4) (pa_cons (pv 2) pa_nil)))))
      (pss_cons (ps_set (i := 3) sc_l_fault_of_rows.nd rfl (Or.inl rfl) (pe_op op_add (pv 3) pe_int))
      (pss_one (ps_if (pt_cmpR op_eq (pv 3) (pe_callB call_len_seq (by rfl) T.z_len (by decide +kernel) (pa_cons (pv 1) pa_nil)) (nomark _))
      (pss_one (ps_ret (pe_tup (pa_cons (pe_op op_add (pe_callB call_len_seq (by rfl) T.z_len (by decide +kernel) (pa_cons (pv 2) pa_nil)) (pv 3)) (pa_cons pe_bl pa_nil)))))
      pss_nil)))
      (pss_one (ps_ret (pe_tup (pa_cons (pe_op op_add (pe_callB call_len_seq (by rfl) T.z_len (by decide +kernel) (pa_cons (pv 2) pa_nil)) (pv 3)) (pa_cons pe_bl pa_nil))))))))))
      (pss_one (ps_ret (pe_tup (pa_cons (pe_op op_add (pe_callB call_len_seq (by rfl) T.z_len (by decide +kernel) (pa_cons (pv 2) pa_nil)) (pv 3)) (pa_cons pe_bl pa_nil)))))))), ?_⟩
    refine ⟨(by show 0 ≤ sizeLine; decide), fun D hD => ?_⟩
    have s0 := same_new (o := .lst []) hD
    refine ⟨.ref p, rfl, p, rfl, ⟨_, s0.seq hp⟩, ?_⟩
    have fin : ∀ (H' : Hp) (n : Nat) (b : Bool), Same H H' → faultF rows steps [] 0 = (n, b) → ∀ a, H' a = none → Q (.ref a) (upd H' a (.tup [.int ((n : Nat) : Int), .bl b])) := fun H' n b s e a ha => qq a _ (s.trans (same_new ha)) (by rw [e]; exact upd_same)
    refine forG (items := rows.map V.str) yields_list (fun i σ H' => ∃ ps k z4, σ = [some (.ref p), some (.ref q), some (.ref D), some (.int ((k : Nat) : Int)), z4] ∧ Same H H' ∧ H' D = some (.lst (ps.map V.str)) ∧ k < steps.length ∧ ps.length ≤ 6 ∧ faultF rows steps [] 0 = faultF (rows.drop i) (steps.drop k) ps (ps.length + k))
      ⟨[], 0, none, rfl, s0, upd_same, sl0, by decide, rfl⟩ (fun i σ H' I => ?_) (fun i x σ H' hx I => ?_) (fun σ H' I => ?_)
    · obtain ⟨ps, k, z4, rfl, s1, _⟩ := I
      exact s1.seq hp
    · obtain ⟨ps, k, z4, rfl, s1, hD1, hk, hps, fe⟩ := I
      obtain ⟨hi, ex⟩ := List.getElem?_eq_some_iff.mp hx
      rw [List.length_map] at hi
      rw [List.getElem_map] at ex
      subst ex
      obtain ⟨rl, rp⟩ := hrw rows[i] (List.getElem_mem hi)
      have hq1 := s1 _ _ hq
      have kat : (steps.map V.str)[k]? = some (.str steps[k]) := by rw [List.getElem?_map, List.getElem?_eq_getElem hk]; rfl
      have sk := sok steps[k] (List.getElem_mem hk)
      rw [List.drop_eq_getElem_cons hi, List.drop_eq_getElem_cons hk, fault_cons] at fe
      refine ⟨.ref q, rfl, .int k, rfl, q, _, _, _, rfl, rfl, SqL.of hq1, atI_nat kat, rfl, _, rfl, ?_⟩
      by_cases c1 : steps[k] = "author"
      · rw [decide_eq_true (congrArg V.str c1)]
        refine ifT rfl ⟨.str rows[i], rfl, rfl, _, _, rfl, rfl, _, rfl, ?_⟩
        by_cases c2 : Txt.startswith rows[i] "parent " = true
        · refine ifT c2 ?_
          rw [if_pos ⟨c1, c2⟩] at fe
          refine ⟨.str rows[i], rfl, .ref D, rfl, "parent", rows[i], D, ps, rfl, hD1, rl, rp, by omega, by simp, fun H2 s2 => ⟨_, rfl, ?_⟩⟩
          have hD2 := s2 _ _ hD1
          have s12 := s1.trans s2
          cases e : nextF "parent" rows[i] ps with
          | false =>
            rw [e, if_neg Bool.false_ne_true] at fe
            exact ifT rfl ⟨.ref D, rfl, D, _, rfl, .inl (SqL.of hD2), .int k, rfl, _, _, rfl, rfl, (by show 2 ≤ sizeLine; decide), fun a ha => by rw [List.length_map]; exact fin H2 (ps.length + k) false s12 fe a ha⟩
          | true =>
            rw [e, if_pos rfl] at fe
            have lt := next_par_lt e
            refine ifF (fun z => by cases z) ?_
            refine ⟨.ref D, rfl, .inl ⟨rfl, _, SqL.of hD2⟩, .str rows[i], rfl, 7, rfl, rows[i], rfl, small_line (by omega), D, _, _, rfl, rfl, hD2, small_lt (by rw [List.length_map]; omega), ?_⟩
            refine ⟨ps ++ [dropS rows[i] 7], k, some (.str rows[i]), rfl, same_mut s12 hD, by rw [List.map_append]; exact upd_same, hk, by rw [List.length_append]; show ps.length + 1 ≤ 6; omega, ?_⟩
            rw [fe, ← List.drop_eq_getElem_cons hk, List.length_append]
            congr 1
            show ps.length + k + 1 = ps.length + 1 + k
            omega
        · have c : ¬ (steps[k] = "author" ∧ Txt.startswith rows[i] "parent " = true) := fun z => c2 z.2
          refine ifF c2 ?_
          rw [if_neg c] at fe
          refine ⟨.ref q, rfl, .int k, rfl, q, _, _, _, rfl, rfl, SqL.of hq1, atI_nat kat, .str rows[i], rfl, .ref D, rfl, steps[k], rows[i], D, ps, rfl, hD1, rl, rp, by omega, sk, fun H2 s2 => ⟨_, rfl, ?_⟩⟩
          have hD2 := s2 _ _ hD1
          have s12 := s1.trans s2
          cases e : nextF steps[k] rows[i] ps with
          | false =>
            rw [e, if_neg Bool.false_ne_true] at fe
            exact iteF ⟨.ref D, rfl, D, _, rfl, .inl (SqL.of hD2), .int k, rfl, _, _, rfl, rfl, (by show 2 ≤ sizeLine; decide), fun a ha => by rw [List.length_map]; exact fin H2 (ps.length + k) false s12 fe a ha⟩
          | true =>
            rw [e, if_pos rfl] at fe
            refine iteT ⟨.int k, rfl, _, _, rfl, rfl, .int ((k : Int) + 1), rfl, .ref q, rfl, q, _, rfl, .inl (SqL.of (s2 _ _ hq1)), rfl, _, rfl, ?_⟩
            by_cases z : k + 1 = steps.length
            · rw [if_pos (by rw [z]; exact List.drop_length)] at fe
              refine ifT (decide_eq_true (by rw [List.length_map, ← z]; rfl)) ?_
              refine ⟨.ref D, rfl, D, _, rfl, .inl (SqL.of hD2), .int ((k : Int) + 1), rfl, _, _, rfl, rfl, (by show 2 ≤ sizeLine; decide), fun a ha => ?_⟩
              have := fin H2 (ps.length + k + 1) true s12 fe a ha
              rw [List.length_map]
              rwa [show ((ps.length + k + 1 : Nat) : Int) = ((ps.length : Nat) : Int) + ((k : Int) + 1) by omega] at this
            · have ne : steps.drop (k + 1) ≠ [] := fun y => by
                have := congrArg List.length y
                rw [List.length_drop] at this
                simp at this
                omega
              rw [if_neg ne] at fe
              refine ifF (fun y => z (by
                have y := V.int.inj (of_decide_eq_true y)
                rw [List.length_map] at y
                omega)) ?_
              exact ⟨ps, k + 1, some (.str rows[i]), rfl, s12, hD2, by omega, hps, fe⟩
      · have c : ¬ (steps[k] = "author" ∧ Txt.startswith rows[i] "parent " = true) := fun z => c1 z.1
        rw [decide_eq_false (fun z => c1 (V.str.inj z))]
        refine ifF Bool.false_ne_true ?_
        rw [if_neg c] at fe
        refine ⟨.ref q, rfl, .int k, rfl, q, _, _, _, rfl, rfl, SqL.of hq1, atI_nat kat, .str rows[i], rfl, .ref D, rfl, steps[k], rows[i], D, ps, rfl, hD1, rl, rp, by omega, sk, fun H2 s2 => ⟨_, rfl, ?_⟩⟩
        have hD2 := s2 _ _ hD1
        have s12 := s1.trans s2
        cases e : nextF steps[k] rows[i] ps with
        | false =>
          rw [e, if_neg Bool.false_ne_true] at fe
          exact iteF ⟨.ref D, rfl, D, _, rfl, .inl (SqL.of hD2), .int k, rfl, _, _, rfl, rfl, (by show 2 ≤ sizeLine; decide), fun a ha => by rw [List.length_map]; exact fin H2 (ps.length + k) false s12 fe a ha⟩
        | true =>
          rw [e, if_pos rfl] at fe
          refine iteT ⟨.int k, rfl, _, _, rfl, rfl, .int ((k : Int) + 1), rfl, .ref q, rfl, q, _, rfl, .inl (SqL.of (s2 _ _ hq1)), rfl, _, rfl, ?_⟩
          by_cases z : k + 1 = steps.length
          · rw [if_pos (by rw [z]; exact List.drop_length)] at fe
            refine ifT (decide_eq_true (by rw [List.length_map, ← z]; rfl)) ?_
            refine ⟨.ref D, rfl, D, _, rfl, .inl (SqL.of hD2), .int ((k : Int) + 1), rfl, _, _, rfl, rfl, (by show 2 ≤ sizeLine; decide), fun a ha => ?_⟩
            have := fin H2 (ps.length + k + 1) true s12 fe a ha
            rw [List.length_map]
            rwa [show ((ps.length + k + 1 : Nat) : Int) = ((ps.length : Nat) : Int) + ((k : Int) + 1) by omega] at this
          · have ne : steps.drop (k + 1) ≠ [] := fun y => by
              have := congrArg List.length y
              rw [List.length_drop] at this
              simp at this
              omega
            rw [if_neg ne] at fe
            refine ifF (fun y => z (by
              have y := V.int.inj (of_decide_eq_true y)
              rw [List.length_map] at y
              omega)) ?_
            exact ⟨ps, k + 1, some (.str rows[i]), rfl, s12, hD2, by omega, hps, fe⟩
    · obtain ⟨ps, k, z4, rfl, s1, hD1, hk, hps, fe⟩ := I
      rw [List.length_map, List.drop_length] at fe
      exact ⟨.ref D, rfl, D, _, rfl, .inl (SqL.of hD1), .int k, rfl, _, _, rfl, rfl, (by show 2 ≤ sizeLine; decide), fun a ha => by rw [List.length_map]; exact fin H' (ps.length + k) false s1 fe a ha⟩
end

end Fk

set_option maxHeartbeats 4000000
namespace Fk
open PySem PySem.Spec PyProof.Rows L2
theorem forEnum {K : PySem.W.Frag} {a : Addr} {xs : List V} {g : TG} {tb : TS} {D : Ends} {σ : L2.St} {H : Hp} (Pv : Nat → L2.St → Hp → Prop) (h0 : Pv 0 σ H) (hG : ∀ i σ H, Pv i σ H → SqL K H a xs)
    (hs : ∀ i x T σ H, xs[i]? = some x → Pv i σ H → H T = none → g (.ref T) σ (upd H T (.tup [.int (i : Nat), x])) fun σ2 H2 => tb { D with nx := Pv (i + 1), ct := Pv (i + 1), bk := D.nx } σ2 H2) (hd : ∀ σ H, Pv xs.length σ H → D.nx σ H) :
    ∃ W : Nat → Nat → L2.St → Hp → Prop, (∃ m, W 0 m σ H) ∧ ∀ i m σ H, W i m σ H →
      ((Ite K a).stop i H ∧ D.nx σ H) ∨ ((Ite K a).go i H ∧ ∃ N : L2.St → Hp → Prop, (∀ σ' H', N σ' H' → ∃ m', m' < m ∧ W (i + 1) m' σ' H') ∧ ∀ x H', (Ite K a).yld i H x H' → g x σ H' fun σ2 H2 => tb { D with nx := N, ct := N, bk := D.nx } σ2 H2) := by
  refine ⟨fun i m σ H => m = xs.length - i ∧ i ≤ xs.length ∧ Pv i σ H, ⟨xs.length, by omega, Nat.zero_le _, h0⟩, ?_⟩
  rintro i m σ H ⟨rfl, hi, p⟩
  by_cases hlt : i < xs.length
  · refine .inr ⟨⟨xs, xs[i], hG _ _ _ p, List.getElem?_eq_getElem hlt⟩, Pv (i + 1), fun σ' H' p' => ⟨xs.length - (i + 1), by omega, rfl, hlt, p'⟩, fun x H' y => ?_⟩
    obtain ⟨T, u, rfl, hT, rfl, gx⟩ := y
    exact hs i u T σ _ (gx xs (hG _ _ _ p)) p hT
  · have e : i = xs.length := by omega
    subst e
    exact .inl ⟨⟨xs, hG _ _ _ p, Nat.le_refl _⟩, hd σ H p⟩
def optV : Option Nat → V
  | none => .non
  | some k => .int ((k : Nat) : Int)
theorem tree_cons (r : Str) (rs : List Str) (k : Nat) (last : Str) : treeF (r :: rs) k last = match entW r with
    | none => some k
    | some e => if (decide (last.cps.toList < e.1.cps.toList) && decide (k ≠ 30)) = true then treeF rs (k + 1) e.1 else some k := rfl
section
variable {P : Program} {w : World} {K : PySem.W.Frag} {mg : Str → Option Value} {base : Heap}
def spTreeFault (K : PySem.W.Frag) : Sp := fun vs H Q _ => ∃ (p : Addr) (rows : List Str), vs = [.ref p] ∧ SqL K H p (rows.map V.str) ∧ (∀ r ∈ rows, r.length ≤ 4000 ∧ PlL (TL.tl r)) ∧ rows.length ≤ 4001 ∧ ∀ H', Same H H' → Q (optV (treeF rows 0 "")) H'
theorem c_l_tree_fault (T : Top K mg) : C8.Cal P w K mg base 4 "_law_tree_fault" (spTreeFault K) [] := by
  refine cal_of T.d_l_tree_fault sc_l_tree_fault (fun _ _ _ _ _ _ us hl => match us, hl with | [_], _ => rfl) (fun vs H Q E h => ?_) (fun f cdv A outer s H vs Q E hr h => ?_)
  · obtain ⟨p, rows, rfl, _⟩ := h
    rfl
  · obtain ⟨p, rows, rfl, hp, hrw, hlr, qq⟩ := h
    refine ⟨_, (pss_cons (ps_set (i := 1) sc_l_tree_fault.nd rfl (Or.inl rfl) pe_str)
      (pss_cons (ps_for PassesOwn.never rfl (pi_enum (by rfl) T.z_enumerate (pa_cons (pv 0) pa_nil)) (pg_tup rfl (pgs_cons (pg_name (i := 2) sc_l_tree_fault.nd rfl (Or.inl rfl)) (pgs_cons (pg_name (i := 3) sc_l_tree_fault.nd rfl (Or.inl rfl)) pgs_nil)))
      (pss_cons (ps_set (i := 4) sc_l_tree_fault.nd rfl (Or.inl rfl) (pe_split (pv 3) pe_str))
      (pss_cons (ps_if (PW.pt (pw_or (pt_cmpR op_ne (pe_callB call_len_seq (by rfl) T.z_len (by decide +kernel) (pa_cons (pv 4) pa_nil)) pe_int (nomark _)) (pw_or (pt_cmpR op_notIn_seq (pe_ix ix_list (pv 4) pe_int (fun _ _ => rfl)) (pe_tup (pa_cons pe_str (pa_cons pe_str (pa_cons pe_str pa_nil)))) rfl) (pw_or1 (pt_not (pt_val (C8.pe_c (c_l_is_segment T) hr (by decide) (by rfl) (pa_cons (pe_ix ix_list (pv 4) pe_int (fun _ _ => rfl)) pa_nil))))))))
      (pss_one (ps_ret (pv 2)))
      pss_nil)
      (pss_cons (ps_if (PW.pt (pw_or (pt_not (pt_val (C8.pe_c (c_l_is_id T) hr (by decide) (by rfl) (pa_cons (pe_ix ix_list (pv 4) pe_int (fun _ _ => rfl)) pa_nil)))) (pw_or (pt_cmpR op_le_str (pe_ix ix_list (pv 4) pe_int (fun _ _ => rfl)) (pv 1) (nomark _)) (pw_or1 (pt_cmpR op_eq (pv 2) pe_int (nomark _))))))
      (pss_one (ps_ret (pv 2)))
      pss_nil)
      (pss_one (ps_set (i := 1) sc_l_tree_fault.nd rfl (Or.inl rfl) (pe_ix ix_list (pv 4) pe_int (fun _ _ => rfl))))))))
      (pss_one (ps_ret pe_non)))), ?_⟩
    refine ⟨.ref p, rfl, p, _, rfl, hp, ?_⟩
    refine forEnum (xs := rows.map V.str) (fun i σ H' => ∃ last z2 z3 z4, σ = [some (.ref p), some (.str last), z2, z3, z4] ∧ Same H H' ∧ treeF rows 0 "" = treeF (rows.drop i) i last) ⟨"", none, none, none, rfl, Same.refl H, rfl⟩ (fun i σ H' I => ?_) (fun i x T0 σ H' hx I hT => ?_) (fun σ H' I => ?_)
    · obtain ⟨last, z2, z3, z4, rfl, s1, _⟩ := I
      exact s1.seq hp
    · obtain ⟨last, z2, z3, z4, rfl, s1, fe⟩ := I
      obtain ⟨hi, ex⟩ := List.getElem?_eq_some_iff.mp hx
      rw [List.length_map] at hi
      rw [List.getElem_map] at ex
      subst ex
      obtain ⟨rl, rp⟩ := hrw rows[i] (List.getElem_mem hi)
      rw [List.drop_eq_getElem_cons hi, tree_cons] at fe
      have s2 := same_new (o := .tup [.int ((i : Nat) : Int), .str rows[i]]) hT
      have h2 : (upd H' T0 (.tup [.int ((i : Nat) : Int), .str rows[i]])) T0 = some (.tup [.int ((i : Nat) : Int), .str rows[i]]) := upd_same
      generalize upd H' T0 (.tup [.int ((i : Nat) : Int), .str rows[i]]) = H2 at s2 h2 ⊢
      refine ⟨T0, _, rfl, SqT.of h2, rfl, .int ((i : Nat) : Int), _, rfl, .str rows[i], _, rfl, rfl, ?_⟩
      have sub := split_sub rp rl
      have sl := split_len rl
      refine ⟨.str rows[i], rfl, ⟨_, rfl⟩, _, _, rfl, rfl, by decide +kernel, by rw [sizeLine_eq]; omega, fun W hW => ?_⟩
      rw [show Txt.split rows[i] (Str.ofString " ") = Txt.split rows[i] " " from rfl]
      have ew : entW rows[i] = (match Txt.split rows[i] " " with
        | [a, b, c] => if (decide (a ∈ KINDS) && (isSegF b && isIdF c)) = true then some (b, a, c) else none
        | _ => none) := rfl
      generalize Txt.split rows[i] " " = l at sub sl ew ⊢
      have s3 := same_new (o := .lst (l.map V.str)) hW
      have h3 : (upd H2 W (.lst (l.map V.str))) W = some (.lst (l.map V.str)) := upd_same
      generalize upd H2 W (.lst (l.map V.str)) = H3 at s3 h3 ⊢
      have s13 := s1.trans (s2.trans s3)
      have bad : (∀ e, entW rows[i] = some e → ¬ (last.cps.toList < e.1.cps.toList ∧ i ≠ 30)) → ∀ H4, Same H H4 → Q (.int ((i : Nat) : Int)) H4 := fun h H4 s4 => by
        have q := qq H4 s4
        have e : treeF rows 0 "" = some i := by
          rw [fe]
          cases k : entW rows[i] with
          | none => rfl
          | some e =>
            dsimp only
            rw [if_neg]
            intro z
            simp only [Bool.and_eq_true, decide_eq_true_eq] at z
            exact h e k z
        rw [e] at q
        exact q
      refine ⟨.ref W, rfl, W, _, rfl, .inl (SqL.of h3), rfl, _, rfl, ?_⟩
      by_cases z : l.length = 3
      case neg =>
        refine ifT ?_ ⟨.int ((i : Nat) : Int), rfl, bad (fun e he => ?_) H3 s13⟩
        · rw [List.length_map]
          refine (show (!decide (V.int ((l.length : Nat) : Int) = V.int 3)) = true from ?_)
          rw [decide_eq_false (fun k => z (by have := V.int.inj k; omega))]
          rfl
        · rw [ew] at he
          match l, z with
          | [], _ => cases he
          | [_], _ => cases he
          | [_, _], _ => cases he
          | [_, _, _], z => exact absurd rfl z
          | _ :: _ :: _ :: _ :: _, _ => cases he
      obtain ⟨a, b, c', rfl⟩ : ∃ a b c', l = [a, b, c'] := by
        match l, z with
        | [a, b, c'], _ => exact ⟨a, b, c', rfl⟩
      have ew : entW rows[i] = if (decide (a ∈ KINDS) && (isSegF b && isIdF c')) = true then some (b, a, c') else none := ew
      obtain ⟨pb, lb⟩ := sub b (by simp)
      obtain ⟨pc, lc⟩ := sub c' (by simp)
      refine ifF (fun z => by cases z) ?_
      refine ⟨.ref W, rfl, W, _, 0, .str a, rfl, rfl, SqL.of h3, rfl, (by show 3 ≤ sizeLine; decide), fun T1 hT1 => ?_⟩
      have s4 := same_new (o := .tup [.str "file", .str "exec", .str "dir"]) hT1
      have h4 : (upd H3 T1 (.tup [.str "file", .str "exec", .str "dir"])) T1 = some (.tup (KINDS.map V.str)) := upd_same
      generalize upd H3 T1 (.tup [.str "file", .str "exec", .str "dir"]) = H4 at s4 h4 ⊢
      have s14 := s13.trans s4
      have h34 := s4 _ _ h3
      refine ⟨T1, _, rfl, .inr (SqT.of h4), rfl, flat_strs KINDS, _, rfl, ?_⟩
      rw [inV_mem]
      by_cases ka : a ∈ KINDS
      case neg =>
        rw [decide_eq_false ka]
        refine ifT rfl ⟨.int ((i : Nat) : Int), rfl, bad (fun e he => ?_) H4 s14⟩
        rw [ew, decide_eq_false ka] at he
        cases he
      rw [decide_eq_true ka] at ew ⊢
      refine ifF (fun z => by cases z) ?_
      refine ⟨.ref W, rfl, W, _, 1, .str b, rfl, rfl, SqL.of h34, rfl, b, rfl, lb, pb, fun H5 s5 => ⟨_, rfl, ?_⟩⟩
      have s15 := s14.trans s5
      have h35 := s5 _ _ h34
      cases hb : isSegF b with
      | false =>
        refine ifT rfl ⟨.int ((i : Nat) : Int), rfl, bad (fun e he => ?_) H5 s15⟩
        rw [ew, hb] at he
        cases he
      | true =>
      refine ifF (fun z => by cases z) ?_
      refine ⟨.ref W, rfl, W, _, 2, .str c', rfl, rfl, SqL.of h35, rfl, c', rfl, lc, pc, fun H6 s6 => ⟨_, rfl, ?_⟩⟩
      have s16 := s15.trans s6
      have h36 := s6 _ _ h35
      cases hc : isIdF c' with
      | false =>
        refine ifT rfl ⟨.int ((i : Nat) : Int), rfl, bad (fun e he => ?_) H6 s16⟩
        rw [ew, hb, hc] at he
        cases he
      | true =>
      rw [hb, hc] at ew
      have ew : entW rows[i] = some (b, a, c') := ew
      rw [ew] at fe
      dsimp only at fe
      refine ifF (fun z => by cases z) ?_
      refine ⟨.ref W, rfl, W, _, 1, .str b, rfl, rfl, SqL.of h36, rfl, .str last, rfl, _, _, rfl, rfl, _, rfl, ?_⟩
      by_cases lt : last.cps.toList < b.cps.toList
      case neg =>
        refine ifT ?_ ⟨.int ((i : Nat) : Int), rfl, bad (fun e he => ?_) H6 s16⟩
        · show (!decide (last.cps.toList < b.cps.toList)) = true
          rw [decide_eq_false lt]
          rfl
        · rw [ew] at he
          cases he
          exact fun z => lt z.1
      refine ifF (fun z => ?_) ?_
      · have z : (!decide (last.cps.toList < b.cps.toList)) = true := z
        rw [decide_eq_true lt] at z
        cases z
      refine ⟨.int ((i : Nat) : Int), rfl, rfl, _, rfl, ?_⟩
      by_cases i30 : i = 30
      · refine ifT (decide_eq_true (by rw [i30]; rfl)) ⟨.int ((i : Nat) : Int), rfl, bad (fun e he => fun z => z.2 i30) H6 s16⟩
      refine ifF (fun z => i30 (by have := V.int.inj (of_decide_eq_true z); omega)) ?_
      refine ⟨.ref W, rfl, W, _, 1, .str b, rfl, rfl, SqL.of h36, rfl, ?_⟩
      rw [if_pos (by rw [decide_eq_true lt, decide_eq_true i30]; rfl)] at fe
      exact ⟨b, some (.int ((i : Nat) : Int)), some (.str rows[i]), some (.ref W), rfl, s16, fe⟩
    · obtain ⟨last, z2, z3, z4, rfl, s1, fe⟩ := I
      rw [List.length_map, List.drop_length] at fe
      have q := qq H' s1
      rw [fe] at q
      exact q
end

end Fk

set_option maxHeartbeats 4000000
namespace Fk
open PySem PySem.Spec PyProof.Rows L2
theorem cut_last {α : Type} (l : List α) (x : α) (g : α → V) : cutV ((l ++ [x]).map g) none (some (-1)) = l.map g := by
  unfold cutV
  rw [HT.sIx_none, List.drop_zero, Nat.sub_zero]
  have e : HT.sIx ((l ++ [x]).map g).length ((l ++ [x]).map g).length (some (-1)) = (l.map g).length := by
    rw [List.length_map, List.length_map, List.length_append]
    show (if (-1 : Int) < 0 then ((-1 : Int) + ((l.length + 1 : Nat) : Int)).toNat else min (-1 : Int).toNat (l.length + 1)) = _
    rw [if_pos (by decide)]
    omega
  rw [e, List.map_append, List.take_left]
theorem cut_take {α : Type} (l : List α) (g : α → V) (k : Nat) : cutV (l.map g) none (some (k : Int)) = (l.take k).map g := by
  unfold cutV
  rw [HT.sIx_none, HT.sIx_nat, List.drop_zero, Nat.sub_zero, List.map_take]
  rcases Nat.le_total k (l.map g).length with h | h
  · rw [Nat.min_eq_left h]
  · rw [Nat.min_eq_right h, List.take_length, List.take_of_length_le h]
theorem at_last {α : Type} (l : List α) (x : α) : atI (l ++ [x]) (-1) = some x := by
  have h : (l ++ [x]).length = l.length + 1 := by rw [List.length_append]; rfl
  unfold atI
  have e : ixN (l ++ [x]).length (-1) = some l.length := by
    unfold ixN
    rw [if_neg (by decide), h, if_pos (by omega)]
    congr 1
    omega
  rw [e]
  show (l ++ [x])[l.length]? = some x
  rw [List.getElem?_append_right (Nat.le_refl _), Nat.sub_self]
  rfl
theorem tree_le : ∀ (ls : List Str) (k : Nat) (last : Str) (j : Nat), treeF ls k last = some j → j ≤ k + ls.length
  | [], _, _, _, h => by cases h
  | r :: rs, k, last, j, h => by
    rw [tree_cons] at h
    rw [List.length_cons]
    split at h
    · cases h
      omega
    · split at h
      · have := tree_le rs _ _ _ h
        omega
      · cases h
        omega
theorem fault_le : ∀ (ls steps ps : List Str) (n : Nat), (faultF ls steps ps n).1 ≤ n + ls.length
  | [], _, _, n => Nat.le_add_right _ _
  | r :: rs, [], ps, n => Nat.le_add_right _ _
  | r :: rs, s :: ss, ps, n => by
    rw [fault_cons, List.length_cons]
    split
    · split
      · have := fault_le rs (s :: ss) (ps ++ [dropS r 7]) (n + 1)
        omega
      · show n ≤ _
        omega
    · split
      · split
        · show n + 1 ≤ _
          omega
        · have := fault_le rs ss ps (n + 1)
          omega
      · show n ≤ _
        omega
theorem at_two (x : V) (b : Bool) : atI [x, V.non] (if b = true then 1 else 0) = some (if b = true then V.non else x) := by
  cases b <;> rfl
theorem len_flen (ls : List Str) : ls.length ≤ flen ls := by
  induction ls with
  | nil => exact Nat.zero_le _
  | cons r ls ih =>
    rw [flen_cons, List.length_cons]
    omega
theorem nl_len : ("\n" : Str).length = 1 := by decide +kernel
theorem tl_joinrows (rs : List Str) : TL.tl (Txt.join ("" : Str) (rs.map fun r => r ++ ("\n" : Str))) = flatL rs := by
  rw [tl_join0, List.map_map]
  unfold flatL
  congr 1
  refine List.map_congr_left fun r _ => ?_
  show TL.tl (r ++ ("\n" : Str)) = _
  rw [TL.tl_append, nl_one]
theorem len_joinrows (rs : List Str) : (Txt.join ("" : Str) (rs.map fun r => r ++ ("\n" : Str))).length = flen rs := by
  rw [TL.len_tl, tl_joinrows]
  rfl
theorem sum_rows (rs : List Str) : ((rs.map fun r => r ++ ("\n" : Str)).map (·.length)).sum = flen rs := by
  induction rs with
  | nil => rfl
  | cons r rs ih =>
    rw [List.map_cons, List.map_cons, List.sum_cons, ih, flen_cons, len_app, nl_len]
theorem flen_take (ls : List Str) (k : Nat) : flen (ls.take k) ≤ flen ls := by
  have := flen_app (ls.take k) (ls.drop k)
  rw [List.take_append_drop] at this
  omega
theorem at_rows (ls : List Str) (t : Str) : atI ((ls ++ [t]).map V.str) (-1) = some (.str t) := by
  rw [List.map_append]
  exact at_last _ _
section
variable {P : Program} {w : World} {K : PySem.W.Frag} {mg : Str → Option Value} {base : Heap}
def spDue5 : Sp := fun vs H Q _ => ∃ (x : Str) (o : Option (Str × List Str × Str)), vs = [.str x] ∧ DecR x o ∧ PlL (TL.tl x) ∧ x.length ≤ 4000 ∧ ∀ H', Same H H' → Q (optV (dueX x.length o)) H'
theorem c_l_due (T : Top K mg) : C8.Cal P w K mg base 5 "_law_due" spDue5 [] := by
  refine cal_of T.d_l_due sc_l_due (fun _ _ _ _ _ _ us hl => match us, hl with | [_], _ => rfl) (fun vs H Q E h => ?_) (fun f cdv A outer s H vs Q E hr h => ?_)
  · obtain ⟨x, o, rfl, _⟩ := h
    rfl
  · obtain ⟨x, o, rfl, dec, pl, hl, qq⟩ := h
    refine ⟨_, (pss_cons (ps_set (i := 1) sc_l_due.nd rfl (Or.inl rfl) (pe_bm PySem.F.plainAttrs_str PySem.F.slot_str_partition PySem.F.type_str_partition mt_partition (pv 0) (pa_cons pe_str pa_nil)))
      (pss_cons (ps_if (PW.pt (pw_or (pt_cmpR op_eq (pe_ix ix_tup (pv 1) pe_int (fun _ _ => rfl)) pe_str (nomark _)) (pw_or1 (pt_cmpR op_notIn_seq (pe_ix ix_tup (pv 1) pe_int (fun _ _ => rfl)) (pe_tup (pa_cons pe_str (pa_cons pe_str (pa_cons pe_str (pa_cons pe_str pa_nil))))) rfl))))
      (pss_one (ps_ret pe_int))
      pss_nil)
      (pss_cons (ps_set (i := 2) sc_l_due.nd rfl (Or.inl rfl) (pe_op op_add (pe_callB call_len_str (by rfl) T.z_len (by decide +kernel) (pa_cons (pe_ix ix_tup (pv 1) pe_int (fun _ _ => rfl)) pa_nil)) pe_int))
      (pss_cons (ps_if (pt_cmpR op_eq (pe_ix ix_tup (pv 1) pe_int (fun _ _ => rfl)) pe_str (nomark _))
      (pss_one (ps_ret (pe_ix ix_list (pe_lst (pa_cons (pv 2) (pa_cons pe_non pa_nil))) (pe_callTy call_int1 (by rfl) T.z_int (by decide +kernel) (pa_cons (pe_cmpR op_le (pe_callB call_len_str (by rfl) T.z_len (by decide +kernel) (pa_cons (pe_ix ix_tup (pv 1) pe_int (fun _ _ => rfl)) pa_nil)) pe_int (nomark _)) pa_nil)) (fun _ _ => rfl))))
      pss_nil)
      (pss_cons (ps_set (i := 3) sc_l_due.nd rfl (Or.inl rfl) (pe_split (pe_ix ix_tup (pv 1) pe_int (fun _ _ => rfl)) pe_str))
      (pss_cons (ps_if (pt_cmpR op_eq (pe_ix ix_tup (pv 1) pe_int (fun _ _ => rfl)) pe_str (nomark _))
      (pss_cons (ps_set (i := 4) sc_l_due.nd rfl (Or.inl rfl) (C8.pe_c (c_l_tree_fault T) hr (by decide) (by rfl) (pa_cons (pe_slice sl_list (pv 3) po_none (po_some (pe_un un_neg pe_int))) pa_nil)))
      (pss_cons (ps_if (pt_cmpR op_notN (pv 4) pe_non (nomark _))
      (pss_one (ps_ret (pe_op op_add (pv 2) (pe_callB call_len_str (by rfl) T.z_len (by decide +kernel) (pa_cons (pe_join pe_str (pe_lc (own := [("_law_row", 5)]) (g := gName 5) (by rfl) sc_l_due.nd (pi_list (pe_slice sl_list (pv 3) po_none (po_some (pv 4)))) (blkOk_by (own := [("_law_row", 5)]) (N := ["_law_text_here", "_law_head", "_law_at", "_law_rows", "_law_fault", "_law_row", "_law_steps", "_law_count", "_law_whole", "_law_begin"]) (sc := C8.fnScope s_l_due) (by decide +kernel)) (fun _ _ _ _ _ => (pg_name (i := 5) sc_l_due.nd rfl (Or.inl rfl))) (fun _ _ _ _ _ => pts_nil) (fun _ _ _ _ _ => (pe_op op_add_str (pv 5) pe_str)))) pa_nil)))))
      pss_nil)
      (pss_one (ps_ret (pe_ix ix_list (pe_lst (pa_cons (pe_op op_sub (pe_op op_add (pv 2) (pe_callB call_len_str (by rfl) T.z_len (by decide +kernel) (pa_cons (pe_ix ix_tup (pv 1) pe_int (fun _ _ => rfl)) pa_nil))) (pe_callB call_len_str (by rfl) T.z_len (by decide +kernel) (pa_cons (pe_ix ix_list (pv 3) (pe_un un_neg pe_int) (fun _ _ => rfl)) pa_nil))) (pa_cons pe_non pa_nil))) (pe_callTy call_int1 (by rfl) T.z_int (by decide +kernel) (pa_cons (pe_cmpR op_eq (pe_ix ix_list (pv 3) (pe_un un_neg pe_int) (fun _ _ => rfl)) pe_str (nomark _)) pa_nil)) (fun _ _ => rfl))))))
      pss_nil)
      (pss_cons (ps_set (i := 6) sc_l_due.nd rfl (Or.inl rfl) (pe_ix ix_list (pe_lst (pa_cons (pe_lst (pa_cons pe_str (pa_cons pe_str (pa_cons pe_str (pa_cons pe_str pa_nil))))) (pa_cons (pe_lst (pa_cons pe_str (pa_cons pe_str (pa_cons pe_str pa_nil)))) pa_nil))) (pe_callTy call_int1 (by rfl) T.z_int (by decide +kernel) (pa_cons (pe_cmpR op_eq (pe_ix ix_tup (pv 1) pe_int (fun _ _ => rfl)) pe_str (nomark _)) pa_nil)) (fun _ _ => rfl)))
      (pss_cons (ps_asg (C8.pe_c (c_l_fault_of_rows T) hr (by decide) (by rfl) (pa_cons (pe_slice sl_list (pv 3) po_none (po_some (pe_un un_neg pe_int))) (pa_cons (pv 6) pa_nil))) (pg_tup rfl (pgs_cons (pg_name (i := 7) sc_l_due.nd rfl (Or.inl rfl)) (pgs_cons (pg_name (i := 8) sc_l_due.nd rfl (Or.inl rfl)) pgs_nil))))
      (pss_cons (ps_set (i := 9) sc_l_due.nd rfl (Or.inl rfl) (pe_op op_add (pv 2) (pe_callB call_len_str (by rfl) T.z_len (by decide +kernel) (pa_cons (pe_join pe_str (pe_lc (own := [("_law_row", 5)]) (g := gName 5) (by rfl) sc_l_due.nd (pi_list (pe_slice sl_list (pv 3) po_none (po_some (pv 7)))) (blkOk_by (own := [("_law_row", 5)]) (N := ["_law_text_here", "_law_head", "_law_at", "_law_rows", "_law_fault", "_law_row", "_law_steps", "_law_count", "_law_whole", "_law_begin"]) (sc := C8.fnScope s_l_due) (by decide +kernel)) (fun _ _ _ _ _ => (pg_name (i := 5) sc_l_due.nd rfl (Or.inl rfl))) (fun _ _ _ _ _ => pts_nil) (fun _ _ _ _ _ => (pe_op op_add_str (pv 5) pe_str)))) pa_nil))))
      (pss_cons (ps_if (pt_not (pt_val (pv 8)))
      (pss_one (ps_ret (pv 9)))
      pss_nil)
      (pss_one (ps_ret (pe_ix ix_list (pe_lst (pa_cons (pv 9) (pa_cons pe_non pa_nil))) (pe_callTy call_int1 (by rfl) T.z_int (by decide +kernel) (pa_cons (pe_cmpR op_le (pe_op op_sub (pe_callB call_len_str (by rfl) T.z_len (by decide +kernel) (pa_cons (pv 0) pa_nil)) (pv 9)) pe_int (nomark _)) pa_nil)) (fun _ _ => rfl)))))))))))))), ?_⟩
    refine ⟨.str x, rfl, rfl, x, _, rfl, rfl, by decide +kernel, small_line (by omega), fun b hb => ?_⟩
    rw [show Txt.partition x (Str.ofString "\n") = Txt.partition x "\n" from rfl]
    cases o with
    | none =>
      rw [part_no dec]
      have s1 := same_new (o := .tup [.str x, .str Str.empty, .str Str.empty]) hb
      exact ⟨.ref b, rfl, b, _, 1, .str Str.empty, rfl, rfl, SqT.of upd_same, rfl, rfl, _, rfl, ifT (decide_eq_true (congrArg V.str em_str)) (qq _ s1)⟩
    | some dl =>
      obtain ⟨hd, ls, t⟩ := dl
      obtain ⟨e, nh, nl, nt⟩ := dec
      have qq : ∀ H', Same H H' → Q (optV (dueR x.length hd ls t)) H' := qq
      rw [part_row e nh]
      generalize ey : (⟨(flatL ls ++ TL.tl t).toArray⟩ : Str) = y
      have ty : TL.tl y = flatL ls ++ TL.tl t := by rw [← ey]
      have s1 := same_new (o := .tup [.str hd, .str ("\n" : Str), .str y]) hb
      have h1 : (upd H b (.tup [.str hd, .str ("\n" : Str), .str y])) b = some (.tup [.str hd, .str ("\n" : Str), .str y]) := upd_same
      generalize upd H b (.tup [.str hd, .str ("\n" : Str), .str y]) = H1 at s1 h1 ⊢
      have lx : x.length = hd.length + 1 + y.length := by
        have := congrArg List.length e
        rw [List.length_append, List.length_cons, ← TL.len_tl, ← TL.len_tl, ← ty, ← TL.len_tl] at this
        omega
      have ly : y.length = flen ls + t.length := by
        rw [TL.len_tl, ty, List.length_append, ← TL.len_tl]
        rfl
      refine ⟨.ref b, rfl, b, _, 1, .str ("\n" : Str), rfl, rfl, SqT.of h1, rfl, rfl, _, rfl, ifF (fun z => absurd (V.str.inj (of_decide_eq_true z)) (by decide +kernel)) ?_⟩
      refine ⟨.ref b, rfl, b, _, 0, .str hd, rfl, rfl, SqT.of h1, rfl, (by show 4 ≤ sizeLine; decide), fun b2 hb2 => ?_⟩
      have s2 := same_new (o := .tup [.str "blob", .str "tree", .str "commit", .str "tag"]) hb2
      have h2 : (upd H1 b2 (.tup [.str "blob", .str "tree", .str "commit", .str "tag"])) b2 = some (.tup (HEADS.map V.str)) := upd_same
      generalize upd H1 b2 (.tup [.str "blob", .str "tree", .str "commit", .str "tag"]) = H2 at s2 h2 ⊢
      have s12 := s1.trans s2
      have h12 := s2 _ _ h1
      refine ⟨b2, _, rfl, .inr (SqT.of h2), rfl, flat_strs HEADS, _, rfl, ?_⟩
      rw [inV_mem]
      by_cases hh : hd ∈ HEADS
      case neg =>
        rw [decide_eq_false hh]
        have q := qq H2 s12
        unfold dueR at q
        rw [if_pos hh] at q
        exact ifT rfl q
      rw [decide_eq_true hh]
      refine ifF (fun z => by cases z) ?_
      refine ⟨.ref b, rfl, b, _, 0, .str hd, rfl, rfl, SqT.of h12, rfl, hd, rfl, small_line (by omega), _, _, rfl, rfl, ?_⟩
      refine ⟨.ref b, rfl, b, _, 0, .str hd, rfl, rfl, SqT.of h12, rfl, rfl, _, rfl, ifS (fun c1 => ?_) (fun c1 => ?_)⟩
      · subst c1
        have q := fun H' s => qq H' (s12.trans s)
        rw [due_blob] at q
        refine ⟨.int _, rfl, (by show 2 ≤ sizeLine; decide), fun p hp => ?_⟩
        have s3 := same_new (o := .lst [V.int (((("blob" : Str).length : Nat) : Int) + 1), .non]) hp
        refine ⟨.ref b, rfl, b, _, 2, .str y, rfl, rfl, SqT.of (s3 _ _ h12), rfl, y, rfl, small_line (by omega), _, _, rfl, rfl, .inr ⟨_, rfl, p, _, _, _, rfl, rfl, SqL.of upd_same, at_two _ _, ?_⟩⟩
        have q := q _ s3
        by_cases c : flen ls + t.length ≤ 2000
        · rw [if_pos c] at q
          rw [decide_eq_true (show ((y.length : Nat) : Int) ≤ 2000 by omega)]
          exact q
        · rw [if_neg c] at q
          rw [decide_eq_false (show ¬ ((y.length : Nat) : Int) ≤ 2000 by omega)]
          exact q
      refine ⟨.ref b, rfl, b, _, 2, .str y, rfl, rfl, SqT.of h12, rfl, ⟨_, rfl⟩, _, _, rfl, rfl, by decide +kernel, by rw [sizeLine_eq]; omega, fun rw_ hrw => ?_⟩
      rw [show Txt.split y (Str.ofString "\n") = ls ++ [t] from split_rows ty nl nt]
      have s3 := same_new (o := .lst ((ls ++ [t]).map V.str)) hrw
      have h3 : (upd H2 rw_ (.lst ((ls ++ [t]).map V.str))) rw_ = some (.lst ((ls ++ [t]).map V.str)) := upd_same
      generalize upd H2 rw_ (.lst ((ls ++ [t]).map V.str)) = H3 at s3 h3 ⊢
      have s13 := s12.trans s3
      have h13 := s3 _ _ h12
      have mk : Hd x hd ls t := ⟨e, nh, nl, nt, pl, hl⟩
      have rws : ∀ r ∈ ls, r.length ≤ 4000 ∧ PlL (TL.tl r) := fun r hr => mk.tx.mem hr
      have ll : ls.length ≤ 4001 := by
        have := len_flen ls
        omega
      refine ⟨.ref b, rfl, b, _, 0, .str hd, rfl, rfl, SqT.of h13, rfl, rfl, _, rfl, ifS (fun c2 => ?_) (fun c2 => ?_)⟩
      · subst c2
        rw [due_tree] at qq
        refine ⟨.ref rw_, rfl, 1, rfl, -1, rfl, rw_, _, rfl, SqL.of h3, fun p hp => ?_⟩
        rw [cut_last]
        have s4 := same_new (o := .lst (ls.map V.str)) hp
        have h4 : (upd H3 p (.lst (ls.map V.str))) p = some (.lst (ls.map V.str)) := upd_same
        generalize upd H3 p (.lst (ls.map V.str)) = H4 at s4 h4 ⊢
        refine ⟨p, ls, rfl, SqL.of h4, rws, ll, fun H5 s5 => ?_⟩
        have s45 := s4.trans s5
        have s15 := s13.trans s45
        have h35 := s45 _ _ h3
        have h15 := s45 _ _ h13
        have q := fun H' s => qq H' (s15.trans s)
        unfold dueT at q
        cases ht : treeF ls 0 "" with
        | some k =>
          rw [ht] at q
          dsimp only at q
          refine ⟨.int ((k : Nat) : Int), rfl, rfl, _, rfl, ifT rfl ?_⟩
          refine ⟨.int _, rfl, ⟨_, rfl⟩, .ref rw_, rfl, .int ((k : Nat) : Int), rfl, _, rfl, rw_, _, rfl, SqL.of h35, fun p2 hp2 => ?_⟩
          rw [cut_take]
          have kl := tree_le _ _ _ _ ht
          have tk : (ls ++ [t]).take k = ls.take k := List.take_append_of_le_length (by omega)
          rw [tk]
          have s6 := same_new (o := .lst ((ls.take k).map V.str)) hp2
          have h6 : (upd H5 p2 (.lst ((ls.take k).map V.str))) p2 = some (.lst ((ls.take k).map V.str)) := upd_same
          generalize upd H5 p2 (.lst ((ls.take k).map V.str)) = H6 at s6 h6 ⊢
          refine ⟨p2, rfl, ⟨_, SqL.of h6⟩, fun D hD => ?_⟩
          refine lc_pure (i := 5) (us := ls.take k) (g := V.str) yields_list (fun r => V.str (r ++ ("\n" : Str))) (fun _ => true) hD (fun H s => SqL.of (s _ _ h6)) (fun H r s hr R z => z H (Same.refl H)) (fun H r s hr _ R z => ⟨.str r, rfl, r, _, rfl, rfl, ?_, z H (Same.refl H)⟩) ?_ (fun H7 s7 h7 => ?_)
          · have := (rws r (List.mem_of_mem_take hr)).1
            exact small_line (by rw [nl_len]; omega)
          · rw [List.length_take]
            omega
          rw [filt_all] at h7
          refine ⟨_, D, (ls.take k).map (fun r => r ++ ("\n" : Str)), rfl, rfl, .inl (SqL.of (by rw [h7, List.map_map]; rfl)), ?_, _, rfl, ?_, _, _, rfl, rfl, ?_⟩
          · have := flen_take ls k
            rw [sum_rows, show ("" : Str).length = 0 by decide +kernel]
            omega
          · have := flen_take ls k
            rw [len_joinrows]
            exact small_line (by omega)
          · have q := q H7 (s6.trans s7)
            rw [len_joinrows]
            refine (show Q (.int ((((("tree" : Str).length : Nat) : Int) + 1) + ((flen (ls.take k) : Nat) : Int))) H7 from ?_)
            rw [show (((("tree" : Str).length : Nat) : Int) + 1) + ((flen (ls.take k) : Nat) : Int) = ((5 + flen (ls.take k) : Nat) : Int) by rw [heads_len.2.1]; omega]
            exact q
        | none =>
          rw [ht] at q
          dsimp only at q
          refine ⟨.non, rfl, rfl, _, rfl, ifF (fun z => by cases z) ?_⟩
          refine ⟨.int _, rfl, .ref b, rfl, b, _, 2, .str y, rfl, rfl, SqT.of h15, rfl, y, rfl, small_line (by omega), _, _, rfl, rfl, .ref rw_, rfl, 1, rfl, rw_, _, -1, .str t, rfl, rfl, SqL.of h35, at_rows ls t, t, rfl, small_line (by omega), _, _, rfl, rfl, (by show 2 ≤ sizeLine; decide), fun p3 hp3 => ?_⟩
          have s6 := same_new (o := .lst [V.int ((((("tree" : Str).length : Nat) : Int) + 1) + ((y.length : Nat) : Int) - ((t.length : Nat) : Int)), .non]) hp3
          refine ⟨.ref rw_, rfl, 1, rfl, rw_, _, -1, .str t, rfl, rfl, SqL.of (s6 _ _ h35), at_rows ls t, rfl, .inr ⟨_, rfl, p3, _, _, _, rfl, rfl, SqL.of upd_same, at_two _ _, ?_⟩⟩
          have q := q _ s6
          by_cases c : t = ""
          · rw [if_pos c] at q
            rw [decide_eq_true (congrArg V.str c)]
            exact q
          · rw [if_neg c] at q
            rw [decide_eq_false (fun z => c (V.str.inj z)), if_neg Bool.false_ne_true]
            refine (show Q (.int ((((("tree" : Str).length : Nat) : Int) + 1) + ((y.length : Nat) : Int) - ((t.length : Nat) : Int))) _ from ?_)
            rw [show (((("tree" : Str).length : Nat) : Int) + 1) + ((y.length : Nat) : Int) - ((t.length : Nat) : Int) = ((5 + flen ls : Nat) : Int) by rw [heads_len.2.1, ly]; omega]
            exact q
      · have hst : ∃ steps : List Str, (steps = STC ∨ steps = STG) ∧ (hd = "tag" → steps = STG) ∧ (hd ≠ "tag" → steps = STC) ∧ dueR x.length hd ls t = dueS x.length steps (hd.length + 1) ls := by
          by_cases c3 : hd = "tag"
          · refine ⟨STG, .inr rfl, fun _ => rfl, fun z => absurd c3 z, ?_⟩
            subst c3
            rw [due_tag]
            rfl
          · refine ⟨STC, .inl rfl, fun z => absurd z c3, fun _ => rfl, ?_⟩
            have c4 : hd = "commit" := by
              unfold HEADS at hh
              simp only [List.mem_cons, List.not_mem_nil, or_false] at hh
              rcases hh with h | h | h | h
              · exact absurd h c1
              · exact absurd h c2
              · exact h
              · exact absurd h c3
            subst c4
            rw [due_commit]
            rfl
        obtain ⟨steps, hs1, hs2, hs3, due⟩ := hst
        rw [due] at qq
        refine ⟨(by show 4 ≤ sizeLine; decide), fun pa hpa => ⟨(by show 3 ≤ sizeLine; decide), fun pb hpb => ⟨(by show 2 ≤ sizeLine; decide), fun pc hpc => ?_⟩⟩⟩
        have t1 := same_new (o := .lst [V.str "tree", .str "author", .str "time", .str "empty"]) hpa
        have t2 := same_new (o := .lst [V.str "target", .str "label", .str "empty"]) hpb
        have t3 := same_new (o := .lst [V.ref pa, V.ref pb]) hpc
        have ha0 : (upd H3 pa (.lst [V.str "tree", .str "author", .str "time", .str "empty"])) pa = some (.lst [V.str "tree", .str "author", .str "time", .str "empty"]) := upd_same
        have hb0 : (upd (upd H3 pa (.lst [V.str "tree", .str "author", .str "time", .str "empty"])) pb (.lst [V.str "target", .str "label", .str "empty"])) pb = some (.lst [V.str "target", .str "label", .str "empty"]) := upd_same
        have hc0 : (upd (upd (upd H3 pa (.lst [V.str "tree", .str "author", .str "time", .str "empty"])) pb (.lst [V.str "target", .str "label", .str "empty"])) pc (.lst [V.ref pa, V.ref pb])) pc = some (.lst [V.ref pa, V.ref pb]) := upd_same
        have ha1 := t3 _ _ (t2 _ _ ha0)
        have hb1 := t3 _ _ hb0
        have s34 := t1.trans (t2.trans t3)
        generalize upd (upd (upd H3 pa (.lst [V.str "tree", .str "author", .str "time", .str "empty"])) pb (.lst [V.str "target", .str "label", .str "empty"])) pc (.lst [V.ref pa, V.ref pb]) = H4 at s34 ha1 hb1 hc0 ⊢
        have h14 := s34 _ _ h13
        have h34 := s34 _ _ h3
        have s14 := s13.trans s34
        obtain ⟨qa, hqa, hq⟩ : ∃ qa, atI [V.ref pa, V.ref pb] (if decide (V.str hd = V.str "tag") = true then 1 else 0) = some (.ref qa) ∧ H4 qa = some (.lst (steps.map V.str)) := by
          by_cases c3 : hd = "tag"
          · rw [decide_eq_true (congrArg V.str c3), hs2 c3]
            exact ⟨pb, rfl, hb1⟩
          · rw [decide_eq_false (fun z => c3 (V.str.inj z)), hs3 c3]
            exact ⟨pa, rfl, ha1⟩
        refine ⟨.ref b, rfl, b, _, 0, .str hd, rfl, rfl, SqT.of h14, rfl, rfl, .inr ⟨_, rfl, pc, _, _, _, rfl, rfl, SqL.of hc0, hqa, ?_⟩⟩
        refine ⟨.ref rw_, rfl, 1, rfl, -1, rfl, rw_, _, rfl, SqL.of h34, fun p hp => ?_⟩
        rw [cut_last]
        have s5 := same_new (o := .lst (ls.map V.str)) hp
        have h5 : (upd H4 p (.lst (ls.map V.str))) p = some (.lst (ls.map V.str)) := upd_same
        generalize upd H4 p (.lst (ls.map V.str)) = H5 at s5 h5 ⊢
        refine ⟨.ref qa, rfl, p, qa, ls, steps, rfl, SqL.of h5, s5 _ _ hq, hs1, rws, ll, fun a H6 s6 ha => ?_⟩
        have s56 := s5.trans s6
        have h36 := s56 _ _ h34
        have s16 := s14.trans s56
        have fl := fault_le ls steps [] 0
        unfold dueS at qq
        generalize faultF ls steps [] 0 = fr at ha fl qq
        obtain ⟨n, wh⟩ := fr
        dsimp only at ha fl qq
        refine ⟨a, _, rfl, SqT.of ha, rfl, .int ((n : Nat) : Int), _, rfl, .bl wh, _, rfl, rfl, ?_⟩
        refine ⟨.int _, rfl, ⟨_, rfl⟩, .ref rw_, rfl, .int ((n : Nat) : Int), rfl, _, rfl, rw_, _, rfl, SqL.of h36, fun p2 hp2 => ?_⟩
        rw [cut_take]
        have tk : (ls ++ [t]).take n = ls.take n := List.take_append_of_le_length (by omega)
        rw [tk]
        have s7 := same_new (o := .lst ((ls.take n).map V.str)) hp2
        have h7 : (upd H6 p2 (.lst ((ls.take n).map V.str))) p2 = some (.lst ((ls.take n).map V.str)) := upd_same
        generalize upd H6 p2 (.lst ((ls.take n).map V.str)) = H7 at s7 h7 ⊢
        refine ⟨p2, rfl, ⟨_, SqL.of h7⟩, fun D hD => ?_⟩
        refine lc_pure (i := 5) (us := ls.take n) (g := V.str) yields_list (fun r => V.str (r ++ ("\n" : Str))) (fun _ => true) hD (fun H s => SqL.of (s _ _ h7)) (fun H r s hr R z => z H (Same.refl H)) (fun H r s hr _ R z => ⟨.str r, rfl, r, _, rfl, rfl, ?_, z H (Same.refl H)⟩) ?_ (fun H8 s8 h8 => ?_)
        · have := (rws r (List.mem_of_mem_take hr)).1
          exact small_line (by rw [nl_len]; omega)
        · rw [List.length_take]
          omega
        rw [filt_all] at h8
        have ft := flen_take ls n
        refine ⟨_, D, (ls.take n).map (fun r => r ++ ("\n" : Str)), rfl, rfl, .inl (SqL.of (by rw [h8, List.map_map]; rfl)), ?_, _, rfl, ?_, _, _, rfl, rfl, ?_⟩
        · rw [sum_rows, show ("" : Str).length = 0 by decide +kernel]
          omega
        · rw [len_joinrows]
          exact small_line (by omega)
        rw [len_joinrows]
        have s18 := s16.trans (s7.trans s8)
        have eb : (((hd.length : Nat) : Int) + 1) + ((flen (ls.take n) : Nat) : Int) = ((hd.length + 1 + flen (ls.take n) : Nat) : Int) := by omega
        cases wh with
        | false =>
          rw [if_pos rfl] at qq
          refine ⟨.bl false, rfl, _, rfl, iteT ⟨.int _, rfl, ?_⟩⟩
          refine (show Q (.int ((((hd.length : Nat) : Int) + 1) + ((flen (ls.take n) : Nat) : Int))) H8 from ?_)
          rw [eb]
          exact qq H8 s18
        | true =>
          rw [if_neg (fun z => by cases z)] at qq
          refine ⟨.bl true, rfl, _, rfl, iteF ?_⟩
          refine ⟨.int ((((hd.length : Nat) : Int) + 1) + ((flen (ls.take n) : Nat) : Int)), rfl, (by show 2 ≤ sizeLine; decide), fun p3 hp3 => ?_⟩
          have s9 := same_new (o := .lst [V.int ((((hd.length : Nat) : Int) + 1) + ((flen (ls.take n) : Nat) : Int)), .non]) hp3
          refine ⟨.str x, rfl, x, rfl, small_line (by omega), .int _, rfl, _, _, rfl, rfl, _, _, rfl, rfl, .inr ⟨_, rfl, p3, _, _, _, rfl, rfl, SqL.of upd_same, at_two _ _, ?_⟩⟩
          have q := qq _ (s18.trans s9)
          by_cases c : x.length - (hd.length + 1 + flen (ls.take n)) ≤ 200
          · rw [if_pos c] at q
            rw [decide_eq_true (show ((x.length : Nat) : Int) - ((((hd.length : Nat) : Int) + 1) + ((flen (ls.take n) : Nat) : Int)) ≤ 200 by omega)]
            exact q
          · rw [if_neg c] at q
            rw [decide_eq_false (show ¬ ((x.length : Nat) : Int) - ((((hd.length : Nat) : Int) + 1) + ((flen (ls.take n) : Nat) : Int)) ≤ 200 by omega), if_neg Bool.false_ne_true, eb]
            exact q
end

end Fk

set_option maxHeartbeats 4000000
namespace Fk
open PySem PySem.Spec PyProof.Rows L2
def Wd (n : Nat) (v : V) : Prop := ∃ x : Str, v = .str x ∧ PlL (TL.tl x) ∧ x.length ≤ n
def litW (n : Nat) (x : Str) : Bool := decide (x.length ≤ n) && (TL.tl x).all fun u => decide (u = 10) || plainC u
theorem wd_lit {n : Nat} {x : Str} (h : litW n x = true) : Wd n (.str x) := by
  obtain ⟨h1, h2⟩ := Bool.and_eq_true_iff.mp h
  exact ⟨x, rfl, fun u hu => List.all_eq_true.mp h2 u hu, of_decide_eq_true h1⟩
theorem wd_lits {n : Nat} {l : List Str} (h : l.all (litW n) = true) : ∀ v ∈ l.map V.str, Wd n v := fun v hv => by
  obtain ⟨x, hx, rfl⟩ := List.mem_map.mp hv
  exact wd_lit (List.all_eq_true.mp h x hx)
theorem hex_pl {x : Str} (h : ∀ u ∈ TL.tl x, u ∈ TL.tl HEX) : PlL (TL.tl x) := fun u hu => by
  have : ∀ u ∈ TL.tl HEX, (decide (u = 10) || plainC u) = true := by decide +kernel
  exact this u (h u hu)
theorem pl_app {x y : Str} (hx : PlL (TL.tl x)) (hy : PlL (TL.tl y)) : PlL (TL.tl (x ++ y)) := fun u hu => by
  rw [TL.tl_append] at hu
  rcases List.mem_append.mp hu with h | h
  · exact hx u h
  · exact hy u h
theorem wd_id {x i : Str} {n : Nat} (h : litW n x = true) (hi : ∀ u ∈ TL.tl i, u ∈ TL.tl HEX) (hl : i.length = 16) (hn : n + 16 ≤ 40) : Wd 40 (.str (x ++ i)) := by
  obtain ⟨y, e, h1, h2⟩ := wd_lit h
  cases e
  exact ⟨_, rfl, pl_app h1 (hex_pl hi), by rw [len_app]; omega⟩
theorem wd_app {n : Nat} {l m : List V} (hl : ∀ v ∈ l, Wd n v) (hm : ∀ v ∈ m, Wd n v) : ∀ v ∈ l ++ m, Wd n v := fun v hv => by
  rcases List.mem_append.mp hv with h | h
  · exact hl v h
  · exact hm v h
section
variable {P : Program} {w : World} {K : PySem.W.Frag} {mg : Str → Option Value} {base : Heap}
theorem do_draw {H : Hp} {a : Addr} {n k : Int} {Q : VK} (hw : Wl H a k) (h0 : 0 < n) (h1 : n < 2000000000) (hk : k < 2 ^ 39) (q : ∀ r : Nat, (r : Int) < n → ∀ H' k', Fr a H H' → Wl H' a k' → k ≤ k' → k' ≤ k + 1 → Q (.int r) H') : spDraw [.ref a, .int n] H Q C8.E0 := by
  refine ⟨a, n, k, rfl, hw, h0, h1, by omega, fun r x y k' r0 r1 k1 k2 => ?_⟩
  obtain ⟨m, rfl⟩ := Int.eq_ofNat_of_zero_le r0
  exact q m r1 _ k' Fr.at (Wl.upd (by have := hw.1; omega)) k1 k2
theorem do_pick {H : Hp} {a b : Addr} {xs : List V} {k : Int} {Q : VK} (hw : Wl H a k) (hS : H b = some (.lst xs)) (nb : b ≠ a) (h0 : 0 < xs.length) (h1 : xs.length < 1000000) (hk : k < 2 ^ 39) (q : ∀ v ∈ xs, ∀ H' k', Fr a H H' → Wl H' a k' → k ≤ k' → k' ≤ k + 1 → Q v H') : spPick K [.ref a, .ref b] H Q C8.E0 :=
  ⟨a, b, xs, k, rfl, hw, SqL.of hS, nb, h0, h1, by omega, q⟩
def spOther : Sp := fun vs H Q _ => ∃ (a : Addr) (k : Int), vs = [.ref a] ∧ Wl H a k ∧ k < 2 ^ 37 ∧ ∀ x : Str, PlL (TL.tl x) → x.length ≤ 40 → ∀ H' k', Fr a H H' → Wl H' a k' → k ≤ k' → k' ≤ k + 200 → Q (.str x) H'
theorem c_l_other_line (T : Top K mg) : C8.Cal P w K mg base 4 "_law_other_line" spOther [] := by
  refine cal_of T.d_l_other_line sc_l_other_line (fun _ _ _ _ _ _ us hl => match us, hl with | [_], _ => rfl) (fun vs H Q E h => ?_) (fun f cdv A outer s H vs Q E hr h => ?_)
  · obtain ⟨a, k, rfl, _⟩ := h
    rfl
  · obtain ⟨a, k, rfl, hw, hk, q⟩ := h
    refine ⟨_, (pss_cons (ps_set (i := 1) sc_l_other_line.nd rfl (Or.inl rfl) (pe_lst (pa_cons pe_str (pa_cons pe_str (pa_cons pe_str (pa_cons pe_str (pa_cons pe_str (pa_cons pe_str (pa_cons pe_str (pa_cons pe_str (pa_cons pe_str (pa_cons pe_str (pa_cons pe_str pa_nil)))))))))))))
      (pss_cons (ps_set (i := 1) sc_l_other_line.nd rfl (Or.inl rfl) (pe_op op_cat (pv 1) (pe_lst (pa_cons pe_str (pa_cons (pe_op op_add_str pe_str (C8.pe_c (c_l_id T) hr (by decide) (by rfl) (pa_cons (pv 0) pa_nil))) (pa_cons pe_str (pa_cons (pe_op op_add_str pe_str (C8.pe_c (c_l_id T) hr (by decide) (by rfl) (pa_cons (pv 0) pa_nil))) pa_nil)))))))
      (pss_cons (ps_set (i := 1) sc_l_other_line.nd rfl (Or.inl rfl) (pe_op op_cat (pv 1) (pe_lst (pa_cons (pe_op op_add_str pe_str (C8.pe_c (c_l_id T) hr (by decide) (by rfl) (pa_cons (pv 0) pa_nil))) (pa_cons pe_str (pa_cons pe_str (pa_cons (pe_op op_add_str pe_str (C8.pe_c (c_l_id T) hr (by decide) (by rfl) (pa_cons (pv 0) pa_nil))) (pa_cons pe_str pa_nil))))))))
      (pss_one (ps_ret (C8.pe_c (c_l_pick T) hr (by decide) (by rfl) (pa_cons (pv 0) (pa_cons (pe_op op_cat (pv 1) (pe_lst (pa_cons (pe_op op_add_str pe_str (C8.pe_c (c_l_id T) hr (by decide) (by rfl) (pa_cons (pv 0) pa_nil))) (pa_cons (pe_op op_add_str pe_str (C8.pe_c (c_l_id T) hr (by decide) (by rfl) (pa_cons (pv 0) pa_nil))) (pa_cons pe_str (pa_cons pe_str (pa_cons pe_str pa_nil))))))) pa_nil)))))))), ?_⟩
    refine ⟨(by show 11 ≤ sizeLine; decide), fun p1 n1 => ?_⟩
    have s1 := same_new (o := .lst ((["blob", "tree", "commit", "tag", "", "author Bob", "author bob", "time 01", "time 7", "time -1", "time"] : List Str).map V.str)) n1
    have h1 : (upd H p1 (.lst ((["blob", "tree", "commit", "tag", "", "author Bob", "author bob", "time 01", "time 7", "time -1", "time"] : List Str).map V.str))) p1 = some (.lst ((["blob", "tree", "commit", "tag", "", "author Bob", "author bob", "time 01", "time 7", "time -1", "time"] : List Str).map V.str)) := upd_same
    have g1 := wd_lits (n := 40) (l := ["blob", "tree", "commit", "tag", "", "author Bob", "author bob", "time 01", "time 7", "time -1", "time"]) (by decide +kernel)
    have w1 := hw.same s1
    have np1 := hw.ne n1
    generalize hL : (["blob", "tree", "commit", "tag", "", "author Bob", "author bob", "time 01", "time 7", "time -1", "time"] : List Str).map V.str = L1 at s1 h1 g1 w1
    have ll1 : L1.length = 11 := by rw [← hL]; rfl
    have hL' : [V.str "blob", .str "tree", .str "commit", .str "tag", .str "", .str "author Bob", .str "author bob", .str "time 01", .str "time 7", .str "time -1", .str "time"] = L1 := hL
    rw [hL']
    generalize upd H p1 (.lst L1) = H1 at s1 h1 w1 ⊢
    have lits : ("parent " : Str).length = 7 ∧ ("tree " : Str).length = 5 ∧ ("target " : Str).length = 7 ∧ ("file a " : Str).length = 7 ∧ ("link a " : Str).length = 7 ∧ ("dir zz " : Str).length = 7 := by decide +kernel
    obtain ⟨e1, e2, e3, e4, e5, e6⟩ := lits
    refine ⟨.ref p1, rfl, .ref a, rfl, a, k, rfl, w1, by omega, fun i1 hi1 li1 H2 k2 f2 w2 l2 m2 => ⟨_, _, rfl, rfl, small_line (by rw [e1]; omega), .ref a, rfl, a, k2, rfl, w2, by omega, fun i2 hi2 li2 H3 k3 f3 w3 l3 m3 => ⟨_, _, rfl, rfl, small_line (by rw [e2]; omega), (by show 4 ≤ sizeLine; decide), fun p2 n2 => ?_⟩⟩⟩
    have g2 : ∀ v ∈ [V.str "time 1000000000001", .str (("parent " : Str) ++ i1), .str "parent 0", .str (("tree " : Str) ++ i2)], Wd 40 v := fun v hv => by
      simp only [List.mem_cons, List.not_mem_nil, or_false] at hv
      rcases hv with rfl | rfl | rfl | rfl
      · exact wd_lit (by decide +kernel)
      · exact wd_id (n := 7) (by decide +kernel) hi1 li1 (by decide)
      · exact wd_lit (by decide +kernel)
      · exact wd_id (n := 7) (by decide +kernel) hi2 li2 (by decide)
    have ll2 : [V.str "time 1000000000001", .str (("parent " : Str) ++ i1), .str "parent 0", .str (("tree " : Str) ++ i2)].length = 4 := rfl
    generalize [V.str "time 1000000000001", .str (("parent " : Str) ++ i1), .str "parent 0", .str (("tree " : Str) ++ i2)] = L2 at g2 ll2 ⊢
    have s4 := same_new (o := .lst L2) n2
    have h4 : (upd H3 p2 (.lst L2)) p2 = some (.lst L2) := upd_same
    have h1b := s4 _ _ ((f2.trans f3) _ _ np1 h1)
    have w4 := w3.same s4
    have F4 := ((Fr.same s1).trans (f2.trans f3)).trans (Fr.same (a := a) s4)
    generalize upd H3 p2 (.lst L2) = H4 at s4 h4 h1b w4 F4 ⊢
    refine ⟨p1, p2, _, _, rfl, rfl, h1b, h4, small_line (by omega), fun p3 n3 => ?_⟩
    have s5 := same_new (o := .lst (L1 ++ L2)) n3
    have h5 : (upd H4 p3 (.lst (L1 ++ L2))) p3 = some (.lst (L1 ++ L2)) := upd_same
    have w5 := w4.same s5
    have np3 := w4.ne n3
    have F5 := F4.trans (Fr.same (a := a) s5)
    have g3 := wd_app g1 g2
    have ll3 : (L1 ++ L2).length = 15 := by rw [List.length_append]; omega
    generalize upd H4 p3 (.lst (L1 ++ L2)) = H5 at s5 h5 w5 F5 ⊢
    generalize L1 ++ L2 = L3 at h5 g3 ll3 ⊢
    refine ⟨.ref p3, rfl, .ref a, rfl, a, k3, rfl, w5, by omega, fun i3 hi3 li3 H6 k6 f6 w6 l6 m6 => ⟨_, _, rfl, rfl, small_line (by rw [e3]; omega), .ref a, rfl, a, k6, rfl, w6, by omega, fun i4 hi4 li4 H7 k7 f7 w7 l7 m7 => ⟨_, _, rfl, rfl, small_line (by rw [e4]; omega), (by show 5 ≤ sizeLine; decide), fun p4 n4 => ?_⟩⟩⟩
    have g4 : ∀ v ∈ [V.str (("target " : Str) ++ i3), .str "label a/b", .str "label a", .str (("file a " : Str) ++ i4), .str "file a 0"], Wd 40 v := fun v hv => by
      simp only [List.mem_cons, List.not_mem_nil, or_false] at hv
      rcases hv with rfl | rfl | rfl | rfl | rfl
      · exact wd_id (n := 7) (by decide +kernel) hi3 li3 (by decide)
      · exact wd_lit (by decide +kernel)
      · exact wd_lit (by decide +kernel)
      · exact wd_id (n := 7) (by decide +kernel) hi4 li4 (by decide)
      · exact wd_lit (by decide +kernel)
    have ll4 : [V.str (("target " : Str) ++ i3), .str "label a/b", .str "label a", .str (("file a " : Str) ++ i4), .str "file a 0"].length = 5 := rfl
    generalize [V.str (("target " : Str) ++ i3), .str "label a/b", .str "label a", .str (("file a " : Str) ++ i4), .str "file a 0"] = L4 at g4 ll4 ⊢
    have s8 := same_new (o := .lst L4) n4
    have h8 : (upd H7 p4 (.lst L4)) p4 = some (.lst L4) := upd_same
    have h5b := s8 _ _ ((f6.trans f7) _ _ np3 h5)
    have w8 := w7.same s8
    have F8 := (F5.trans (f6.trans f7)).trans (Fr.same (a := a) s8)
    generalize upd H7 p4 (.lst L4) = H8 at s8 h8 h5b w8 F8 ⊢
    refine ⟨p3, p4, _, _, rfl, rfl, h5b, h8, small_line (by omega), fun p5 n5 => ?_⟩
    have s9 := same_new (o := .lst (L3 ++ L4)) n5
    have h9 : (upd H8 p5 (.lst (L3 ++ L4))) p5 = some (.lst (L3 ++ L4)) := upd_same
    have w9 := w8.same s9
    have np5 := w8.ne n5
    have F9 := F8.trans (Fr.same (a := a) s9)
    have g5 := wd_app g3 g4
    have ll5 : (L3 ++ L4).length = 20 := by rw [List.length_append]; omega
    generalize upd H8 p5 (.lst (L3 ++ L4)) = H9 at s9 h9 w9 F9 ⊢
    generalize L3 ++ L4 = L5 at h9 g5 ll5 ⊢
    refine ⟨.ref a, rfl, .ref p5, rfl, .ref a, rfl, a, k7, rfl, w9, by omega, fun i5 hi5 li5 H10 k10 f10 w10 l10 m10 => ⟨_, _, rfl, rfl, small_line (by rw [e5]; omega), .ref a, rfl, a, k10, rfl, w10, by omega, fun i6 hi6 li6 H11 k11 f11 w11 l11 m11 => ⟨_, _, rfl, rfl, small_line (by rw [e6]; omega), (by show 5 ≤ sizeLine; decide), fun p6 n6 => ?_⟩⟩⟩
    have g6 : ∀ v ∈ [V.str (("link a " : Str) ++ i5), .str (("dir zz " : Str) ++ i6), .str " ", .str "file  a", .str "author "], Wd 40 v := fun v hv => by
      simp only [List.mem_cons, List.not_mem_nil, or_false] at hv
      rcases hv with rfl | rfl | rfl | rfl | rfl
      · exact wd_id (n := 7) (by decide +kernel) hi5 li5 (by decide)
      · exact wd_id (n := 7) (by decide +kernel) hi6 li6 (by decide)
      · exact wd_lit (by decide +kernel)
      · exact wd_lit (by decide +kernel)
      · exact wd_lit (by decide +kernel)
    have ll6 : [V.str (("link a " : Str) ++ i5), .str (("dir zz " : Str) ++ i6), .str " ", .str "file  a", .str "author "].length = 5 := rfl
    generalize [V.str (("link a " : Str) ++ i5), .str (("dir zz " : Str) ++ i6), .str " ", .str "file  a", .str "author "] = L6 at g6 ll6 ⊢
    have s12 := same_new (o := .lst L6) n6
    have h12 : (upd H11 p6 (.lst L6)) p6 = some (.lst L6) := upd_same
    have h9b := s12 _ _ ((f10.trans f11) _ _ np5 h9)
    have w12 := w11.same s12
    have F12 := (F9.trans (f10.trans f11)).trans (Fr.same (a := a) s12)
    generalize upd H11 p6 (.lst L6) = H12 at s12 h12 h9b w12 F12 ⊢
    refine ⟨p5, p6, _, _, rfl, rfl, h9b, h12, small_line (by omega), fun p7 n7 => ?_⟩
    have s13 := same_new (o := .lst (L5 ++ L6)) n7
    have w13 := w12.same s13
    have F13 := F12.trans (Fr.same (a := a) s13)
    have ll7 : (L5 ++ L6).length = 25 := by rw [List.length_append]; omega
    refine do_pick w13 upd_same (w12.ne n7) (by omega) (by omega) (by omega) fun v hv H14 k14 f14 w14 l14 m14 => ?_
    obtain ⟨x, rfl, px, lx⟩ := wd_app g5 g6 v hv
    exact q x px lx H14 k14 (F13.trans f14) w14 (by omega) (by omega)
end

end Fk

set_option maxHeartbeats 4000000
namespace Fk
open PySem PySem.Spec PyProof.Rows L2
theorem flen_sub {m ls : List Str} (h : m.Sublist ls) : flen m ≤ flen ls := by
  induction h with
  | slnil => exact Nat.le_refl _
  | cons a h ih => rw [flen_cons]; omega
  | cons_cons a h ih => rw [flen_cons, flen_cons]; omega
theorem flen_rev (m : List Str) : flen m.reverse = flen m := by
  induction m with
  | nil => rfl
  | cons a m ih => rw [List.reverse_cons, flen_app, ih, flen_cons, flen_cons, flen_nil]; omega
theorem cut_sub (ls : List Str) (lo hi : Option Int) : ∃ m : List Str, cutV (ls.map V.str) lo hi = m.map V.str ∧ m.Sublist ls := by
  unfold cutV
  rw [← List.map_drop, ← List.map_take]
  exact ⟨_, rfl, (List.take_sublist _ _).trans (List.drop_sublist _ _)⟩
theorem join_ok : ∀ (ps : List Str), (∀ p ∈ ps, PlL (TL.tl p)) → PlL (TL.tl (Txt.join "\n" ps)) ∧ (Txt.join "\n" ps).length ≤ flen ps := by
  intro ps h
  have e : TL.tl (Txt.join "\n" ps) = TL.joinL [10] (ps.map TL.tl) := by rw [TL.join_eq, TL.tl_join, nl_one]
  rw [TL.len_tl, e]
  clear e
  induction ps with
  | nil => exact ⟨fun u hu => (List.not_mem_nil hu).elim, Nat.zero_le _⟩
  | cons p ps ih =>
    have ih := ih fun q hq => h q (List.mem_cons_of_mem _ hq)
    have hp := h p List.mem_cons_self
    cases ps with
    | nil =>
      refine ⟨hp, ?_⟩
      rw [flen_cons, flen_nil, TL.len_tl]
      show (TL.tl p).length ≤ _
      omega
    | cons z ps =>
      have e : TL.joinL [10] ((p :: z :: ps).map TL.tl) = TL.tl p ++ ([10] ++ TL.joinL [10] ((z :: ps).map TL.tl)) := rfl
      rw [e]
      refine ⟨fun u hu => ?_, ?_⟩
      · rcases List.mem_append.mp hu with hu | hu
        · exact hp u hu
        · rcases List.mem_append.mp hu with hu | hu
          · rw [List.mem_singleton.mp hu]
            rfl
          · exact ih.1 u hu
      · rw [List.length_append, List.length_append, flen_cons, TL.len_tl]
        have := ih.2
        show _ + (1 + _) ≤ _
        omega
theorem sum_le (ps : List Str) : (ps.map (·.length)).sum + ps.length * ("\n" : Str).length = flen ps := by
  rw [nl_len, Nat.mul_one]
  induction ps with
  | nil => rfl
  | cons p ps ih => rw [List.map_cons, List.sum_cons, List.length_cons, flen_cons]; omega
theorem pl_cut {x : Str} (h : PlL (TL.tl x)) (lo hi : Option Int) : PlL (TL.tl (cutS x lo hi)) := fun u hu => by
  have : ∀ u ∈ TL.tl (cutS x lo hi), u ∈ TL.tl x := fun u hu => by
    unfold cutS at hu
    exact List.mem_of_mem_drop (List.mem_of_mem_take (show u ∈ ((TL.tl x).drop _).take _ from hu))
  exact h u (this u hu)
section
variable {P : Program} {w : World} {K : PySem.W.Frag} {mg : Str → Option Value} {base : Heap}
def spSpoilt : Sp := fun vs H Q _ => ∃ (a : Addr) (x : Str) (k : Int), vs = [.ref a, .str x] ∧ Wl H a k ∧ k < 2 ^ 36 ∧ PlL (TL.tl x) ∧ x.length ≤ 20000 ∧ ∀ y : Str, PlL (TL.tl y) → y.length ≤ 3 * x.length + 50 → ∀ H' k', Fr a H H' → Wl H' a k' → k ≤ k' → k' ≤ k + 300 → Q (.str y) H'
theorem c_l_spoilt (T : Top K mg) : C8.Cal P w K mg base 5 "_law_spoilt" spSpoilt [] := by
  refine cal_of T.d_l_spoilt sc_l_spoilt (fun _ _ _ _ _ _ us hl => match us, hl with | [_, _], _ => rfl) (fun vs H Q E h => ?_) (fun f cdv A outer s H vs Q E hr h => ?_)
  · obtain ⟨a, x, k, rfl, _⟩ := h
    rfl
  · obtain ⟨a, x, k, rfl, hw, hk, pl, hl, q⟩ := h
    have hk0 := hw.1
    refine ⟨_, (pss_cons (ps_set (i := 2) sc_l_spoilt.nd rfl (Or.inl rfl) (C8.pe_c (c_l_draw T) hr (by decide) (by rfl) (pa_cons (pv 0) (pa_cons pe_int pa_nil))))
      (pss_cons (ps_set (i := 3) sc_l_spoilt.nd rfl (Or.inl rfl) (pe_split (pv 1) pe_str))
      (pss_cons (ps_set (i := 4) sc_l_spoilt.nd rfl (Or.inl rfl) (C8.pe_c (c_l_draw T) hr (by decide) (by rfl) (pa_cons (pv 0) (pa_cons (pe_callB call_len_seq (by rfl) T.z_len (by decide +kernel) (pa_cons (pv 3) pa_nil)) pa_nil))))
      (pss_cons (ps_if (pt_cmpR op_eq (pv 2) pe_int (nomark _))
      (pss_one (ps_ret (pe_slice sl_str (pv 1) po_none (po_some (C8.pe_c (c_l_draw T) hr (by decide) (by rfl) (pa_cons (pv 0) (pa_cons (pe_op op_add (pe_callB call_len_str (by rfl) T.z_len (by decide +kernel) (pa_cons (pv 1) pa_nil)) pe_int) pa_nil)))))))
      pss_nil)
      (pss_cons (ps_if (pt_cmpR op_eq (pv 2) pe_int (nomark _))
      (pss_one (ps_ret (pe_join pe_str (pe_op op_cat (pe_slice sl_list (pv 3) po_none (po_some (pv 4))) (pe_slice sl_list (pv 3) (po_some (pe_op op_add (pv 4) pe_int)) po_none)))))
      pss_nil)
      (pss_cons (ps_if (pt_cmpR op_eq (pv 2) pe_int (nomark _))
      (pss_one (ps_ret (pe_join pe_str (pe_op op_cat (pe_op op_cat (pe_slice sl_list (pv 3) po_none (po_some (pv 4))) (pe_slice sl_list (pv 3) (po_some (pv 4)) (po_some (pe_op op_add (pv 4) pe_int)))) (pe_slice sl_list (pv 3) (po_some (pv 4)) po_none)))))
      pss_nil)
      (pss_cons (ps_if (pt_cmpR op_eq (pv 2) pe_int (nomark _))
      (pss_one (ps_ret (pe_join pe_str (pe_op op_cat (pe_op op_cat (pe_slice sl_list (pv 3) po_none (po_some (pv 4))) (pe_back (pe_slice sl_list (pv 3) (po_some (pv 4)) (po_some (pe_op op_add (pv 4) pe_int))) (pe_un un_neg pe_int))) (pe_slice sl_list (pv 3) (po_some (pe_op op_add (pv 4) pe_int)) po_none)))))
      pss_nil)
      (pss_cons (ps_if (pt_cmpR op_eq (pv 2) pe_int (nomark _))
      (pss_one (ps_ret (pe_join pe_str (pe_op op_cat (pe_op op_cat (pe_slice sl_list (pv 3) po_none (po_some (pv 4))) (pe_lst (pa_cons (C8.pe_c (c_l_other_line T) hr (by decide) (by rfl) (pa_cons (pv 0) pa_nil)) pa_nil))) (pe_slice sl_list (pv 3) (po_some (pv 4)) po_none)))))
      pss_nil)
      (pss_cons (ps_if (pt_cmpR op_eq (pv 2) pe_int (nomark _))
      (pss_one (ps_ret (pe_join pe_str (pe_op op_cat (pe_op op_cat (pe_slice sl_list (pv 3) po_none (po_some (pv 4))) (pe_lst (pa_cons (C8.pe_c (c_l_other_line T) hr (by decide) (by rfl) (pa_cons (pv 0) pa_nil)) pa_nil))) (pe_slice sl_list (pv 3) (po_some (pe_op op_add (pv 4) pe_int)) po_none)))))
      pss_nil)
      (pss_cons (ps_set (i := 5) sc_l_spoilt.nd rfl (Or.inl rfl) (C8.pe_c (c_l_draw T) hr (by decide) (by rfl) (pa_cons (pv 0) (pa_cons (pe_op op_add (pe_callB call_len_str (by rfl) T.z_len (by decide +kernel) (pa_cons (pv 1) pa_nil)) pe_int) pa_nil))))
      (pss_one (ps_ret (pe_op op_add_str (pe_op op_add_str (pe_slice sl_str (pv 1) po_none (po_some (pv 5))) (C8.pe_c (c_l_pick T) hr (by decide) (by rfl) (pa_cons (pv 0) (pa_cons (pe_lst (pa_cons pe_str (pa_cons pe_str (pa_cons pe_str (pa_cons pe_str (pa_cons pe_str (pa_cons pe_str (pa_cons pe_str pa_nil)))))))) pa_nil)))) (pe_slice sl_str (pv 1) (po_some (pe_op op_add (pv 5) (C8.pe_c (c_l_draw T) hr (by decide) (by rfl) (pa_cons (pv 0) (pa_cons pe_int pa_nil))))) po_none)))))))))))))), ?_⟩
    refine ⟨.ref a, rfl, do_draw hw (by decide) (by decide) (by omega) fun way hway H1 k1 f1 w1 l1 m1 => ?_⟩
    obtain ⟨js, jm, jn⟩ := join_split nl_one (by decide +kernel) x
    refine ⟨.str x, rfl, ⟨_, rfl⟩, _, _, rfl, rfl, by decide +kernel, by rw [sizeLine_eq]; omega, fun R hR => ?_⟩
    rw [show Txt.split x (Str.ofString "\n") = Txt.split x "\n" from rfl]
    have fx : flen (Txt.split x "\n") = x.length + 1 := by
      have e := congrArg Str.length js
      rw [TL.len_tl, TL.join_eq, TL.tl_join, nl_one] at e
      rw [← e]
      generalize Txt.split x "\n" = l at jn
      clear e
      induction l with
      | nil => exact absurd rfl jn
      | cons p l ih =>
        cases l with
        | nil =>
          rw [flen_cons, flen_nil, TL.len_tl]
          rfl
        | cons z l =>
          have ih := ih (by simp)
          rw [flen_cons, ih, TL.len_tl]
          show _ = (TL.tl p ++ ([10] ++ TL.joinL [10] ((z :: l).map TL.tl))).length + 1
          rw [List.length_append, List.length_append]
          show _ = _ + (1 + _) + 1
          omega
    generalize Txt.split x "\n" = ls at js jm jn fx ⊢
    have lp : ∀ p ∈ ls, PlL (TL.tl p) := fun p hp => pl.sub (jm p hp)
    have lln : ls.length ≤ x.length + 1 := by
      rw [← fx]
      exact len_flen ls
    have ll0 : 0 < ls.length := by
      cases ls with
      | nil => exact absurd rfl jn
      | cons p l => exact Nat.succ_pos _
    have s2 := same_new (o := .lst (ls.map V.str)) hR
    have h2 : (upd H1 R (.lst (ls.map V.str))) R = some (.lst (ls.map V.str)) := upd_same
    have w2 := w1.same s2
    have nR := w1.ne hR
    have F2 := f1.trans (Fr.same (a := a) s2)
    generalize upd H1 R (.lst (ls.map V.str)) = H2 at s2 h2 w2 F2 ⊢
    refine ⟨.ref a, rfl, .ref R, rfl, R, _, rfl, .inl (SqL.of h2), do_draw w2 (by rw [List.length_map]; omega) (by rw [List.length_map]; omega) (by omega) fun at_ hat H3 k3 f3 w3 l3 m3 => ?_⟩
    have h3 := f3 _ _ nR h2
    have F3 := F2.trans f3
    have fin : ∀ (ys : List Str) (H' : Hp) (k' : Int), (∀ p ∈ ys, PlL (TL.tl p)) → flen ys ≤ 3 * x.length + 50 → Fr a H H' → Wl H' a k' → k ≤ k' → k' ≤ k + 300 → Q (.str (Txt.join "\n" ys)) H' := fun ys H' k' hp hf f w l m => by
      obtain ⟨j1, j2⟩ := join_ok ys hp
      exact q _ j1 (by omega) H' k' f w l m
    have sub : ∀ {m : List Str}, m.Sublist ls → (∀ p ∈ m, PlL (TL.tl p)) ∧ flen m ≤ x.length + 1 ∧ m.length ≤ 20001 := fun {m} h => ⟨fun p hp => lp p (h.subset hp), by rw [← fx]; exact flen_sub h, by have := h.length_le; omega⟩
    refine ⟨.int way, rfl, rfl, _, rfl, ite2 (fun c => ?_) (fun c0 => ?_)⟩
    · refine ⟨.str x, rfl, .ref a, rfl, .str x, rfl, x, rfl, small_line (by omega), _, _, rfl, rfl, do_draw w3 (by omega) (by omega) (by omega) fun r hr1 H4 k4 f4 w4 l4 m4 => ⟨_, rfl, x, rfl, small_line (by omega), ?_⟩⟩
      refine q _ (pl_cut pl _ _) ?_ H4 k4 (F3.trans f4) w4 (by omega) (by omega)
      have := cutS_le x none (some (r : Int))
      omega
    refine ⟨.int way, rfl, rfl, _, rfl, ite2 (fun c => ?_) (fun c1 => ?_)⟩
    · obtain ⟨mp1, ep1, bp1⟩ := cut_sub ls none (some ((at_ : Nat) : Int))
      obtain ⟨xmp1, ymp1, zmp1⟩ := sub bp1
      refine ⟨⟨_, rfl⟩, .ref R, rfl, .int ((at_ : Nat) : Int), rfl, _, rfl, R, _, rfl, SqL.of h3, fun p1 np1 => ?_⟩
      rw [ep1]
      have S0 := same_new (o := .lst (mp1.map V.str)) np1
      have hp1 : (upd H3 p1 (.lst (mp1.map V.str))) p1 = some (.lst (mp1.map V.str)) := upd_same
      have W0 := w3.same S0
      have Np1 := w3.ne np1
      have G0 := F3.trans (Fr.same (a := a) S0)
      have R0 := S0 _ _ h3
      generalize upd H3 p1 (.lst (mp1.map V.str)) = J0 at S0 hp1 W0 G0 R0 ⊢
      obtain ⟨mp2, ep2, bp2⟩ := cut_sub ls (some (((at_ : Nat) : Int) + 1)) none
      obtain ⟨xmp2, ymp2, zmp2⟩ := sub bp2
      refine ⟨.ref R, rfl, .int ((at_ : Nat) : Int), rfl, _, _, rfl, rfl, _, rfl, R, _, rfl, SqL.of R0, fun p2 np2 => ?_⟩
      rw [ep2]
      have S1 := same_new (o := .lst (mp2.map V.str)) np2
      have hp2 : (upd J0 p2 (.lst (mp2.map V.str))) p2 = some (.lst (mp2.map V.str)) := upd_same
      have W1 := W0.same S1
      have Np2 := W0.ne np2
      have G1 := G0.trans (Fr.same (a := a) S1)
      have R1 := S1 _ _ R0
      have hp11 := S1 _ _ hp1
      generalize upd J0 p2 (.lst (mp2.map V.str)) = J1 at S1 hp2 W1 G1 R1 hp11 ⊢
      refine ⟨p1, p2, _, _, rfl, rfl, hp11, hp2, small_line (by simp only [List.length_map, List.length_append, List.length_reverse, List.length_cons, List.length_nil]; omega), fun p3 np3 => ?_⟩
      rw [← List.map_append]
      have S2 := same_new (o := .lst ((mp1 ++ mp2).map V.str)) np3
      have hp3 : (upd J1 p3 (.lst ((mp1 ++ mp2).map V.str))) p3 = some (.lst ((mp1 ++ mp2).map V.str)) := upd_same
      have W2 := W1.same S2
      have Np3 := W1.ne np3
      have G2 := G1.trans (Fr.same (a := a) S2)
      have R2 := S2 _ _ R1
      have hp112 := S2 _ _ hp11
      have hp22 := S2 _ _ hp2
      generalize upd J1 p3 (.lst ((mp1 ++ mp2).map V.str)) = J2 at S2 hp3 W2 G2 R2 hp112 hp22 ⊢
      have fl : flen (mp1 ++ mp2) ≤ 3 * x.length + 50 := by
        simp only [flen_app, flen_rev, flen_cons, flen_nil]
        omega
      have pm : ∀ p ∈ (mp1 ++ mp2), PlL (TL.tl p) := fun p hp => by
        simp only [List.mem_append, List.mem_reverse, List.mem_singleton] at hp
        rcases hp with hp | hp
        · exact xmp1 p hp
        · exact xmp2 p hp
      refine ⟨("\n" : Str), p3, (mp1 ++ mp2), rfl, rfl, .inl (SqL.of hp3), by rw [sum_le]; omega, fin (mp1 ++ mp2) _ _ pm fl G2 W2 (by omega) (by omega)⟩
    refine ⟨.int way, rfl, rfl, _, rfl, ite2 (fun c => ?_) (fun c2 => ?_)⟩
    · obtain ⟨mp1, ep1, bp1⟩ := cut_sub ls none (some ((at_ : Nat) : Int))
      obtain ⟨xmp1, ymp1, zmp1⟩ := sub bp1
      refine ⟨⟨_, rfl⟩, .ref R, rfl, .int ((at_ : Nat) : Int), rfl, _, rfl, R, _, rfl, SqL.of h3, fun p1 np1 => ?_⟩
      rw [ep1]
      have S0 := same_new (o := .lst (mp1.map V.str)) np1
      have hp1 : (upd H3 p1 (.lst (mp1.map V.str))) p1 = some (.lst (mp1.map V.str)) := upd_same
      have W0 := w3.same S0
      have Np1 := w3.ne np1
      have G0 := F3.trans (Fr.same (a := a) S0)
      have R0 := S0 _ _ h3
      generalize upd H3 p1 (.lst (mp1.map V.str)) = J0 at S0 hp1 W0 G0 R0 ⊢
      obtain ⟨mp2, ep2, bp2⟩ := cut_sub ls (some ((at_ : Nat) : Int)) (some (((at_ : Nat) : Int) + 1))
      obtain ⟨xmp2, ymp2, zmp2⟩ := sub bp2
      refine ⟨.ref R, rfl, .int ((at_ : Nat) : Int), rfl, _, rfl, .int ((at_ : Nat) : Int), rfl, _, _, rfl, rfl, _, rfl, R, _, rfl, SqL.of R0, fun p2 np2 => ?_⟩
      rw [ep2]
      have S1 := same_new (o := .lst (mp2.map V.str)) np2
      have hp2 : (upd J0 p2 (.lst (mp2.map V.str))) p2 = some (.lst (mp2.map V.str)) := upd_same
      have W1 := W0.same S1
      have Np2 := W0.ne np2
      have G1 := G0.trans (Fr.same (a := a) S1)
      have R1 := S1 _ _ R0
      have hp11 := S1 _ _ hp1
      generalize upd J0 p2 (.lst (mp2.map V.str)) = J1 at S1 hp2 W1 G1 R1 hp11 ⊢
      refine ⟨p1, p2, _, _, rfl, rfl, hp11, hp2, small_line (by simp only [List.length_map, List.length_append, List.length_reverse, List.length_cons, List.length_nil]; omega), fun p3 np3 => ?_⟩
      rw [← List.map_append]
      have S2 := same_new (o := .lst ((mp1 ++ mp2).map V.str)) np3
      have hp3 : (upd J1 p3 (.lst ((mp1 ++ mp2).map V.str))) p3 = some (.lst ((mp1 ++ mp2).map V.str)) := upd_same
      have W2 := W1.same S2
      have Np3 := W1.ne np3
      have G2 := G1.trans (Fr.same (a := a) S2)
      have R2 := S2 _ _ R1
      have hp112 := S2 _ _ hp11
      have hp22 := S2 _ _ hp2
      generalize upd J1 p3 (.lst ((mp1 ++ mp2).map V.str)) = J2 at S2 hp3 W2 G2 R2 hp112 hp22 ⊢
      obtain ⟨mp4, ep4, bp4⟩ := cut_sub ls (some ((at_ : Nat) : Int)) none
      obtain ⟨xmp4, ymp4, zmp4⟩ := sub bp4
      refine ⟨.ref R, rfl, .int ((at_ : Nat) : Int), rfl, _, rfl, R, _, rfl, SqL.of R2, fun p4 np4 => ?_⟩
      rw [ep4]
      have S3 := same_new (o := .lst (mp4.map V.str)) np4
      have hp4 : (upd J2 p4 (.lst (mp4.map V.str))) p4 = some (.lst (mp4.map V.str)) := upd_same
      have W3 := W2.same S3
      have Np4 := W2.ne np4
      have G3 := G2.trans (Fr.same (a := a) S3)
      have R3 := S3 _ _ R2
      have hp1123 := S3 _ _ hp112
      have hp223 := S3 _ _ hp22
      have hp33 := S3 _ _ hp3
      generalize upd J2 p4 (.lst (mp4.map V.str)) = J3 at S3 hp4 W3 G3 R3 hp1123 hp223 hp33 ⊢
      refine ⟨p3, p4, _, _, rfl, rfl, hp33, hp4, small_line (by simp only [List.length_map, List.length_append, List.length_reverse, List.length_cons, List.length_nil]; omega), fun p5 np5 => ?_⟩
      rw [← List.map_append]
      have S4 := same_new (o := .lst (((mp1 ++ mp2) ++ mp4).map V.str)) np5
      have hp5 : (upd J3 p5 (.lst (((mp1 ++ mp2) ++ mp4).map V.str))) p5 = some (.lst (((mp1 ++ mp2) ++ mp4).map V.str)) := upd_same
      have W4 := W3.same S4
      have Np5 := W3.ne np5
      have G4 := G3.trans (Fr.same (a := a) S4)
      have R4 := S4 _ _ R3
      have hp11234 := S4 _ _ hp1123
      have hp2234 := S4 _ _ hp223
      have hp334 := S4 _ _ hp33
      have hp44 := S4 _ _ hp4
      generalize upd J3 p5 (.lst (((mp1 ++ mp2) ++ mp4).map V.str)) = J4 at S4 hp5 W4 G4 R4 hp11234 hp2234 hp334 hp44 ⊢
      have fl : flen ((mp1 ++ mp2) ++ mp4) ≤ 3 * x.length + 50 := by
        simp only [flen_app, flen_rev, flen_cons, flen_nil]
        omega
      have pm : ∀ p ∈ ((mp1 ++ mp2) ++ mp4), PlL (TL.tl p) := fun p hp => by
        simp only [List.mem_append, List.mem_reverse, List.mem_singleton] at hp
        rcases hp with (hp | hp) | hp
        · exact xmp1 p hp
        · exact xmp2 p hp
        · exact xmp4 p hp
      refine ⟨("\n" : Str), p5, ((mp1 ++ mp2) ++ mp4), rfl, rfl, .inl (SqL.of hp5), by rw [sum_le]; omega, fin ((mp1 ++ mp2) ++ mp4) _ _ pm fl G4 W4 (by omega) (by omega)⟩
    refine ⟨.int way, rfl, rfl, _, rfl, ite2 (fun c => ?_) (fun c3 => ?_)⟩
    · obtain ⟨mp1, ep1, bp1⟩ := cut_sub ls none (some ((at_ : Nat) : Int))
      obtain ⟨xmp1, ymp1, zmp1⟩ := sub bp1
      refine ⟨⟨_, rfl⟩, .ref R, rfl, .int ((at_ : Nat) : Int), rfl, _, rfl, R, _, rfl, SqL.of h3, fun p1 np1 => ?_⟩
      rw [ep1]
      have S0 := same_new (o := .lst (mp1.map V.str)) np1
      have hp1 : (upd H3 p1 (.lst (mp1.map V.str))) p1 = some (.lst (mp1.map V.str)) := upd_same
      have W0 := w3.same S0
      have Np1 := w3.ne np1
      have G0 := F3.trans (Fr.same (a := a) S0)
      have R0 := S0 _ _ h3
      generalize upd H3 p1 (.lst (mp1.map V.str)) = J0 at S0 hp1 W0 G0 R0 ⊢
      obtain ⟨mp2, ep2, bp2⟩ := cut_sub ls (some ((at_ : Nat) : Int)) (some (((at_ : Nat) : Int) + 2))
      obtain ⟨xmp2, ymp2, zmp2⟩ := sub bp2
      refine ⟨.ref R, rfl, .int ((at_ : Nat) : Int), rfl, _, rfl, .int ((at_ : Nat) : Int), rfl, _, _, rfl, rfl, _, rfl, R, _, rfl, SqL.of R0, fun p2 np2 => ?_⟩
      rw [ep2]
      have S1 := same_new (o := .lst (mp2.map V.str)) np2
      have hp2 : (upd J0 p2 (.lst (mp2.map V.str))) p2 = some (.lst (mp2.map V.str)) := upd_same
      have W1 := W0.same S1
      have Np2 := W0.ne np2
      have G1 := G0.trans (Fr.same (a := a) S1)
      have R1 := S1 _ _ R0
      have hp11 := S1 _ _ hp1
      generalize upd J0 p2 (.lst (mp2.map V.str)) = J1 at S1 hp2 W1 G1 R1 hp11 ⊢
      refine ⟨1, rfl, rfl, .inl ⟨p2, _, rfl, SqL.of hp2, fun p3 np3 => ?_⟩⟩
      rw [← List.map_reverse]
      have S2 := same_new (o := .lst (mp2.reverse.map V.str)) np3
      have hp3 : (upd J1 p3 (.lst (mp2.reverse.map V.str))) p3 = some (.lst (mp2.reverse.map V.str)) := upd_same
      have W2 := W1.same S2
      have Np3 := W1.ne np3
      have G2 := G1.trans (Fr.same (a := a) S2)
      have R2 := S2 _ _ R1
      have hp112 := S2 _ _ hp11
      have hp22 := S2 _ _ hp2
      generalize upd J1 p3 (.lst (mp2.reverse.map V.str)) = J2 at S2 hp3 W2 G2 R2 hp112 hp22 ⊢
      refine ⟨p1, p3, _, _, rfl, rfl, hp112, hp3, small_line (by simp only [List.length_map, List.length_append, List.length_reverse, List.length_cons, List.length_nil]; omega), fun p4 np4 => ?_⟩
      rw [← List.map_append]
      have S3 := same_new (o := .lst ((mp1 ++ mp2.reverse).map V.str)) np4
      have hp4 : (upd J2 p4 (.lst ((mp1 ++ mp2.reverse).map V.str))) p4 = some (.lst ((mp1 ++ mp2.reverse).map V.str)) := upd_same
      have W3 := W2.same S3
      have Np4 := W2.ne np4
      have G3 := G2.trans (Fr.same (a := a) S3)
      have R3 := S3 _ _ R2
      have hp1123 := S3 _ _ hp112
      have hp223 := S3 _ _ hp22
      have hp33 := S3 _ _ hp3
      generalize upd J2 p4 (.lst ((mp1 ++ mp2.reverse).map V.str)) = J3 at S3 hp4 W3 G3 R3 hp1123 hp223 hp33 ⊢
      obtain ⟨mp5, ep5, bp5⟩ := cut_sub ls (some (((at_ : Nat) : Int) + 2)) none
      obtain ⟨xmp5, ymp5, zmp5⟩ := sub bp5
      refine ⟨.ref R, rfl, .int ((at_ : Nat) : Int), rfl, _, _, rfl, rfl, _, rfl, R, _, rfl, SqL.of R3, fun p5 np5 => ?_⟩
      rw [ep5]
      have S4 := same_new (o := .lst (mp5.map V.str)) np5
      have hp5 : (upd J3 p5 (.lst (mp5.map V.str))) p5 = some (.lst (mp5.map V.str)) := upd_same
      have W4 := W3.same S4
      have Np5 := W3.ne np5
      have G4 := G3.trans (Fr.same (a := a) S4)
      have R4 := S4 _ _ R3
      have hp11234 := S4 _ _ hp1123
      have hp2234 := S4 _ _ hp223
      have hp334 := S4 _ _ hp33
      have hp44 := S4 _ _ hp4
      generalize upd J3 p5 (.lst (mp5.map V.str)) = J4 at S4 hp5 W4 G4 R4 hp11234 hp2234 hp334 hp44 ⊢
      refine ⟨p4, p5, _, _, rfl, rfl, hp44, hp5, small_line (by simp only [List.length_map, List.length_append, List.length_reverse, List.length_cons, List.length_nil]; omega), fun p6 np6 => ?_⟩
      rw [← List.map_append]
      have S5 := same_new (o := .lst (((mp1 ++ mp2.reverse) ++ mp5).map V.str)) np6
      have hp6 : (upd J4 p6 (.lst (((mp1 ++ mp2.reverse) ++ mp5).map V.str))) p6 = some (.lst (((mp1 ++ mp2.reverse) ++ mp5).map V.str)) := upd_same
      have W5 := W4.same S5
      have Np6 := W4.ne np6
      have G5 := G4.trans (Fr.same (a := a) S5)
      have R5 := S5 _ _ R4
      have hp112345 := S5 _ _ hp11234
      have hp22345 := S5 _ _ hp2234
      have hp3345 := S5 _ _ hp334
      have hp445 := S5 _ _ hp44
      have hp55 := S5 _ _ hp5
      generalize upd J4 p6 (.lst (((mp1 ++ mp2.reverse) ++ mp5).map V.str)) = J5 at S5 hp6 W5 G5 R5 hp112345 hp22345 hp3345 hp445 hp55 ⊢
      have fl : flen ((mp1 ++ mp2.reverse) ++ mp5) ≤ 3 * x.length + 50 := by
        simp only [flen_app, flen_rev, flen_cons, flen_nil]
        omega
      have pm : ∀ p ∈ ((mp1 ++ mp2.reverse) ++ mp5), PlL (TL.tl p) := fun p hp => by
        simp only [List.mem_append, List.mem_reverse, List.mem_singleton] at hp
        rcases hp with (hp | hp) | hp
        · exact xmp1 p hp
        · exact xmp2 p hp
        · exact xmp5 p hp
      refine ⟨("\n" : Str), p6, ((mp1 ++ mp2.reverse) ++ mp5), rfl, rfl, .inl (SqL.of hp6), by rw [sum_le]; omega, fin ((mp1 ++ mp2.reverse) ++ mp5) _ _ pm fl G5 W5 (by omega) (by omega)⟩
    refine ⟨.int way, rfl, rfl, _, rfl, ite2 (fun c => ?_) (fun c4 => ?_)⟩
    · obtain ⟨mp1, ep1, bp1⟩ := cut_sub ls none (some ((at_ : Nat) : Int))
      obtain ⟨xmp1, ymp1, zmp1⟩ := sub bp1
      refine ⟨⟨_, rfl⟩, .ref R, rfl, .int ((at_ : Nat) : Int), rfl, _, rfl, R, _, rfl, SqL.of h3, fun p1 np1 => ?_⟩
      rw [ep1]
      have S0 := same_new (o := .lst (mp1.map V.str)) np1
      have hp1 : (upd H3 p1 (.lst (mp1.map V.str))) p1 = some (.lst (mp1.map V.str)) := upd_same
      have W0 := w3.same S0
      have Np1 := w3.ne np1
      have G0 := F3.trans (Fr.same (a := a) S0)
      have R0 := S0 _ _ h3
      generalize upd H3 p1 (.lst (mp1.map V.str)) = J0 at S0 hp1 W0 G0 R0 ⊢
      refine ⟨.ref a, rfl, a, _, rfl, W0, by omega, fun z pz lz HZ KZ fz wz lz1 mz => ⟨(by show 1 ≤ sizeLine; decide), fun pZ npZ => ?_⟩⟩
      rw [show ([V.str z] : List V) = [z].map V.str from rfl]
      have hp1z := fz _ _ Np1 hp1
      have Rz := fz _ _ nR R0
      have Gz := G0.trans fz
      have S1 := same_new (o := .lst ([z].map V.str)) npZ
      have hpZ : (upd HZ pZ (.lst ([z].map V.str))) pZ = some (.lst ([z].map V.str)) := upd_same
      have W1 := wz.same S1
      have NpZ := wz.ne npZ
      have G1 := Gz.trans (Fr.same (a := a) S1)
      have R1 := S1 _ _ Rz
      have hp1z1 := S1 _ _ hp1z
      generalize upd HZ pZ (.lst ([z].map V.str)) = J1 at S1 hpZ W1 G1 R1 hp1z1 ⊢
      refine ⟨p1, pZ, _, _, rfl, rfl, hp1z1, hpZ, small_line (by simp only [List.length_map, List.length_append, List.length_reverse, List.length_cons, List.length_nil]; omega), fun p2 np2 => ?_⟩
      rw [← List.map_append]
      have S2 := same_new (o := .lst ((mp1 ++ [z]).map V.str)) np2
      have hp2 : (upd J1 p2 (.lst ((mp1 ++ [z]).map V.str))) p2 = some (.lst ((mp1 ++ [z]).map V.str)) := upd_same
      have W2 := W1.same S2
      have Np2 := W1.ne np2
      have G2 := G1.trans (Fr.same (a := a) S2)
      have R2 := S2 _ _ R1
      have hp1z12 := S2 _ _ hp1z1
      have hpZ2 := S2 _ _ hpZ
      generalize upd J1 p2 (.lst ((mp1 ++ [z]).map V.str)) = J2 at S2 hp2 W2 G2 R2 hp1z12 hpZ2 ⊢
      obtain ⟨mp3, ep3, bp3⟩ := cut_sub ls (some ((at_ : Nat) : Int)) none
      obtain ⟨xmp3, ymp3, zmp3⟩ := sub bp3
      refine ⟨.ref R, rfl, .int ((at_ : Nat) : Int), rfl, _, rfl, R, _, rfl, SqL.of R2, fun p3 np3 => ?_⟩
      rw [ep3]
      have S3 := same_new (o := .lst (mp3.map V.str)) np3
      have hp3 : (upd J2 p3 (.lst (mp3.map V.str))) p3 = some (.lst (mp3.map V.str)) := upd_same
      have W3 := W2.same S3
      have Np3 := W2.ne np3
      have G3 := G2.trans (Fr.same (a := a) S3)
      have R3 := S3 _ _ R2
      have hp1z123 := S3 _ _ hp1z12
      have hpZ23 := S3 _ _ hpZ2
      have hp23 := S3 _ _ hp2
      generalize upd J2 p3 (.lst (mp3.map V.str)) = J3 at S3 hp3 W3 G3 R3 hp1z123 hpZ23 hp23 ⊢
      refine ⟨p2, p3, _, _, rfl, rfl, hp23, hp3, small_line (by simp only [List.length_map, List.length_append, List.length_reverse, List.length_cons, List.length_nil]; omega), fun p4 np4 => ?_⟩
      rw [← List.map_append]
      have S4 := same_new (o := .lst (((mp1 ++ [z]) ++ mp3).map V.str)) np4
      have hp4 : (upd J3 p4 (.lst (((mp1 ++ [z]) ++ mp3).map V.str))) p4 = some (.lst (((mp1 ++ [z]) ++ mp3).map V.str)) := upd_same
      have W4 := W3.same S4
      have Np4 := W3.ne np4
      have G4 := G3.trans (Fr.same (a := a) S4)
      have R4 := S4 _ _ R3
      have hp1z1234 := S4 _ _ hp1z123
      have hpZ234 := S4 _ _ hpZ23
      have hp234 := S4 _ _ hp23
      have hp34 := S4 _ _ hp3
      generalize upd J3 p4 (.lst (((mp1 ++ [z]) ++ mp3).map V.str)) = J4 at S4 hp4 W4 G4 R4 hp1z1234 hpZ234 hp234 hp34 ⊢
      have fl : flen ((mp1 ++ [z]) ++ mp3) ≤ 3 * x.length + 50 := by
        simp only [flen_app, flen_rev, flen_cons, flen_nil]
        omega
      have pm : ∀ p ∈ ((mp1 ++ [z]) ++ mp3), PlL (TL.tl p) := fun p hp => by
        simp only [List.mem_append, List.mem_reverse, List.mem_singleton] at hp
        rcases hp with (hp | hp) | hp
        · exact xmp1 p hp
        · rw [hp]; exact pz
        · exact xmp3 p hp
      refine ⟨("\n" : Str), p4, ((mp1 ++ [z]) ++ mp3), rfl, rfl, .inl (SqL.of hp4), by rw [sum_le]; omega, fin ((mp1 ++ [z]) ++ mp3) _ _ pm fl G4 W4 (by omega) (by omega)⟩
    refine ⟨.int way, rfl, rfl, _, rfl, ite2 (fun c => ?_) (fun c5 => ?_)⟩
    · obtain ⟨mp1, ep1, bp1⟩ := cut_sub ls none (some ((at_ : Nat) : Int))
      obtain ⟨xmp1, ymp1, zmp1⟩ := sub bp1
      refine ⟨⟨_, rfl⟩, .ref R, rfl, .int ((at_ : Nat) : Int), rfl, _, rfl, R, _, rfl, SqL.of h3, fun p1 np1 => ?_⟩
      rw [ep1]
      have S0 := same_new (o := .lst (mp1.map V.str)) np1
      have hp1 : (upd H3 p1 (.lst (mp1.map V.str))) p1 = some (.lst (mp1.map V.str)) := upd_same
      have W0 := w3.same S0
      have Np1 := w3.ne np1
      have G0 := F3.trans (Fr.same (a := a) S0)
      have R0 := S0 _ _ h3
      generalize upd H3 p1 (.lst (mp1.map V.str)) = J0 at S0 hp1 W0 G0 R0 ⊢
      refine ⟨.ref a, rfl, a, _, rfl, W0, by omega, fun z pz lz HZ KZ fz wz lz1 mz => ⟨(by show 1 ≤ sizeLine; decide), fun pZ npZ => ?_⟩⟩
      rw [show ([V.str z] : List V) = [z].map V.str from rfl]
      have hp1z := fz _ _ Np1 hp1
      have Rz := fz _ _ nR R0
      have Gz := G0.trans fz
      have S1 := same_new (o := .lst ([z].map V.str)) npZ
      have hpZ : (upd HZ pZ (.lst ([z].map V.str))) pZ = some (.lst ([z].map V.str)) := upd_same
      have W1 := wz.same S1
      have NpZ := wz.ne npZ
      have G1 := Gz.trans (Fr.same (a := a) S1)
      have R1 := S1 _ _ Rz
      have hp1z1 := S1 _ _ hp1z
      generalize upd HZ pZ (.lst ([z].map V.str)) = J1 at S1 hpZ W1 G1 R1 hp1z1 ⊢
      refine ⟨p1, pZ, _, _, rfl, rfl, hp1z1, hpZ, small_line (by simp only [List.length_map, List.length_append, List.length_reverse, List.length_cons, List.length_nil]; omega), fun p2 np2 => ?_⟩
      rw [← List.map_append]
      have S2 := same_new (o := .lst ((mp1 ++ [z]).map V.str)) np2
      have hp2 : (upd J1 p2 (.lst ((mp1 ++ [z]).map V.str))) p2 = some (.lst ((mp1 ++ [z]).map V.str)) := upd_same
      have W2 := W1.same S2
      have Np2 := W1.ne np2
      have G2 := G1.trans (Fr.same (a := a) S2)
      have R2 := S2 _ _ R1
      have hp1z12 := S2 _ _ hp1z1
      have hpZ2 := S2 _ _ hpZ
      generalize upd J1 p2 (.lst ((mp1 ++ [z]).map V.str)) = J2 at S2 hp2 W2 G2 R2 hp1z12 hpZ2 ⊢
      obtain ⟨mp3, ep3, bp3⟩ := cut_sub ls (some (((at_ : Nat) : Int) + 1)) none
      obtain ⟨xmp3, ymp3, zmp3⟩ := sub bp3
      refine ⟨.ref R, rfl, .int ((at_ : Nat) : Int), rfl, _, _, rfl, rfl, _, rfl, R, _, rfl, SqL.of R2, fun p3 np3 => ?_⟩
      rw [ep3]
      have S3 := same_new (o := .lst (mp3.map V.str)) np3
      have hp3 : (upd J2 p3 (.lst (mp3.map V.str))) p3 = some (.lst (mp3.map V.str)) := upd_same
      have W3 := W2.same S3
      have Np3 := W2.ne np3
      have G3 := G2.trans (Fr.same (a := a) S3)
      have R3 := S3 _ _ R2
      have hp1z123 := S3 _ _ hp1z12
      have hpZ23 := S3 _ _ hpZ2
      have hp23 := S3 _ _ hp2
      generalize upd J2 p3 (.lst (mp3.map V.str)) = J3 at S3 hp3 W3 G3 R3 hp1z123 hpZ23 hp23 ⊢
      refine ⟨p2, p3, _, _, rfl, rfl, hp23, hp3, small_line (by simp only [List.length_map, List.length_append, List.length_reverse, List.length_cons, List.length_nil]; omega), fun p4 np4 => ?_⟩
      rw [← List.map_append]
      have S4 := same_new (o := .lst (((mp1 ++ [z]) ++ mp3).map V.str)) np4
      have hp4 : (upd J3 p4 (.lst (((mp1 ++ [z]) ++ mp3).map V.str))) p4 = some (.lst (((mp1 ++ [z]) ++ mp3).map V.str)) := upd_same
      have W4 := W3.same S4
      have Np4 := W3.ne np4
      have G4 := G3.trans (Fr.same (a := a) S4)
      have R4 := S4 _ _ R3
      have hp1z1234 := S4 _ _ hp1z123
      have hpZ234 := S4 _ _ hpZ23
      have hp234 := S4 _ _ hp23
      have hp34 := S4 _ _ hp3
      generalize upd J3 p4 (.lst (((mp1 ++ [z]) ++ mp3).map V.str)) = J4 at S4 hp4 W4 G4 R4 hp1z1234 hpZ234 hp234 hp34 ⊢
      have fl : flen ((mp1 ++ [z]) ++ mp3) ≤ 3 * x.length + 50 := by
        simp only [flen_app, flen_rev, flen_cons, flen_nil]
        omega
      have pm : ∀ p ∈ ((mp1 ++ [z]) ++ mp3), PlL (TL.tl p) := fun p hp => by
        simp only [List.mem_append, List.mem_reverse, List.mem_singleton] at hp
        rcases hp with (hp | hp) | hp
        · exact xmp1 p hp
        · rw [hp]; exact pz
        · exact xmp3 p hp
      refine ⟨("\n" : Str), p4, ((mp1 ++ [z]) ++ mp3), rfl, rfl, .inl (SqL.of hp4), by rw [sum_le]; omega, fin ((mp1 ++ [z]) ++ mp3) _ _ pm fl G4 W4 (by omega) (by omega)⟩
    refine ⟨.ref a, rfl, .str x, rfl, x, rfl, small_line (by omega), _, _, rfl, rfl, do_draw w3 (by omega) (by omega) (by omega) fun wh hwh H4 k4 f4 w4 l4 m4 => ?_⟩
    refine ⟨.str x, rfl, .int ((wh : Nat) : Int), rfl, _, rfl, x, rfl, small_line (by omega), .ref a, rfl, (by show 7 ≤ sizeLine; decide), fun p1 n1 => ?_⟩
    have s5 := same_new (o := .lst ((["a", "0", " ", "\n", "g", "/", ""] : List Str).map V.str)) n1
    refine do_pick (xs := (["a", "0", " ", "\n", "g", "/", ""] : List Str).map V.str) (w4.same s5) upd_same (w4.ne n1) (by decide) (by decide) (by omega) fun v hv H6 k6 f6 w6 l6 m6 => ?_
    obtain ⟨z, rfl, pz, lz⟩ := wd_lits (n := 1) (l := ["a", "0", " ", "\n", "g", "/", ""]) (by decide +kernel) v hv
    have c1 := cutS_le x none (some ((wh : Nat) : Int))
    refine ⟨_, _, rfl, rfl, small_line (by omega), .str x, rfl, .int ((wh : Nat) : Int), rfl, .ref a, rfl, do_draw w6 (by decide) (by decide) (by omega) fun r hr1 H7 k7 f7 w7 l7 m7 => ⟨_, _, rfl, rfl, _, rfl, x, rfl, small_line (by omega), ?_⟩⟩
    have c2 := cutS_le x (some (((wh : Nat) : Int) + ((r : Nat) : Int))) none
    refine ⟨_, _, rfl, rfl, small_line (by rw [len_app]; omega), ?_⟩
    refine q _ (pl_app (pl_app (pl_cut pl _ _) pz) (pl_cut pl _ _)) (by rw [len_app, len_app]; omega) H7 k7 (((F3.trans f4).trans (Fr.same s5)).trans (f6.trans f7)) w7 (by omega) (by omega)
end

end Fk

set_option maxHeartbeats 4000000
namespace Fk
open PySem PySem.Spec PyProof.Rows L2
theorem notInK {X : Cx} {K : PySem.W.Frag} (h : X.K = K) : OpR X (compareOp .NotIn) (rIn K true) := h ▸ op_notIn_seq
theorem cutV_to {α : Type} (l : List α) (g : α → V) (k : Nat) : cutV (l.map g) none (some (k : Int)) = (l.take k).map g := by
  unfold cutV
  rw [HT.sIx_none, HT.sIx_nat, List.drop_zero, Nat.sub_zero, List.map_take]
  rcases Nat.le_total k (l.map g).length with h | h
  · rw [Nat.min_eq_left h]
  · rw [Nat.min_eq_right h, List.take_length, List.take_of_length_le h]
/-- the places whose text stands nowhere ahead -/
def newP (qs : List Str) (k : Nat) : Bool := !inV (V.str (qs.getD k "")) (cutV (qs.map V.str) none (some (0 + (k : Int))))
def uniqF (qs : List Str) (n : Nat) : List Str := ((List.range n).filter (newP qs)).map fun k => qs.getD k ""
theorem newP_no {qs : List Str} {a b : Nat} (hab : a < b) (hb : b < qs.length) (p : newP qs b = true) : qs.getD a "" ≠ qs.getD b "" := fun e => by
  unfold newP at p
  have c : inV (V.str (qs.getD b "")) (cutV (qs.map V.str) none (some (0 + (b : Int)))) = true := by
    rw [show (0 : Int) + (b : Int) = ((b : Nat) : Int) by omega, cutV_to]
    unfold inV
    rw [List.any_eq_true]
    refine ⟨.str (qs.getD a ""), List.mem_map.mpr ⟨qs.getD a "", ?_, rfl⟩, ?_⟩
    · rw [List.getD_eq_getElem?_getD, List.getElem?_eq_getElem (by omega)]
      exact List.mem_iff_getElem.mpr ⟨a, by rw [List.length_take]; omega, by rw [List.getElem_take]; rfl⟩
    · rw [e]
      show (qs.getD b "" == qs.getD b "") = true
      exact beq_self_eq_true _
  rw [c] at p
  cases p
theorem uniq_nd (qs : List Str) : (uniqF qs qs.length).Nodup := by
  refine List.pairwise_map.mpr (List.pairwise_filter.mpr ((List.pairwise_lt_range).imp_of_mem fun {a b} ha hb hlt pa pb => ?_))
  exact newP_no hlt (List.mem_range.mp hb) pb
theorem uniq_mem {qs : List Str} {x : Str} (h : x ∈ uniqF qs qs.length) : x ∈ qs := by
  obtain ⟨k, hk, rfl⟩ := List.mem_map.mp h
  have := List.mem_range.mp (List.mem_filter.mp hk).1
  rw [List.getD_eq_getElem?_getD, List.getElem?_eq_getElem this]
  exact List.getElem_mem this
theorem uniq_len (qs : List Str) (n : Nat) : (uniqF qs n).length ≤ n := by
  unfold uniqF
  rw [List.length_map]
  exact Nat.le_trans (List.length_filter_le _ _) (by rw [List.length_range]; exact Nat.le_refl _)
theorem tag_same (tg lb ms : Str) : ((((("tag\ntarget " : Str) ++ tg) ++ ("\nlabel " : Str)) ++ lb) ++ ("\n\n" : Str)) ++ ms = encF (.tag tg lb ms) := str_ext (by
  show TL.tl _ = TL.tl (tagF tg lb ms)
  unfold tagF
  simp only [TL.tl_append, (lits_all).2.2.2.2.2.1, List.nil_append])
theorem uniq_pw {qs : List Str} (h : qs.Pairwise leS) : (uniqF qs qs.length).Pairwise leS := by
  refine List.pairwise_map.mpr (List.pairwise_filter.mpr ((List.pairwise_lt_range).imp_of_mem fun {a b} ha hb hlt _ _ => ?_))
  have ha := List.mem_range.mp ha
  have hb := List.mem_range.mp hb
  rw [List.getD_eq_getElem?_getD, List.getD_eq_getElem?_getD, List.getElem?_eq_getElem ha, List.getElem?_eq_getElem hb]
  exact List.pairwise_iff_getElem.mp h a b ha hb hlt
theorem pw_rising : ∀ (l : List Str) (p : Str), (p :: l).Pairwise leS → risingS p l = true
  | [], _, _ => rfl
  | x :: r, p, h => by
    obtain ⟨h1, h2⟩ := List.pairwise_cons.mp h
    show (!ltCps x.cps.toList p.cps.toList && risingS x r) = true
    rw [pw_rising r x h2, ltCps_eq, decide_eq_false (h1 x List.mem_cons_self)]
    rfl
theorem pw_sorted {l : List Str} (h : l.Pairwise leS) : sortedS l = true := by
  cases l with
  | nil => rfl
  | cons x r => exact pw_rising r x h
def rowT (e : Ent) : Str := ((((e.2.1 ++ (" " : Str)) ++ e.1) ++ (" " : Str)) ++ e.2.2) ++ ("\n" : Str)
theorem rowT_same (e : Ent) : rowT e = rowF e := str_ext (by
  show TL.tl (rowT e) = TL.tl (rowF e)
  unfold rowT rowF
  simp only [TL.tl_append, (lits_all).2.2.2.2.2.1, List.nil_append])
theorem kinds_sp {v : V} (h : v ∈ [V.str "file ", .str "exec ", .str "dir "]) : ∃ kd ∈ KINDS, v = .str (kd ++ (" " : Str)) := by
  simp only [List.mem_cons, List.not_mem_nil, or_false] at h
  rcases h with rfl | rfl | rfl
  · exact ⟨"file", by decide +kernel, congrArg V.str (by decide +kernel)⟩
  · exact ⟨"exec", by decide +kernel, congrArg V.str (by decide +kernel)⟩
  · exact ⟨"dir", by decide +kernel, congrArg V.str (by decide +kernel)⟩
theorem kinds_ln : ∀ k ∈ KINDS, k.length ≤ 4 := by decide +kernel
theorem cut_text {x : Str} (ox : isTextF x = true) : isTextF (cutS x none (some 200)) = true ∧ (cutS x none (some 200)).length ≤ 200 := by
  have hx := ox
  have e : TL.tl (cutS x none (some 200)) = (TL.tl x).take 200 := by
    have e := cut_to x 200
    rwa [show ((200 : Nat) : Int) = 200 from rfl] at e
  constructor
  · unfold isTextF at hx ⊢
    obtain ⟨x1, x2⟩ := Bool.and_eq_true_iff.mp hx
    have c1 := cutS_le x none (some 200)
    have x1 := of_decide_eq_true x1
    rw [Bool.and_eq_true]
    refine ⟨decide_eq_true (by omega), ?_⟩
    rw [e]
    exact List.all_eq_true.mpr fun u hu => List.all_eq_true.mp x2 u (List.mem_of_mem_take hu)
  · rw [TL.len_tl, e, List.length_take]
    omega
section
variable {P : Program} {w : World} {K : PySem.W.Frag} {mg : Str → Option Value} {base : Heap}
def parT (p : Str) : Str := (("parent " : Str) ++ p) ++ ("\n" : Str)
theorem parT_same (x : Str) : parT x = parF x := str_ext (by
  show TL.tl (parT x) = TL.tl (parF x)
  unfold parT parF
  simp only [TL.tl_append, (lits_all).2.2.2.2.2.1, List.nil_append])
theorem com_lines (t : Str) (ps : List Str) (au : Str) (tm : Int) (ms : Str) : (((((((((("commit\ntree " : Str) ++ t) ++ ("\n" : Str)) ++ Txt.join ("" : Str) (ps.map parT)) ++ ("author " : Str)) ++ au) ++ ("\ntime " : Str)) ++ Str.ofString (toString tm)) ++ ("\n\n" : Str)) ++ ms) = encF (.commit t ps au tm ms) := str_ext (by
  show TL.tl _ = TL.tl (headF t ps au tm ++ ms)
  have e : ps.map parT = ps.map parF := List.map_congr_left fun x _ => parT_same x
  rw [e]
  unfold headF
  simp only [TL.tl_append, (lits_all).2.2.2.2.2.1, List.nil_append])
/-- the k-th of some ids that differ by their first figures -/
def pidF (k : Nat) (i : Str) : Str := repS (Str.ofString (toString ((0 : Int) + (k : Int)))) 2 ++ cutS i (some 2) none
theorem tl_pid {k : Nat} {i : Str} (hk : k < 10) (hl : i.length = 16) : TL.tl (pidF k i) = (48 + k) :: (48 + k) :: (TL.tl i).drop 2 := by
  unfold pidF
  rw [TL.tl_append, tl_rep, show (0 : Int) + (k : Int) = ((k : Nat) : Int) by omega, TL.tl_num, TL.numL_lt hk]
  have e := cut_from i 2
  rw [show ((2 : Nat) : Int) = 2 from rfl] at e
  rw [e]
  rfl
theorem pid_ok {k : Nat} {i : Str} (hk : k < 7) (hi : ∀ u ∈ TL.tl i, u ∈ TL.tl HEX) (hl : i.length = 16) : isIdF (pidF k i) = true ∧ (TL.tl (pidF k i)).head? = some (48 + k) := by
  have e := tl_pid (i := i) (show k < 10 by omega) hl
  refine ⟨id_of (fun u hu => ?_) ?_, by rw [e]; rfl⟩
  · have hx : ∀ k < 10, 48 + k ∈ TL.tl HEX := by decide +kernel
    rw [e] at hu
    rcases List.mem_cons.mp hu with rfl | hu
    · exact hx k (by omega)
    · rcases List.mem_cons.mp hu with rfl | hu
      · exact hx k (by omega)
      · exact hi u (List.mem_of_mem_drop hu)
  · rw [TL.len_tl] at hl ⊢
    rw [e, List.length_cons, List.length_cons, List.length_drop]
    omega
theorem abc_let : ∀ u ∈ TL.tl ("abcxyz" : Str), u ∈ TL.tl LET := by decide +kernel
def spLines : Sp := fun vs H Q _ => ∃ (a : Addr) (k : Int) (kd : Nat), vs = [.ref a, .int kd] ∧ kd < 4 ∧ Wl H a k ∧ k < 2 ^ 36 ∧ ∀ (o : Ob) (H' : Hp) (k' : Int), o.ok → Fr a H H' → Wl H' a k' → k ≤ k' → k' ≤ k + 5000 → Q (.str (encF o)) H'
theorem c_l_lines (T : Top K mg) : C8.Cal P w K mg base 5 "_law_lines" spLines [] := by
  refine cal_of T.d_l_lines sc_l_lines (fun _ _ _ _ _ _ us hl => match us, hl with | [_, _], _ => rfl) (fun vs H Q E h => ?_) (fun f cdv A outer s H vs Q E hr h => ?_)
  · obtain ⟨a, k, kd, rfl, _⟩ := h
    rfl
  · obtain ⟨a, k, kd, rfl, hkd, hw, hk, q⟩ := h
    have hk0 := hw.1
    obtain ⟨i1, i2, i3, i4, i5, i6, i7, i8, i9, i10, _⟩ := lit1
    refine ⟨_, (pss_cons (ps_set (i := 2) sc_l_lines.nd rfl (Or.inl rfl) (pe_slice sl_str (C8.pe_c (c_l_text T) hr (by decide) (by rfl) (pa_cons (pv 0) pa_nil)) po_none (po_some pe_int)))
      (pss_cons (ps_if (pt_cmpR op_eq (pv 1) pe_int (nomark _))
      (pss_one (ps_ret (pe_op op_add_str pe_str (C8.pe_c (c_l_text T) hr (by decide) (by rfl) (pa_cons (pv 0) pa_nil)))))
      pss_nil)
      (pss_cons (ps_if (pt_cmpR op_eq (pv 1) pe_int (nomark _))
      (pss_cons (ps_set (i := 3) sc_l_lines.nd rfl (Or.inr rfl) (pe_callB (cr_sortedS) (by rfl) T.z_sorted (by decide +kernel) (pa_cons (pe_lc (own := [("_law_k", 4)]) (g := gName 4) (by rfl) sc_l_lines.nd (pi_range1 (by rfl) T.z_range (pa_cons (C8.pe_c (c_l_draw T) hr (by decide) (by rfl) (pa_cons (pv 0) (pa_cons (C8.pe_c (c_l_pick T) hr (by decide) (by rfl) (pa_cons (pv 0) (pa_cons (pe_lst (pa_cons pe_int (pa_cons pe_int pa_nil))) pa_nil))) pa_nil))) pa_nil)) (blkOk_by (own := [("_law_k", 4)]) (N := ["_law_well_here", "_law_kind", "_law_message", "_law_names", "_law_k", "_law_rows", "_law_name", "_law_parents", "_law_moment", "_law_first"]) (sc := C8.fnScope s_l_lines) (by decide +kernel)) (fun _ _ _ _ _ => (pg_name (i := 4) sc_l_lines.nd rfl (Or.inl rfl))) (fun _ _ _ _ _ => pts_nil) (fun _ _ _ _ _ => (C8.pe_c (c_l_segment T) hr (by decide) (by rfl) (pa_cons (pv 0) pa_nil)))) pa_nil)))
      (pss_cons (ps_set (i := 3) sc_l_lines.nd rfl (Or.inr rfl) (pe_lc (own := [("_law_k", 4)]) (g := gName 4) (by rfl) sc_l_lines.nd (pi_range1 (by rfl) T.z_range (pa_cons (pe_callB call_len_seq (by rfl) T.z_len (by decide +kernel) (pa_cons (pv 3) pa_nil)) pa_nil)) (blkOk_by (own := [("_law_k", 4)]) (N := ["_law_well_here", "_law_kind", "_law_message", "_law_names", "_law_k", "_law_rows", "_law_name", "_law_parents", "_law_moment", "_law_first"]) (sc := C8.fnScope s_l_lines) (by decide +kernel)) (fun _ _ _ _ _ => (pg_name (i := 4) sc_l_lines.nd rfl (Or.inl rfl))) (fun _ _ _ _ _ => pts_one (pt_cmpR (notInK (K := K) rfl) (pe_ix (ixK_list (K := K) rfl) (pv 3) (pv 4) (fun _ _ => rfl)) (pe_slice (slK_list (K := K) rfl) (pv 3) po_none (po_some (pv 4))) rfl)) (fun _ _ _ _ _ => (pe_ix (ixK_list (K := K) rfl) (pv 3) (pv 4) (fun _ _ => rfl)))))
      (pss_cons (ps_setLc (i := 5) (own := [("_law_name", 6)]) (g := gName 6) (by rfl) sc_l_lines.nd rfl rfl (sw_true rfl rfl rfl (by decide +kernel)) (pi_list (pv 3)) (blkOk_by (own := [("_law_name", 6)]) (N := ["_law_well_here", "_law_kind", "_law_message", "_law_names", "_law_k", "_law_rows", "_law_name", "_law_parents", "_law_moment", "_law_first"]) (sc := C8.fnScope s_l_lines) (by decide +kernel)) (fun _ _ _ _ _ => (pg_name (i := 6) sc_l_lines.nd rfl (Or.inl rfl))) (fun _ _ _ _ _ => pts_nil) (fun _ _ _ _ _ => (pe_op op_add_str (pe_op op_add_str (pe_op op_add_str (pe_op op_add_str (C8.pe_c (c_l_pick T) hr (by decide) (by rfl) (pa_cons (pv 0) (pa_cons (pe_lst (pa_cons pe_str (pa_cons pe_str (pa_cons pe_str pa_nil)))) pa_nil))) (pv 6)) pe_str) (C8.pe_c (c_l_id T) hr (by decide) (by rfl) (pa_cons (pv 0) pa_nil))) pe_str)))
      (pss_one (ps_ret (pe_op op_add_str pe_str (pe_join pe_str (pv 5))))))))
      pss_nil)
      (pss_cons (ps_if (pt_cmpR op_eq (pv 1) pe_int (nomark _))
      (pss_cons (ps_setLc (i := 7) (own := [("_law_k", 4)]) (g := gName 4) (by rfl) sc_l_lines.nd rfl rfl (sw_true rfl rfl rfl (by decide +kernel)) (pi_range1 (by rfl) T.z_range (pa_cons (C8.pe_c (c_l_draw T) hr (by decide) (by rfl) (pa_cons (pv 0) (pa_cons pe_int pa_nil))) pa_nil)) (blkOk_by (own := [("_law_k", 4)]) (N := ["_law_well_here", "_law_kind", "_law_message", "_law_names", "_law_k", "_law_rows", "_law_name", "_law_parents", "_law_moment", "_law_first"]) (sc := C8.fnScope s_l_lines) (by decide +kernel)) (fun _ _ _ _ _ => (pg_name (i := 4) sc_l_lines.nd rfl (Or.inl rfl))) (fun _ _ _ _ _ => pts_nil) (fun _ _ _ _ _ => (pe_op op_add_str (pe_op op_add_str (pe_op op_add_str pe_str (pe_op op_mul_si (pe_callTy call_str_int (by rfl) T.z_str (by decide +kernel) (pa_cons (pv 4) pa_nil)) pe_int)) (pe_slice sl_str (C8.pe_c (c_l_id T) hr (by decide) (by rfl) (pa_cons (pv 0) pa_nil)) (po_some pe_int) po_none)) pe_str)))
      (pss_cons (ps_set (i := 8) sc_l_lines.nd rfl (Or.inl rfl) (pe_callTy call_str_int (by rfl) T.z_str (by decide +kernel) (pa_cons (C8.pe_c (c_l_pick T) hr (by decide) (by rfl) (pa_cons (pv 0) (pa_cons (pe_lst (pa_cons pe_int (pa_cons pe_int (pa_cons (pe_op op_pow pe_int pe_int) (pa_cons (C8.pe_c (c_l_draw T) hr (by decide) (by rfl) (pa_cons (pv 0) (pa_cons (pe_op op_pow pe_int pe_int) pa_nil))) pa_nil))))) pa_nil))) pa_nil)))
      (pss_cons (ps_set (i := 9) sc_l_lines.nd rfl (Or.inl rfl) (pe_op op_add_str (pe_op op_add_str (pe_op op_add_str pe_str (C8.pe_c (c_l_id T) hr (by decide) (by rfl) (pa_cons (pv 0) pa_nil))) pe_str) (pe_join pe_str (pv 7))))
      (pss_one (ps_ret (pe_op op_add_str (pe_op op_add_str (pe_op op_add_str (pe_op op_add_str (pe_op op_add_str (pe_op op_add_str (pv 9) pe_str) (C8.pe_c (c_l_signs T) hr (by decide) (by rfl) (pa_cons (pv 0) (pa_cons pe_str (pa_cons pe_int (pa_cons pe_int pa_nil)))))) pe_str) (pv 8)) pe_str) (pv 2)))))))
      pss_nil)
      (pss_one (ps_ret (pe_op op_add_str (pe_op op_add_str (pe_op op_add_str (pe_op op_add_str (pe_op op_add_str pe_str (C8.pe_c (c_l_id T) hr (by decide) (by rfl) (pa_cons (pv 0) pa_nil))) pe_str) (C8.pe_c (c_l_segment T) hr (by decide) (by rfl) (pa_cons (pv 0) pa_nil))) pe_str) (pv 2)))))))), ?_⟩
    refine ⟨.ref a, rfl, a, k, rfl, hw, by omega, fun x ox lx H1 k1 f1 w1 l1 m1 => ⟨_, rfl, x, rfl, small_line (by omega), ?_⟩⟩
    obtain ⟨okm, lem⟩ := cut_text ox
    generalize cutS x none (some 200) = ms at okm lem ⊢
    refine ⟨.int kd, rfl, rfl, _, rfl, ite2 (fun h => ?_) (fun h => ?_)⟩
    · refine ⟨.ref a, rfl, a, k1, rfl, w1, by omega, fun y oy ly H2 k2 f2 w2 l2 m2 => ⟨_, _, rfl, rfl, small_line (by rw [i10]; omega), ?_⟩⟩
      exact q (.blob y) H2 k2 oy (f1.trans f2) w2 (by omega) (by omega)
    refine ⟨.int kd, rfl, rfl, _, rfl, ite2 (fun h1 => ?_) (fun h1 => ?_)⟩
    · refine ⟨.ref a, rfl, .ref a, rfl, (by show 2 ≤ sizeLine; decide), fun b hb => do_pick (w1.new hb) upd_same (w1.ne hb) (by decide) (by decide) (by omega) fun v hv H2 k2 f2 w2 l2 m2 => ?_⟩
      obtain ⟨m, rfl, hm0, hm1⟩ : ∃ m : Int, v = .int m ∧ 4 ≤ m ∧ m ≤ 31 := by
        obtain ⟨m, hm, rfl⟩ := menu (xs := [4, 31]) hv
        simp only [List.mem_cons, List.not_mem_nil, or_false] at hm
        exact ⟨m, rfl, by omega, by omega⟩
      refine do_draw w2 (by omega) (by omega) (by omega) fun r hr1 H3 k3 f3 w3 l3 m3 => ⟨_, rfl, by omega, by omega, fun D hD => ?_⟩
      have F3 := f1.trans (((Fr.new (a := a) hb).trans f2).trans f3)
      have nD := w3.ne hD
      have en : ((r : Nat) : Int).toNat = r := by omega
      refine lc_inv (i := 4) yields_range (fun k acc H' => Fr a H3 H' ∧ ∃ c', Wl H' a c' ∧ k3 ≤ c' ∧ c' ≤ k3 + 20 * k ∧ ∃ cs : List Str, acc = cs.map V.str ∧ (∀ u ∈ cs, isSegF u = true) ∧ cs.length = k) (fun _ _ _ _ _ => trivial) ?_ (fun k acc H' x I hA hx ha hk => ?_) ?_ (fun acc H' I hA _ => ?_)
      · exact ⟨Fr.new hD, k3, w3.new hD, Int.le_refl _, by omega, [], rfl, (fun u hu => nomatch hu), rfl⟩
      · obtain ⟨fr, c', hw', hc3, hc4, cs, rfl, hcs, hl⟩ := I
        have hkm : k < 31 := by
          have := (List.getElem?_eq_some_iff.mp hx).1
          rw [List.length_map, List.length_range] at this
          omega
        refine yes_ ?_
        refine ⟨.ref a, rfl, a, c', rfl, hw', by omega, fun u hu H4 c4 f4 w4 h5 h6 => ?_⟩
        refine lc_take (f4 _ _ nD hA) ha hk ⟨(fr.trans f4).mut hD, c4, w4.mut nD, by omega, by omega, cs ++ [u], by rw [List.map_append]; rfl, fun w hw => ?_, by rw [List.length_append, hl]; rfl⟩
        rcases List.mem_append.mp hw with hw | hw
        · exact hcs w hw
        · rw [List.mem_singleton.mp hw]
          exact hu
      · rw [List.length_map, List.length_range]
        omega
      obtain ⟨fr, k4, w4, l4, m4, cs, rfl, hcs, hl⟩ := I
      rw [List.length_map, List.length_range] at hl m4
      have F4 := F3.trans fr
      refine ⟨D, cs, rfl, SqL.of hA, by omega, fun ys p hy hso hp => ?_⟩
      have pq : ∀ u ∈ ys, isSegF u = true := fun u hu => hcs u (hy.mem_iff.mp hu)
      have yl : ys.length ≤ 30 := by rw [hy.length_eq, hl]; omega
      have spw := sorted_pw hso
      have s5 := same_new (o := .lst (ys.map V.str)) hp
      have h5 : (upd H' p (.lst (ys.map V.str))) p = some (.lst (ys.map V.str)) := upd_same
      have w5 := w4.same s5
      have F5 := F4.trans (Fr.same (a := a) s5)
      generalize upd H' p (.lst (ys.map V.str)) = H5 at s5 h5 w5 F5 ⊢
      refine ⟨.ref p, rfl, p, _, rfl, .inl (SqL.of h5), _, rfl, by rw [List.length_map]; omega, by rw [List.length_map]; omega, fun D2 hD2 => ?_⟩
      have eny : (((ys.map V.str).length : Nat) : Int).toNat = ys.length := by rw [List.length_map]; omega
      have atk : ∀ k, k < ys.length → atI (ys.map V.str) (0 + (k : Int)) = some (.str (ys.getD k "")) := fun k hk => by
        rw [show (0 : Int) + (k : Int) = ((k : Nat) : Int) by omega]
        exact atI_nat (by rw [List.getElem?_map, List.getElem?_eq_getElem hk, List.getD_eq_getElem?_getD, List.getElem?_eq_getElem hk]; rfl)
      refine lc_pure (i := 4) (us := List.range (((ys.map V.str).length : Nat) : Int).toNat) (g := fun (k : Nat) => V.int (0 + (k : Int))) yields_range (fun k => V.str (ys.getD k "")) (newP ys) hD2 (fun _ _ => trivial) (fun H6 u s hu R r => ?_) (fun H6 u s hu _ R r => ?_) (by rw [List.length_range]; omega) (fun H6 s6 h6 => ?_)
      · have hu := List.mem_range.mp hu
        rw [eny] at hu
        have hA5 := s _ _ h5
        refine ⟨.ref p, rfl, .int (0 + (u : Int)), rfl, p, _, 0 + (u : Int), _, rfl, rfl, SqL.of hA5, atk u hu, .ref p, rfl, .int (0 + (u : Int)), rfl, _, rfl, p, _, rfl, SqL.of hA5, fun p' hp' => ⟨p', _, rfl, .inl (SqL.of upd_same), rfl, ?_, _, rfl, r _ (same_new hp')⟩⟩
        rw [show (0 : Int) + (u : Int) = ((u : Nat) : Int) by omega, cutV_to]
        exact flat_strs _
      · have hu := List.mem_range.mp hu
        rw [eny] at hu
        exact ⟨.ref p, rfl, .int (0 + (u : Int)), rfl, p, _, 0 + (u : Int), _, rfl, rfl, SqL.of (s _ _ h5), atk u hu, r H6 (Same.refl H6)⟩
      rw [eny, show ((List.range ys.length).filter (newP ys)).map (fun k => V.str (ys.getD k "")) = (uniqF ys ys.length).map V.str by unfold uniqF; rw [List.map_map]; rfl] at h6
      have und := uniq_nd ys
      have ups := uniq_pw spw
      have uid : ∀ x ∈ uniqF ys ys.length, isSegF x = true := fun x hx => pq x (uniq_mem hx)
      have ul : (uniqF ys ys.length).length ≤ 30 := Nat.le_trans (uniq_len ys ys.length) yl
      generalize uniqF ys ys.length = ps at h6 und ups uid ul
      have w6 := w5.same s6
      have F6 := F5.trans (Fr.same (a := a) s6)
      have nD2 := w5.ne hD2
      refine ⟨.ref D2, rfl, D2, rfl, ⟨_, SqL.of h6⟩, fun D3 hD3 => ?_⟩
      have nD3 := w6.ne hD3
      have n23 : D2 ≠ D3 := fun z => by rw [z, hD3] at h6; cases h6
      refine lc_inv (i := 6) (items := ps.map V.str) yields_list (fun i acc H' => Fr a H6 H' ∧ H' D2 = some (.lst (ps.map V.str)) ∧ ∃ c', Wl H' a c' ∧ k4 ≤ c' ∧ c' ≤ k4 + 30 * i ∧ ∃ es : List Ent, acc = (es.map rowT).map V.str ∧ es.map (·.1) = ps.take i ∧ ∀ e ∈ es, EntOk e) (fun _ _ _ I _ => SqL.of I.2.1) ?_ (fun i acc H' x I hA hx ha hk => ?_) ?_ (fun acc H' I hA _ => ?_)
      · exact ⟨Fr.new hD3, by rw [upd_ne n23]; exact h6, k4, w6.new hD3, Int.le_refl _, by omega, [], rfl, rfl, fun e he => nomatch he⟩
      · obtain ⟨fr, g2, c', hw', hc3, hc4, es, rfl, hes, hok⟩ := I
        obtain ⟨hi, ex⟩ := List.getElem?_eq_some_iff.mp hx
        rw [List.length_map] at hi
        rw [List.getElem_map] at ex
        subst ex
        have sg := uid ps[i] (List.getElem_mem hi)
        have lsg := seg_len sg
        refine yes_ ?_
        refine ⟨.ref a, rfl, (by show 3 ≤ sizeLine; decide), fun b' hb' => do_pick (hw'.new hb') upd_same (hw'.ne hb') (by show 0 < 3; decide) (by show 3 < 1000000; decide) (by omega) fun v hv H7 k7 f7 w7 l7 m7 => ?_⟩
        obtain ⟨kd, hkd', rfl⟩ := kinds_sp hv
        have lkd := kinds_ln kd hkd'
        refine ⟨.str ps[i], rfl, _, _, rfl, rfl, small_line (by rw [len_app, i1]; omega), _, _, rfl, rfl, small_line (by rw [len_app, len_app, i1]; omega), .ref a, rfl, a, k7, rfl, w7, by omega, fun id hid hil H8 k8 f8 w8 l8 m8 => ⟨_, _, rfl, rfl, small_line (by rw [len_app, len_app, len_app, i1]; omega), _, _, rfl, rfl, small_line (by rw [len_app, len_app, len_app, len_app, i1, i2]; omega), ?_⟩⟩
        have fA := ((Fr.new (a := a) hb').trans f7).trans f8
        have ok : EntOk (ps[i], kd, id) := ⟨sg, hkd', id_of hid hil⟩
        refine lc_take (fA _ _ nD3 hA) ha hk ⟨(fr.trans fA).mut hD3, by rw [upd_ne n23]; exact fA _ _ nD2 g2, k8, w8.mut nD3, by omega, by omega, es ++ [(ps[i], kd, id)], by rw [List.map_append, List.map_append]; rfl, ?_, fun e he => ?_⟩
        · rw [List.map_append, hes, List.take_add_one, List.getElem?_eq_getElem hi]
          rfl
        · rcases List.mem_append.mp he with he | he
          · exact hok e he
          · rw [List.mem_singleton.mp he]
            exact ok
      · rw [List.length_map]
        omega
      obtain ⟨fr', g2, k9, w9, l9, m9, es, rfl, hes, hok⟩ := I
      rw [List.length_map] at hes m9
      rw [List.take_length] at hes
      have F9 := F6.trans fr'
      have okT : Ob.ok (.tree es) := ⟨by have := congrArg List.length hes; rw [List.length_map] at this; omega, by rw [hes]; exact und, by rw [hes]; exact pw_sorted ups, hok⟩
      have er : es.map rowT = es.map rowF := List.map_congr_left fun e _ => rowT_same e
      have ln := enc_len okT
      have ln : (("tree\n" : Str) ++ Txt.join ("" : Str) (es.map rowF)).length ≤ 3000 := ln
      rw [len_app] at ln
      have s00 : ("" : Str).length = 0 := by decide +kernel
      have rl := sum_most 35 (es.map rowF) fun p hp => by
        obtain ⟨e, he, rfl⟩ := List.mem_map.mp hp
        exact row_len (hok e he)
      rw [List.length_map] at rl
      have e30 := okT.1
      rw [er] at hA
      refine ⟨⟨_, rfl⟩, .ref D3, rfl, ("" : Str), D3, es.map rowF, rfl, rfl, .inl (SqL.of hA), small_line (by rw [s00]; omega), _, _, rfl, rfl, small_line (by omega), ?_⟩
      exact q (.tree es) _ k9 okT F9 w9 (by omega) (by omega)
    refine ⟨.int kd, rfl, rfl, _, rfl, ite2 (fun h2 => ?_) (fun h2 => ?_)⟩
    · refine ⟨.ref a, rfl, do_draw w1 (by decide) (by decide) (by omega) fun r hr1 H2 k2 f2 w2 l2 m2 => ⟨_, rfl, by omega, by omega, fun D hD => ?_⟩⟩
      have F2 := f1.trans f2
      have nD := w2.ne hD
      refine lc_inv (i := 4) yields_range (fun i acc H' => Fr a H2 H' ∧ ∃ c', Wl H' a c' ∧ k2 ≤ c' ∧ c' ≤ k2 + 20 * i ∧ ∃ qs : List Str, acc = (qs.map parT).map V.str ∧ (∀ u ∈ qs, isIdF u = true) ∧ qs.length = i ∧ ∀ j (h : j < qs.length), (TL.tl qs[j]).head? = some (48 + j)) (fun _ _ _ _ _ => trivial) ?_ (fun i acc H' x I hA hx ha hk => ?_) ?_ (fun acc H' I hA _ => ?_)
      · exact ⟨Fr.new hD, k2, w2.new hD, Int.le_refl _, by omega, [], rfl, (fun u hu => nomatch hu), rfl, fun j h => absurd h (Nat.not_lt_zero _)⟩
      · obtain ⟨fr, c', hw', hc3, hc4, qs, rfl, hcs, hl, hh⟩ := I
        obtain ⟨hi, ex⟩ := List.getElem?_eq_some_iff.mp hx
        rw [List.length_map, List.length_range] at hi
        rw [List.getElem_map, List.getElem_range] at ex
        subst ex
        have i7' : i < 7 := by omega
        refine yes_ ?_
        have e0 : (0 : Int) + (i : Int) = ((i : Nat) : Int) := by omega
        have ls : (Str.ofString (toString ((0 : Int) + (i : Int)))).length = 1 := by
          rw [e0, TL.len_tl, TL.tl_num, TL.numL_lt (by omega)]
          rfl
        have lr : (repS (Str.ofString (toString ((0 : Int) + (i : Int)))) 2).length = 2 := by rw [rep_len, ls]
        refine ⟨.int (0 + (i : Int)), rfl, _, rfl, Nat.lt_trans (PySem.Flt.log2_lt_of (k := 41) (by decide) (by omega)) (by decide), _, 2, rfl, rfl, by decide, by decide, by rw [ls]; decide, _, _, rfl, rfl, ?_, ?_⟩
        · refine small_line ?_
          have : (repS (Str.ofString (toString ((0 : Int) + (i : Int)))) (Int.toNat 2)).length = 2 := lr
          rw [this, i3]
          omega
        refine ⟨.ref a, rfl, a, c', rfl, hw', by omega, fun id hid hil H4 c4 f4 w4 h5 h6 => ⟨2, rfl, id, rfl, small_line (by omega), ?_⟩⟩
        have cl := cutS_le id (some 2) none
        have lr' : (repS (Str.ofString (toString ((0 : Int) + (i : Int)))) (Int.toNat 2)).length = 2 := lr
        refine ⟨_, _, rfl, rfl, small_line (by rw [len_app, lr', i3]; omega), _, _, rfl, rfl, small_line (by rw [len_app, len_app, lr', i3, i2]; omega), ?_⟩
        obtain ⟨po, ph⟩ := pid_ok i7' hid hil
        refine lc_take (f4 _ _ nD hA) ha hk ⟨(fr.trans f4).mut hD, c4, w4.mut nD, by omega, by omega, qs ++ [pidF i id], ?_, fun z hz => ?_, by rw [List.length_append, hl]; rfl, fun j hj => ?_⟩
        · rw [List.map_append, List.map_append]
          congr 1
          show [V.str _] = [V.str _]
          congr 2
          unfold parT pidF
          rw [← Str.append_assoc]
          rfl
        · rcases List.mem_append.mp hz with hz | hz
          · exact hcs z hz
          · rw [List.mem_singleton.mp hz]
            exact po
        · by_cases c : j < qs.length
          · rw [List.getElem_append_left c]
            exact hh j c
          · rw [List.length_append] at hj
            have hj : j < qs.length + 1 := hj
            have ej : j = qs.length := by omega
            subst ej
            rw [List.getElem_append_right (Nat.le_refl _)]
            simp only [Nat.sub_self, List.getElem_cons_zero]
            rw [hl]
            exact ph
      · rw [List.length_map, List.length_range]
        omega
      obtain ⟨fr, k3, w3, l3, m3, qs, rfl, pq, hl, hh⟩ := I
      rw [List.length_map, List.length_range] at hl m3
      have hl6 : qs.length ≤ 6 := by omega
      have und : qs.Nodup := by
        refine List.pairwise_iff_getElem.mpr fun x y hx hy hlt e => ?_
        have a1 := hh x hx
        have a2 := hh y hy
        rw [e, a2] at a1
        have := Option.some.inj a1
        omega
      have F3 := F2.trans fr
      refine ⟨.ref a, rfl, 10, 12, rfl, rfl, ⟨by decide, by decide, by decide⟩, .ref a, rfl, 10, 9, rfl, rfl, ⟨by decide, by decide, by decide⟩, do_draw w3 (by decide) (by decide) (by omega) fun r2 hr2 H7 k7 f7 w7 l7 m7 => ⟨(by show 4 ≤ sizeLine; decide), fun b hb => do_pick (w7.new hb) upd_same (w7.ne hb) (by show 0 < 4; decide) (by show 4 < 1000000; decide) (by omega) fun v hv H8 k8 f8 w8 l8 m8 => ?_⟩⟩
      obtain ⟨tm, rfl, t0, t1⟩ : ∃ tm : Int, v = .int tm ∧ 0 ≤ tm ∧ tm ≤ 1000000000000 := by
        simp only [List.mem_cons, List.not_mem_nil, or_false] at hv
        rcases hv with rfl | rfl | rfl | rfl
        · exact ⟨0, rfl, by decide, by decide⟩
        · exact ⟨7, rfl, by decide, by decide⟩
        · exact ⟨_, rfl, by decide, by decide⟩
        · refine ⟨_, rfl, by omega, ?_⟩
          have : (10 : Int) ^ Int.toNat 9 = 1000000000 := by decide
          omega
      have h8 := (f7.trans ((Fr.new hb).trans f8)) _ _ nD hA
      have F8 := F3.trans (f7.trans ((Fr.new hb).trans f8))
      have lg : tm.natAbs.log2 < 1920 := Nat.lt_trans (PySem.Flt.log2_lt_of (k := 41) (by decide) (by omega)) (by decide)
      have ns : (Str.ofString (toString tm)).length ≤ 13 := num_len t0 t1
      refine ⟨_, rfl, lg, ?_⟩
      refine ⟨.ref a, rfl, a, k8, rfl, w8, by omega, fun t ht htl H9 k9 f9 w9 l9 m9 => ⟨_, _, rfl, rfl, small_line (by rw [i4]; omega), _, _, rfl, rfl, small_line (by rw [len_app, i4, i2]; omega), ?_⟩⟩
      have h9 := f9 _ _ nD h8
      have F9 := F8.trans f9
      have s00 : ("" : Str).length = 0 := by decide +kernel
      have nsm : ∀ x ∈ qs.map parT, x.length ≤ 30 := fun x hx => by
        obtain ⟨y, hy, rfl⟩ := List.mem_map.mp hx
        have := id_len (pq y hy)
        unfold parT
        rw [len_app, len_app, i3, i2]
        omega
      have rl := sum_most 30 _ nsm
      rw [List.length_map] at rl
      have jl : (Txt.join ("" : Str) (qs.map parT)).length ≤ 200 := by
        rw [TL.len_tl, tl_join0, List.length_flatten, List.map_map]
        have e : (List.map (List.length ∘ TL.tl) (qs.map parT)) = (qs.map parT).map (·.length) := List.map_congr_left fun x _ => (TL.len_tl x).symm
        rw [e]
        omega
      refine ⟨⟨_, rfl⟩, .ref D, rfl, ("" : Str), D, _, rfl, rfl, .inl (SqL.of h9), small_line (by rw [s00]; omega), _, _, rfl, rfl, small_line (by rw [len_app, len_app, i4, i2]; omega), ?_⟩
      refine ⟨.str _, rfl, _, _, rfl, rfl, small_line (by rw [len_app, len_app, len_app, i4, i2, i5]; omega), .ref a, rfl, a, "abcxyz", 1, 12, k9, rfl, w9, by decide +kernel, by decide +kernel, by decide, by decide, by omega, fun au hau ha1 ha2 H10 k10 f10 w10 l10 m10 => ?_⟩
      refine ⟨_, _, rfl, rfl, small_line (by rw [len_app, len_app, len_app, len_app, i4, i2, i5]; omega), _, _, rfl, rfl, small_line (by rw [len_app, len_app, len_app, len_app, len_app, i4, i2, i5, i6]; omega), .str _, rfl, _, _, rfl, rfl, small_line (by rw [len_app, len_app, len_app, len_app, len_app, len_app, i4, i2, i5, i6]; omega), _, _, rfl, rfl, small_line (by rw [len_app, len_app, len_app, len_app, len_app, len_app, len_app, i4, i2, i5, i6, i7]; omega), .str ms, rfl, _, _, rfl, rfl, small_line (by rw [len_app, len_app, len_app, len_app, len_app, len_app, len_app, len_app, i4, i2, i5, i6, i7]; omega), ?_⟩
      have oka : isWordF LET au = true := word_of (fun u hu => abc_let u (hau u hu)) ha1 ha2
      have okC : Ob.ok (.commit t qs au tm ms) := ⟨id_of ht htl, hl6, und, pq, oka, t0, t1, okm, lem⟩
      have z := q (.commit t qs au tm ms) H10 k10 okC (F9.trans f10) w10 (by omega) (by omega)
      rw [← com_lines] at z
      exact z
    refine ⟨.ref a, rfl, a, k1, rfl, w1, by omega, fun tg htg htl H2 k2 f2 w2 l2 m2 => ⟨_, _, rfl, rfl, small_line (by rw [i8]; omega), _, _, rfl, rfl, small_line (by rw [len_app, i8, i9]; omega), .ref a, rfl, a, k2, rfl, w2, by omega, fun lb hlb H3 k3 f3 w3 l3 m3 => ?_⟩⟩
    have okT : Ob.ok (.tag tg lb ms) := ⟨id_of htg htl, hlb, okm, lem⟩
    have ll := seg_len hlb
    refine ⟨_, _, rfl, rfl, small_line (by rw [len_app, len_app, i8, i9]; omega), _, _, rfl, rfl, small_line (by rw [len_app, len_app, len_app, i8, i9, i7]; omega), .str ms, rfl, _, _, rfl, rfl, small_line (by rw [len_app, len_app, len_app, len_app, i8, i9, i7]; omega), ?_⟩
    have z := q (.tag tg lb ms) H3 k3 okT ((f1.trans f2).trans f3) w3 (by omega) (by omega)
    rw [← tag_same] at z
    exact z
end

end Fk

set_option maxHeartbeats 4000000
namespace Fk
open PySem PySem.Spec PyProof.Rows L2
theorem row_word {hd x : Str} (h : Row hd) (k : Row x) : Row (hd ++ (" " : Str) ++ x) := fun z => by
  rw [TL.tl_append, TL.tl_append, sp_one] at z
  rcases List.mem_append.mp z with z | z
  · rcases List.mem_append.mp z with z | z
    · exact h z
    · exact absurd (List.mem_singleton.mp z) (by decide)
  · exact k z
theorem rows_lit : Row ("blob" : Str) ∧ Row ("tree" : Str) ∧ Row ("commit" : Str) ∧ Row ("tag" : Str) ∧ Row ("target" : Str) ∧ Row ("label" : Str) ∧ Row ("parent" : Str) ∧ Row ("author" : Str) ∧ Row ("time" : Str) ∧ Row ("" : Str) := by
  unfold Row
  decide +kernel
theorem nl_sets : 10 ∉ TL.tl HEX ∧ 10 ∉ TL.tl SSG ∧ 10 ∉ TL.tl LET := by decide +kernel
theorem row_id {x : Str} (h : isIdF x = true) : Row x := fun z => nl_sets.1 (only_sub (Bool.and_eq_true_iff.mp (show (decide _ && _) = true from h)).2 _ z)
theorem row_wordF {x y : Str} (h : isWordF y x = true) (n : 10 ∉ TL.tl y) : Row x := fun z => by
  unfold isWordF at h
  simp only [Bool.and_eq_true] at h
  exact n (only_sub h.2.2 _ z)
theorem row_seg {x : Str} (h : isSegF x = true) : Row x := by
  unfold isSegF at h
  exact row_wordF (Bool.and_eq_true_iff.mp h).1 nl_sets.2.1
theorem row_num (n : Nat) : Row (Str.ofString (toString ((n : Nat) : Int))) := fun z => by
  rw [TL.tl_num] at z
  have := TL.numL_digits n 10 z
  omega
theorem row_line {e : Ent} (h : EntOk e) : Row (lineF e) := fun z => by
  rw [line_tl] at z
  have kn : ∀ k ∈ KINDS, 10 ∉ TL.tl k := by decide +kernel
  rcases List.mem_append.mp z with z | z
  · exact kn _ h.2.1 z
  · rcases List.mem_cons.mp z with z | z
    · exact absurd z (by decide)
    · rcases List.mem_append.mp z with z | z
      · exact row_seg h.1 z
      · rcases List.mem_cons.mp z with z | z
        · exact absurd z (by decide)
        · exact row_id h.2.2 z
theorem rows_ok {o : Ob} (ok : o.ok) : Row (kindF o) ∧ ∀ r ∈ rowsO o, Row r := by
  obtain ⟨r1, r2, r3, r4, r5, r6, r7, r8, r9, r0⟩ := rows_lit
  cases o with
  | blob x => exact ⟨r1, fun r hr => (List.not_mem_nil hr).elim⟩
  | tree es =>
    refine ⟨r2, fun r hr => ?_⟩
    obtain ⟨e, he, rfl⟩ := List.mem_map.mp hr
    exact row_line (ok.2.2.2 e he)
  | commit t ps au tm msg =>
    obtain ⟨o1, o2, o3, o4, o5, o6, o7, o8, o9⟩ := ok
    refine ⟨r3, fun r hr => ?_⟩
    obtain ⟨n, rfl⟩ := Int.eq_ofNat_of_zero_le o6
    rcases List.mem_cons.mp hr with rfl | hr
    · exact row_word r2 (row_id o1)
    · rcases List.mem_append.mp hr with hr | hr
      · obtain ⟨p, hp, rfl⟩ := List.mem_map.mp hr
        exact row_word r7 (row_id (o4 p hp))
      · simp only [List.mem_cons, List.not_mem_nil, or_false] at hr
        rcases hr with rfl | rfl | rfl
        · exact row_word r8 (row_wordF o5 nl_sets.2.2)
        · exact row_word r9 (row_num n)
        · exact r0
  | tag tg lb msg =>
    obtain ⟨o1, o2, o3, o4⟩ := ok
    refine ⟨r4, fun r hr => ?_⟩
    have hr : r ∈ [("target" : Str) ++ (" " : Str) ++ tg, ("label" : Str) ++ (" " : Str) ++ lb, ("" : Str)] := hr
    simp only [List.mem_cons, List.not_mem_nil, or_false] at hr
    rcases hr with rfl | rfl | rfl
    · exact row_word r5 (row_id o1)
    · exact row_word r6 (row_seg o2)
    · exact r0
theorem lt_of_le_ne {a b : Str} (h : leS a b) (n : a ≠ b) : a.cps.toList < b.cps.toList := Classical.byContradiction fun z => n (leS_anti h z)
theorem keys_lt {es : List Ent} (ok : EntsOk es) : ((("" : Str)) :: es.map (·.1)).Pairwise (fun a b : Str => a.cps.toList < b.cps.toList) := by
  refine List.pairwise_cons.mpr ⟨fun y hy => ?_, ((sorted_pw ok.2.2.1).and ok.2.1).imp fun {a b} h => lt_of_le_ne h.1 h.2⟩
  obtain ⟨e, he, rfl⟩ := List.mem_map.mp hy
  have hs := (ok.2.2.2 e he).1
  unfold isSegF isWordF at hs
  simp only [Bool.and_eq_true] at hs
  have h1 : 1 ≤ e.1.length := of_decide_eq_true hs.1.1
  rw [TL.len_tl] at h1
  show TL.tl ("" : Str) < TL.tl e.1
  rw [em_one]
  cases hl : TL.tl e.1 with
  | nil => rw [hl] at h1; exact absurd h1 (by decide)
  | cons a r => exact List.nil_lt_cons a r
theorem canon {o : Ob} (ok : o.ok) : ∃ dec, DecR (encF o) dec ∧ dueX (encF o).length dec = none := by
  obtain ⟨rs, t, e, hr, ht⟩ := rows_of (TL.tl (tailO o))
  obtain ⟨rk, ro⟩ := rows_ok ok
  have er := enc_rows o
  rw [e, ← List.append_assoc, ← flat_app] at er
  have dec : DecR (encF o) (some (kindF o, rowsO o ++ rs, t)) := ⟨er, rk, fun r hr' => by
    rcases List.mem_append.mp hr' with h | h
    · exact ro r h
    · exact hr r h, ht⟩
  refine ⟨_, dec, ?_⟩
  have ll := congrArg List.length er
  rw [← TL.len_tl, List.length_append, List.length_cons, List.length_append, ← TL.len_tl, ← TL.len_tl] at ll
  have ll : (encF o).length = (kindF o).length + (flen (rowsO o ++ rs) + t.length + 1) := ll
  have lt := congrArg List.length e
  rw [← TL.len_tl, List.length_append, ← TL.len_tl] at lt
  have lt : (tailO o).length = flen rs + t.length := lt
  show dueR (encF o).length (kindF o) (rowsO o ++ rs) t = none
  cases o with
  | blob x =>
    show dueR _ "blob" ([] ++ rs) t = none
    have lx := text_len (show isTextF x = true from ok)
    have lt : x.length = flen rs + t.length := lt
    rw [due_blob, List.nil_append, if_pos (by omega)]
  | tree es =>
    have e : ([] : List Nat) = flatL rs ++ TL.tl t := by rw [← e]; exact em_one.symm
    have h1 := List.append_eq_nil_iff.mp e.symm
    have t0 : t = "" := tl_len0.mp h1.2
    have r0 : rs = [] := by
      cases rs with
      | nil => rfl
      | cons r rs => rw [flat_cons] at h1; simp at h1
    subst r0
    show dueR _ "tree" (es.map lineF ++ []) t = none
    rw [due_tree, List.append_nil]
    unfold dueT
    rw [tree_go es 0 "" (ok.2.2.2) (by have := ok.1; omega) (keys_lt ok)]
    show (if t = "" then none else _) = none
    rw [if_pos t0]
  | commit tr ps au tm msg =>
    obtain ⟨o1, o2, o3, o4, o5, o6, o7, o8, o9⟩ := ok
    obtain ⟨n, rfl⟩ := Int.eq_ofNat_of_zero_le o6
    have lt : msg.length = flen rs + t.length := lt
    have el : rowsO (.commit tr ps au (n : Int) msg) ++ rs = (("tree" : Str) ++ (" " : Str) ++ tr) :: (ps.map parR ++ ((("author" : Str) ++ (" " : Str) ++ au) :: (("time" : Str) ++ (" " : Str) ++ numS n) :: ("" : Str) :: rs)) := by
      show (("tree" : Str) ++ (" " : Str) ++ tr) :: (ps.map parR ++ [_, _, _]) ++ rs = _
      simp [numS]
    show dueR _ "commit" _ t = none
    rw [due_commit]
    have hid : Al.id.f tr = true := o1
    have f1 := (fault_word st_tree (ls := (("tree" : Str) ++ (" " : Str) ++ tr) :: (ps.map parR ++ ((("author" : Str) ++ (" " : Str) ++ au) :: (("time" : Str) ++ (" " : Str) ++ numS n) :: ("" : Str) :: rs))) (ps := []) (n := 0) (ss := ["author", "time", "empty"]) (fun z => absurd z not_auth.1)).2 tr _ rfl (word_of_row fr_words.1 hid) (by simp)
    have f2 := fault_pars ps [] (rest := (("author" : Str) ++ (" " : Str) ++ au) :: (("time" : Str) ++ (" " : Str) ++ numS n) :: ("" : Str) :: rs) (ss := ["time", "empty"]) (n := 0 + 1) o4 o3 o2
    have hau : Al.auth.f au = true := o5
    have f3 := (fault_word st_auth (ls := (("author" : Str) ++ (" " : Str) ++ au) :: (("time" : Str) ++ (" " : Str) ++ numS n) :: ("" : Str) :: rs) (ps := [] ++ ps) (n := 0 + 1 + ps.length) (ss := ["time", "empty"]) (fun _ r rs' h => by
      injection h with h1 _
      rw [← h1]
      exact auth_not_par)).2 au _ rfl (word_of_row fr_words.2.1 hau) (by simp)
    have htm : Al.time.f (numS n) = true := num_dec (by omega)
    have f4 := (fault_word st_time (ls := (("time" : Str) ++ (" " : Str) ++ numS n) :: ("" : Str) :: rs) (ps := [] ++ ps) (n := 0 + 1 + ps.length + 1) (ss := ["empty"]) (fun z => absurd z not_auth.2.2.2)).2 (numS n) _ rfl (word_of_row fr_words.2.2.1 htm) (by simp)
    have f5 := fault_empty (ls := ("" : Str) :: rs) (ps := [] ++ ps) (n := 0 + 1 + ps.length + 1 + 1) |>.2 rs rfl
    have ff := f1.trans (f2.trans (f3.trans (f4.trans f5)))
    rw [el]
    refine (due_yes (steps := STC) ff).trans (if_pos ?_)
    have fl : flen ((("tree" : Str) ++ (" " : Str) ++ tr) :: (ps.map parR ++ ((("author" : Str) ++ (" " : Str) ++ au) :: (("time" : Str) ++ (" " : Str) ++ numS n) :: ("" : Str) :: rs))) = flen (((("tree" : Str) ++ (" " : Str) ++ tr) :: (ps.map parR ++ ((("author" : Str) ++ (" " : Str) ++ au) :: (("time" : Str) ++ (" " : Str) ++ numS n) :: ("" : Str) :: rs))).take (0 + 1 + ps.length + 1 + 1 + 1)) + flen rs := by
      have := flen_app (((("tree" : Str) ++ (" " : Str) ++ tr) :: (ps.map parR ++ ((("author" : Str) ++ (" " : Str) ++ au) :: (("time" : Str) ++ (" " : Str) ++ numS n) :: ("" : Str) :: rs))).take (0 + 1 + ps.length + 1 + 1 + 1)) (((("tree" : Str) ++ (" " : Str) ++ tr) :: (ps.map parR ++ ((("author" : Str) ++ (" " : Str) ++ au) :: (("time" : Str) ++ (" " : Str) ++ numS n) :: ("" : Str) :: rs))).drop (0 + 1 + ps.length + 1 + 1 + 1))
      rw [List.take_append_drop] at this
      have dr : ((("tree" : Str) ++ (" " : Str) ++ tr) :: (ps.map parR ++ ((("author" : Str) ++ (" " : Str) ++ au) :: (("time" : Str) ++ (" " : Str) ++ numS n) :: ("" : Str) :: rs))).drop (0 + 1 + ps.length + 1 + 1 + 1) = rs := by
        rw [show 0 + 1 + ps.length + 1 + 1 + 1 = (ps.length + 3) + 1 by omega, List.drop_succ_cons, List.drop_append, List.length_map, List.drop_of_length_le (by rw [List.length_map]; omega), show ps.length + 3 - ps.length = 3 by omega]
        rfl
      rw [dr] at this
      exact this
    rw [el, fl, show (kindF (.commit tr ps au (n : Int) msg)).length = 6 from heads_len.2.2.1] at ll
    omega
  | tag tg lb msg =>
    obtain ⟨o1, o2, o3, o4⟩ := ok
    have lt : msg.length = flen rs + t.length := lt
    show dueR _ "tag" _ t = none
    rw [due_tag]
    have hid : Al.id.f tg = true := o1
    have hsg : Al.seg.f lb = true := o2
    have el : rowsO (.tag tg lb msg) ++ rs = (("target" : Str) ++ (" " : Str) ++ tg) :: (("label" : Str) ++ (" " : Str) ++ lb) :: ("" : Str) :: rs := rfl
    have f1 := (fault_word st_target (ls := (("target" : Str) ++ (" " : Str) ++ tg) :: (("label" : Str) ++ (" " : Str) ++ lb) :: ("" : Str) :: rs) (ps := []) (n := 0) (ss := ["label", "empty"]) (fun z => absurd z not_auth.2.1)).2 tg _ rfl (word_of_row fr_words.2.2.2.1 hid) (by simp)
    have f2 := (fault_word st_label (ls := (("label" : Str) ++ (" " : Str) ++ lb) :: ("" : Str) :: rs) (ps := []) (n := 0 + 1) (ss := ["empty"]) (fun z => absurd z not_auth.2.2.1)).2 lb _ rfl (word_of_row fr_words.2.2.2.2 hsg) (by simp)
    have f3 := fault_empty (ls := ("" : Str) :: rs) (ps := []) (n := 0 + 1 + 1) |>.2 rs rfl
    have ff := f1.trans (f2.trans f3)
    rw [el]
    refine (due_yes (steps := STG) ff).trans (if_pos ?_)
    have fl : flen ((("target" : Str) ++ (" " : Str) ++ tg) :: (("label" : Str) ++ (" " : Str) ++ lb) :: ("" : Str) :: rs) = flen (((("target" : Str) ++ (" " : Str) ++ tg) :: (("label" : Str) ++ (" " : Str) ++ lb) :: ("" : Str) :: rs).take (0 + 1 + 1 + 1)) + flen rs := by
      show _ = flen [("target" : Str) ++ (" " : Str) ++ tg, ("label" : Str) ++ (" " : Str) ++ lb, ("" : Str)] + flen rs
      rw [flen_cons, flen_cons, flen_cons, flen_cons, flen_cons, flen_cons, flen_nil]
      omega
    rw [el, fl, show (kindF (.tag tg lb msg)).length = 3 from heads_len.2.2.2] at ll
    omega

end Fk

set_option maxHeartbeats 4000000
/-! A try with except clauses, of which any may have a name, and an else. -/
namespace Fk
open PySem PySem.Spec PyProof.Rows L2
section
variable {X : Cx} {body : List Stmt} {h₀ : ExceptHandler} {hds : List ExceptHandler} {l : List (Value × (Addr → Value → Option Addr → TS))} {pos : Pos} {tb : WX → TS} {Wout : WX}
theorem ps_tryAE {orelse : List Stmt} {u : TS} (ho : PSs X orelse u) (hs : X.stack = X.env :: X.outer) (hf : X.env.frame = some X.env.locals) (tk : Takes X Wout)
    (hb : ∀ (W : WX) (pn : List (Addr × Obj)) (xe : Value → Shared → Prop), Takes (X.tr pn xe) W → PassesOwn (model X.prog X.w) X.A X.env xe → PSs (X.tr pn xe) body (tb W))
    (hh : HdA X (h₀ :: hds) l) : PS X (.Try body (h₀ :: hds) orelse [] pos) (fun D σ H => tb (wMany X.K Wout D l) { D with nx := u D } σ H) := by
  refine ⟨fun pins s σ H D I h => ?_⟩
  have ok := I.ok
  have hfr : X.A.frames = some (X.env :: X.outer) := by rw [ok.frames, hs]
  refine wpAny_Try_except ?_
  refine wpAny_mono ((hb (wMany X.K Wout D l) (X.pn ++ pins) (fun e s₁ => wpAny (model X.prog X.w) X.A (noteFrame e X.env) (fun _ s₂ => wpAny (model X.prog X.w) X.A (setFlight e none) (fun _ s₃ =>
    wpAny (model X.prog X.w) X.A (handleBy e X.env (h₀ :: hds)) (SP X pins D) X.xe s₃) X.xe s₂) X.xe s₁) (fun u s' xx => ?_) PassesOwn.looking).run [] s σ H { D with nx := u D } (I.toTry _) h) (fun f s1 hsp => ?_) (fun e s1 he => he)
  · obtain ⟨a, B, sI, pins', σ', H', cls, d, rfl, J', nb, up, sky, na, os, ag, w⟩ := xx
    have J : Inv X pins σ' H' sI := J'.ofTry ok
    have sky' : Sky B (X.env :: X.outer) a (Zc cls d) X.env.locals s'.heap := by rw [← hs]; exact sky
    show wpAny (model X.prog X.w) X.A (noteFrame (.ref a) X.env) _ _ _
    refine Sky.land Zc.steady hfr hf sky' fun h3 fl3 up3 => ?_
    have J3 : Inv X pins σ' H' { s' with heap := h3 } := J.landed nb fl3.1 (up.trans up3) os ag
    obtain ⟨oe3, vs3, he3, hz3, hd3⟩ := fl3.there
    have notFr : ∀ {h : Heap} {o : Obj} {vs : Array Value}, h.FunFrames B (X.env :: X.outer) → h.get? a = some o → o.data = .fields vs → a ∉ frs (X.env :: X.outer) := fun {h o vs} ff e dd hm => by
      obtain ⟨_, o', e', hnf⟩ := ff.mem hm
      rw [e] at e'; cases e'
      exact hnf _ dd
    have nfr := notFr fl3.2.2.1 he3 hd3
    have nL : a ≠ X.env.locals := fun z => nfr (List.mem_filterMap.mpr ⟨X.env, List.mem_cons_self, by rw [hf, z]⟩)
    have nF : a ∉ X.fs := fun hm => by
      obtain ⟨e, he, q⟩ := List.mem_filterMap.mp hm
      exact nfr (List.mem_filterMap.mpr ⟨e, List.mem_cons_of_mem _ he, q⟩)
    have S3 := J3.suite he3 hd3 na nL nF
    have go : ∀ {hds' : List ExceptHandler} {l' : List (Value × (Addr → Value → Option Addr → TS))}, HdA X hds' l' → wMany X.K Wout D l' cls d σ' H' →
        wpAny (model X.prog X.w) X.A (handleBy (.ref a) X.env hds') (SP X pins D) X.xe { s' with heap := h3 } := by
      intro hds' l' hk
      induction hk with
      | nil =>
        intro w
        refine wpAny_handleBy_nil ?_
        obtain ⟨k1, k2, k3, oe, vs, T, oT, ts', he, hz, hd, h1, hr⟩ := id fl3
        unfold PySem.passOn
        refine wpAny_bind (wpAny_field he hd h1 ?_)
        rw [if_neg (show ¬ ((Value.ref T == Value.none) = true) from by simp)]
        have fin : wpAny (model X.prog X.w) X.A (setFlight (.ref a) X.env.frame) (fun _ s4 => wpAny (model X.prog X.w) X.A (throw (.ref a) : Sem Flow) (SP X pins D) X.xe s4) X.xe { s' with heap := h3 } := by
          rw [hf]
          refine HandSPX.setFlight_upZ fl3 fun h4 hh4 up4 => wpAny_throw (tk _ _ ?_)
          exact ⟨a, B, sI, pins, σ', H', cls, d, rfl, J, nb, (up.trans up3).trans up4, .inr (.inr (by rw [hs]; exact hh4)), na, os, ag, w⟩
        first
          | exact wpAny_bind (wpAny_pure (wpAny_bind fin))
          | exact wpAny_bind fin
      | @cons x c ts b₀ suite np pos' hds2 l2 hc hsu r ih =>
        intro w
        obtain ⟨b, hb1, hyes, hno⟩ := w
        refine wpAny_handleBy_cons (codeAny_handlers_test ?_) (by intro q; cases q)
        have LT : PySem.W.Looks (model X.prog X.w) h3 (typeOf (.ref a)) cls := fun A Q E s k q => wpAny_typeOf_ref (k _ _ he3) (by rw [hz3.1]; exact q)
        have LM := PySem.W.exm_one (M := model X.prog X.w) (J3.kIn) LT hb1
        have test : ∀ {Q : Value → Shared → Prop} {E : Value → Shared → Prop}, Q c { s' with heap := h3 } → wpAny (model X.prog X.w) (X.A.mark (some (.ref a))) (eval (.Name x np) X.env) Q E { s' with heap := h3 } := fun {Q E} q => by
          obtain ⟨hg, hdbg, hm | ⟨hm, hv, hnn⟩⟩ := hc
          · exact ld_glob (X := X.suite a ((a, oe3) :: (X.pn ++ pins))) S3 hg hm q hdbg
          · exact ld_blt (X := X.suite a ((a, oe3) :: (X.pn ++ pins))) S3 hg hm hv q hnn hdbg
        refine test (LM.here ?_)
        cases b with
        | true =>
          refine codeAny_handlers_suite ?_
          refine HandSPX.lands_againZ fl3 fun h4 fl4 up4 => ?_
          have J4 : Inv X pins σ' H' { s' with heap := h4 } := J.landed nb fl4.1 ((up.trans up3).trans up4) os ag
          obtain ⟨oe4, vs4, he4, hz4, hd4⟩ := fl4.there
          have S4 := J4.suite he4 hd4 na nL nF
          refine wpAny_mono ((hsu a oe4 cls d (X.pn ++ pins) hz4 ⟨_, hd4⟩).run [] _ _ H' _ S4 (hyes rfl a na)) (fun f s6 hsp => ?_) (fun _ _ z => False.elim z)
          cases f with
          | next =>
            obtain ⟨σ6, H6, S6, q6⟩ := hsp
            exact ⟨_, _, S6.unsuite ok, q6⟩
          | brk =>
            obtain ⟨σ6, H6, S6, q6⟩ := hsp
            exact ⟨_, _, S6.unsuite ok, q6⟩
          | cont =>
            obtain ⟨σ6, H6, S6, q6⟩ := hsp
            exact ⟨_, _, S6.unsuite ok, q6⟩
          | ret u =>
            obtain ⟨v6, σ6, H6, S6, r6, q6⟩ := hsp
            exact ⟨_, _, _, S6.unsuite ok, r6, q6⟩
        | false =>
          show wpAny _ X.A (handleBy (.ref a) X.env hds2) _ _ _
          exact ih (hno rfl)
      | @as x n i c ts b₀ suite np pos' hds2 l2 hN hi hln hc hsu r ih =>
        intro w
        have hloc : Loc X.env.scope n := .inl hln
        obtain ⟨b, hb1, hyes, hno⟩ := w
        refine wpAny_handleBy_cons (codeAny_handlers_test ?_) (by intro q; cases q)
        have LT : PySem.W.Looks (model X.prog X.w) h3 (typeOf (.ref a)) cls := fun A Q E s k q => wpAny_typeOf_ref (k _ _ he3) (by rw [hz3.1]; exact q)
        have LM := PySem.W.exm_one (M := model X.prog X.w) (J3.kIn) LT hb1
        have test : ∀ {Q : Value → Shared → Prop} {E : Value → Shared → Prop}, Q c { s' with heap := h3 } → wpAny (model X.prog X.w) (X.A.mark (some (.ref a))) (eval (.Name x np) X.env) Q E { s' with heap := h3 } := fun {Q E} q => by
          obtain ⟨hg, hdbg, hm | ⟨hm, hv, hnn⟩⟩ := hc
          · exact ld_glob (X := X.suite a ((a, oe3) :: (X.pn ++ pins))) S3 hg hm q hdbg
          · exact ld_blt (X := X.suite a ((a, oe3) :: (X.pn ++ pins))) S3 hg hm hv q hnn hdbg
        refine test (LM.here ?_)
        cases b with
        | true =>
          refine codeAny_handlers_suite_as ?_
          refine HandSPX.lands_againZ fl3 fun h4 fl4 up4 => ?_
          have J4 : Inv X pins σ' H' { s' with heap := h4 } := J.landed nb fl4.1 ((up.trans up3).trans up4) os ag
          obtain ⟨oe4, vs4, he4, hz4, hd4⟩ := fl4.there
          have S4 := J4.suite he4 hd4 na nL nF
          refine store_ok (X := X.suite a ((a, oe4) :: (X.pn ++ pins))) (v := .ref a) S4 hN hi hloc rfl (fun s5 S5 => ?_) (.inr hln)
          refine wpAny_mono ((hsu a oe4 cls d (X.pn ++ pins) hz4 ⟨_, hd4⟩).run [] s5 _ H' _ S5 (hyes rfl a na)) (fun f s6 hsp => ?_) (fun _ _ z => False.elim z)
          have end_ : ∀ {σ6 : L2.St} {H6 : Hp} {Q : Shared → Prop}, Inv (X.suite a ((a, oe4) :: (X.pn ++ pins))) [] σ6 H6 s6 → (∀ s7, Inv X pins (σ6.set i none) H6 s7 → Q s7) →
              wpAny (model X.prog X.w) X.A (do bindName X.env n .none; unbindBehindTheSuite X.env n pos') (fun _ s7 => Q s7) X.xe s6 := fun {σ6 H6 Q} S6 hq => gone_ok (S6.unsuite ok) hN hi hln hq
          cases f with
          | next =>
            obtain ⟨σ6, H6, S6, q6⟩ := hsp
            exact end_ S6 fun s7 J7 => ⟨_, _, J7, q6⟩
          | brk =>
            obtain ⟨σ6, H6, S6, q6⟩ := hsp
            exact end_ S6 fun s7 J7 => ⟨_, _, J7, q6⟩
          | cont =>
            obtain ⟨σ6, H6, S6, q6⟩ := hsp
            exact end_ S6 fun s7 J7 => ⟨_, _, J7, q6⟩
          | ret u =>
            obtain ⟨v6, σ6, H6, S6, r6, q6⟩ := hsp
            exact end_ S6 fun s7 J7 => ⟨_, _, _, J7, r6, q6⟩
        | false =>
          show wpAny _ X.A (handleBy (.ref a) X.env hds2) _ _ _
          exact ih (hno rfl)
    exact go hh w
  · cases f with
    | next =>
      obtain ⟨σ', H', J', q⟩ := hsp
      exact ho.run pins s1 σ' H' D (J'.ofTry ok) q
    | brk =>
      obtain ⟨σ', H', J', q⟩ := hsp
      exact ⟨σ', H', J'.ofTry ok, q⟩
    | cont =>
      obtain ⟨σ', H', J', q⟩ := hsp
      exact ⟨σ', H', J'.ofTry ok, q⟩
    | ret u =>
      obtain ⟨v, σ', H', J', r, q⟩ := hsp
      exact ⟨v, σ', H', J'.ofTry ok, r, q⟩
end
end Fk

set_option maxHeartbeats 4000000
namespace Fk
open PySem PySem.Spec PyProof.Rows L2
theorem xf_of {K : PySem.W.Frag} {C fI : Addr} (T : XC K C fI) : XfC K C := ⟨T.ga, T.gg, T.su, T.hd⟩
theorem cutV_map {α : Type} (l : List α) (g : α → V) (lo hi : Option Int) : ∃ m : List α, cutV (l.map g) lo hi = m.map g := by
  unfold cutV
  rw [← List.map_drop, ← List.map_take]
  exact ⟨_, rfl⟩
theorem cells_int {v : Int} {ns : List Int} {lo hi : Option Int} {x : V} (h : x ∈ [V.int v] ++ cutV (ns.map V.int) lo hi) : ∃ n, x = .int n := by
  rcases List.mem_append.mp h with h | h
  · exact ⟨v, List.mem_singleton.mp h⟩
  · obtain ⟨m, e⟩ := cutV_map ns V.int lo hi
    rw [e] at h
    obtain ⟨n, _, rfl⟩ := List.mem_map.mp h
    exact ⟨n, rfl⟩
theorem text_pl {x : Str} (h : isTextF x = true) : PlL (TL.tl x) := fun u hu => List.all_eq_true.mp (Bool.and_eq_true_iff.mp h).2 u hu
theorem pl_set {x y : Str} (h : ∀ u ∈ TL.tl x, u ∈ TL.tl y) (hy : (TL.tl y).all (fun u => decide (u = 10) || plainC u) = true) : PlL (TL.tl x) := fun u hu => List.all_eq_true.mp hy u (h u hu)
theorem pl_id {x : Str} (h : isIdF x = true) : PlL (TL.tl x) := pl_set (only_sub (Bool.and_eq_true_iff.mp (show (decide _ && _) = true from h)).2) (by decide +kernel)
theorem pl_word {x y : Str} (h : isWordF y x = true) (hy : (TL.tl y).all (fun u => decide (u = 10) || plainC u) = true) : PlL (TL.tl x) := by
  unfold isWordF at h
  simp only [Bool.and_eq_true] at h
  exact pl_set (only_sub h.2.2) hy
theorem pl_seg {x : Str} (h : isSegF x = true) : PlL (TL.tl x) := by
  unfold isSegF at h
  exact pl_word (Bool.and_eq_true_iff.mp h).1 (by decide +kernel)
theorem pl_num (n : Nat) : PlL (TL.tl (Str.ofString (toString ((n : Nat) : Int)))) := fun u hu => by
  rw [TL.tl_num] at hu
  have h := TL.numL_digits n u hu
  have : ∀ u < 58, 48 ≤ u → (decide (u = 10) || plainC u) = true := by decide +kernel
  exact this u (by omega) h.1
theorem pl_lit {x : Str} (h : (TL.tl x).all (fun u => decide (u = 10) || plainC u) = true) : PlL (TL.tl x) := fun u hu => List.all_eq_true.mp h u hu
theorem pl_flat {ls : List Str} (h : ∀ r ∈ ls, PlL (TL.tl r)) : PlL (flatL ls) := fun u hu => by
  obtain ⟨l, hl, hu⟩ := List.mem_flatten.mp hu
  obtain ⟨r, hr, rfl⟩ := List.mem_map.mp hl
  rcases List.mem_append.mp hu with hu | hu
  · exact h r hr u hu
  · rw [List.mem_singleton.mp hu]
    rfl
theorem pl_enc {o : Ob} (ok : o.ok) : PlL (TL.tl (encF o)) := by
  rw [enc_rows]
  have k : PlL (TL.tl (kindF o)) := by
    cases o with
    | blob x => exact pl_lit (x := ("blob" : Str)) (by decide +kernel)
    | tree es => exact pl_lit (x := ("tree" : Str)) (by decide +kernel)
    | commit t ps au tm msg => exact pl_lit (x := ("commit" : Str)) (by decide +kernel)
    | tag tg lb msg => exact pl_lit (x := ("tag" : Str)) (by decide +kernel)
  have r : ∀ r ∈ rowsO o, PlL (TL.tl r) := by
    have wd : ∀ {hd x : Str}, PlL (TL.tl hd) → PlL (TL.tl x) → PlL (TL.tl (hd ++ (" " : Str) ++ x)) := fun a b => pl_app (pl_app a (pl_lit (by decide +kernel))) b
    cases o with
    | blob x => exact fun r hr => (List.not_mem_nil hr).elim
    | tree es =>
      intro r hr
      obtain ⟨e, he, rfl⟩ := List.mem_map.mp hr
      obtain ⟨o1, o2, o3⟩ := ok.2.2.2 e he
      have kn : ∀ k ∈ KINDS, (TL.tl k).all (fun u => decide (u = 10) || plainC u) = true := by decide +kernel
      intro u hu
      rw [line_tl] at hu
      rcases List.mem_append.mp hu with hu | hu
      · exact pl_lit (kn _ o2) u hu
      · rcases List.mem_cons.mp hu with rfl | hu
        · rfl
        · rcases List.mem_append.mp hu with hu | hu
          · exact pl_seg o1 u hu
          · rcases List.mem_cons.mp hu with rfl | hu
            · rfl
            · exact pl_id o3 u hu
    | commit t ps au tm msg =>
      obtain ⟨o1, o2, o3, o4, o5, o6, o7, o8, o9⟩ := ok
      obtain ⟨n, rfl⟩ := Int.eq_ofNat_of_zero_le o6
      intro r hr
      rcases List.mem_cons.mp hr with rfl | hr
      · exact wd (pl_lit (by decide +kernel)) (pl_id o1)
      · rcases List.mem_append.mp hr with hr | hr
        · obtain ⟨p, hp, rfl⟩ := List.mem_map.mp hr
          exact wd (pl_lit (by decide +kernel)) (pl_id (o4 p hp))
        · simp only [List.mem_cons, List.not_mem_nil, or_false] at hr
          rcases hr with rfl | rfl | rfl
          · exact wd (pl_lit (by decide +kernel)) (pl_word o5 (by decide +kernel))
          · exact wd (pl_lit (by decide +kernel)) (pl_num n)
          · exact pl_lit (by decide +kernel)
    | tag tg lb msg =>
      obtain ⟨o1, o2, o3, o4⟩ := ok
      intro r hr
      have hr : r ∈ [("target" : Str) ++ (" " : Str) ++ tg, ("label" : Str) ++ (" " : Str) ++ lb, ("" : Str)] := hr
      simp only [List.mem_cons, List.not_mem_nil, or_false] at hr
      rcases hr with rfl | rfl | rfl
      · exact wd (pl_lit (by decide +kernel)) (pl_id o1)
      · exact wd (pl_lit (by decide +kernel)) (pl_seg o2)
      · exact pl_lit (by decide +kernel)
  have t : PlL (TL.tl (tailO o)) := by
    cases o with
    | blob x => exact text_pl ok
    | tree es => exact pl_lit (x := ("" : Str)) (by decide +kernel)
    | commit t ps au tm msg => exact text_pl ok.2.2.2.2.2.2.2.1
    | tag tg lb msg => exact text_pl ok.2.2.1
  intro u hu
  rcases List.mem_append.mp hu with hu | hu
  · exact k u hu
  · rcases List.mem_cons.mp hu with rfl | hu
    · rfl
    · rcases List.mem_append.mp hu with hu | hu
      · exact pl_flat r u hu
      · exact t u hu
theorem bytL_app (a b : List Nat) : bytL a ++ bytL b = bytL (a ++ b) := by
  unfold bytL
  rw [List.map_append, List.append_toArray]
theorem blob_bytes (z : Str) : PySem.W.KBy.picked (byts (encF (.blob z))) (some 5) none = bytL (TL.tl z) := by
  rw [byts_L]
  have e : TL.tl (encF (.blob z)) = TL.tl ("blob\n" : Str) ++ TL.tl z := TL.tl_append _ _
  have l : (TL.tl ("blob\n" : Str)).length = 5 := by decide +kernel
  have p := pkf_L (L := TL.tl (encF (.blob z))) (i := 5) (by rw [e, List.length_append, l]; omega)
  rw [show ((5 : Nat) : Int) = 5 from rfl] at p
  rw [p, e, List.drop_left' l]
section
variable {P : Program} {w : World} {K : PySem.W.Frag} {mg : Str → Option Value} {base : Heap} {c : C4} {CS cX iX ek pd cO iO : Addr}
def spLaw (K : PySem.W.Frag) : Sp := fun vs H Q _ => ∃ (a : Addr) (zs : List Int), vs = [.ref a] ∧ SqL K H a (zs.map V.int) ∧ zs.length ≤ 63 ∧ ∀ H', Q (.bl true) H'
theorem ok_law (S : TopB K mg c CS cX iX ek pd cO iO) {f : Addr} {fd : FuncData} (F : C8.Fun K "law" "law" s_law f fd) : FnOk P w K mg base C8.CX0 10 f fd ["_law_script"] (spLaw K) := by
  have T := S.toTopO
  refine C8.fn0 F sc_law (fun vs H Q E h => ?_) (fun cdv A outer s H vs Q E hr h => ?_)
  · obtain ⟨a, zs, rfl, _⟩ := h
    rfl
  · obtain ⟨a, zs, rfl, hS, hlen, q⟩ := h
    refine ⟨_, (pss_cons (ps_for PassesOwn.never rfl (pi_list (pe_op op_cat (pe_lst (pa_cons (C8.pe_c (c_l_cell_at T.toTop) hr (by decide) (by rfl) (pa_cons (pv 0) (pa_cons pe_int pa_nil))) pa_nil)) (pe_slice sl_list (pv 0) (po_some pe_int) (po_some pe_int)))) (pg_name (i := 1) sc_law.nd rfl (Or.inl rfl))
      (pss_cons (ps_set (i := 2) sc_law.nd rfl (Or.inl rfl) (C8.pe_c (c_l_well T.toTop) hr (by decide) (by rfl) (pa_cons (pv 1) pa_nil)))
      (pss_cons (ps_for PassesOwn.never rfl (pi_range1 (by rfl) T.z_range (pa_cons pe_int pa_nil)) (pg_name (i := 3) sc_law.nd rfl (Or.inl rfl))
      (pss_cons (ps_set (i := 4) sc_law.nd rfl (Or.inl rfl) (C8.pe_c (c_l_lines T.toTop) hr (by decide) (by rfl) (pa_cons (pv 2) (pa_cons (pv 3) pa_nil))))
      (pss_cons (ps_for PassesOwn.never rfl (pi_list (pe_lst (pa_cons (pv 4) (pa_cons (C8.pe_c (c_l_spoilt T.toTop) hr (by decide) (by rfl) (pa_cons (pv 2) (pa_cons (pv 4) pa_nil))) (pa_cons (C8.pe_c (c_l_spoilt T.toTop) hr (by decide) (by rfl) (pa_cons (pv 2) (pa_cons (C8.pe_c (c_l_spoilt T.toTop) hr (by decide) (by rfl) (pa_cons (pv 2) (pa_cons (pv 4) pa_nil))) pa_nil))) pa_nil))))) (pg_name (i := 5) sc_law.nd rfl (Or.inl rfl))
      (pss_cons (ps_set (i := 5) sc_law.nd rfl (Or.inl rfl) (pe_slice sl_str (pv 5) po_none (po_some pe_int)))
      (pss_cons (ps_set (i := 6) sc_law.nd rfl (Or.inl rfl) (pe_op op_add_byt (pe_slice sl_byt (C8.pe_c (c_encode T) hr (by decide) (by rfl) (pa_cons (C8.pe_mk (k_Blob T) hr (by decide) (by rfl) (pa_cons (pe_slice sl_str (pv 5) po_none (po_some pe_int)) pa_nil)) pa_nil)) (po_some pe_int) po_none) (pe_slice sl_byt (C8.pe_c (c_encode T) hr (by decide) (by rfl) (pa_cons (C8.pe_mk (k_Blob T) hr (by decide) (by rfl) (pa_cons (pe_slice sl_str (pv 5) (po_some pe_int) po_none) pa_nil)) pa_nil)) (po_some pe_int) po_none)))
      (pss_cons (ps_set (i := 7) sc_law.nd rfl (Or.inl rfl) (C8.pe_c (c_l_due T.toTop) hr (by decide) (by rfl) (pa_cons (pv 5) pa_nil)))
      (pss_one (ps_tryAE (pss_one (ps_if (PW.pt (pw_or (pt_cmpR op_notN (pv 7) pe_non (nomark _)) (pw_or1 (pt_cmpR op_ne (C8.pe_c (c_encode T) hr (by decide) (by rfl) (pa_cons (pv 8) pa_nil)) (pv 6) (nomark _)))))
      (pss_one (ps_ret pe_bl))
      pss_nil)) rfl rfl takes_none5 (fun W pn xe tk _ =>
      (pss_one (ps_set (i := 8) sc_law.nd rfl (Or.inl rfl) (pe_cx (cx_decode S) hr (by decide) (fun _ => passAt tk _) (by rfl) (pa_cons (pv 6) pa_nil))))) (HdA.as (i := 10) sc_law.nd rfl rfl ⟨rfl, by decide, .inl S.eO.mgc⟩ (fun a oe cls d pn hz hf =>
      (pss_one (ps_if (PW.pt (pw_or (pt_cmpR op_isN (pv 7) pe_non (nomark _)) (pw_or1 (pt_cmpR op_ne (pe_xf (xf_of S.eO.xc) S.eO.nf hz hf (pv 10)) (pv 7) (nomark _)))))
      (pss_one (ps_ret pe_bl))
      pss_nil))) HdA.nil)))))))
      (pss_one (ps_if (pt_cmpR op_notN (C8.pe_c (c_l_due T.toTop) hr (by decide) (by rfl) (pa_cons (pv 4) pa_nil)) pe_non (nomark _))
      (pss_one (ps_ret pe_bl))
      pss_nil)))))
      (pss_cons (ps_tryA rfl rfl takes_none5 (fun W pn xe tk _ =>
      (pss_cons (ps_set (i := 8) sc_law.nd rfl (Or.inl rfl) (pe_cx (cx_decode S) hr (by decide) (fun _ => passAt tk _) (by rfl) (pa_cons (C8.pe_c (c_l_pick T.toTop) hr (by decide) (by rfl) (pa_cons (pv 2) (pa_cons (pe_lst (pa_cons pe_non (pa_cons pe_str (pa_cons pe_int (pa_cons (pe_lst pa_nil) (pa_cons pe_dnewK (pa_cons (pe_tup (pa_cons pe_str pa_nil)) (pa_cons pe_bl pa_nil)))))))) pa_nil))) pa_nil)))
      (pss_one (ps_ret (pe_cmpR op_ne (pv 8) (pv 8) (nomark _)))))) (HdA.as (i := 10) sc_law.nd rfl rfl ⟨rfl, by decide, .inl S.eO.mgc⟩ (fun a oe cls d pn hz hf =>
      (pss_one (ps_set (i := 9) sc_law.nd rfl (Or.inl rfl) (pe_xf (xf_of S.eO.xc) S.eO.nf hz hf (pv 10))))) HdA.nil))
      (pss_one (ps_if (pt_cmpR op_ne (pv 9) pe_int (nomark _))
      (pss_one (ps_ret pe_bl))
      pss_nil))))))
      (pss_one (ps_ret pe_bl))), ?_⟩
    refine ⟨.ref a, rfl, a, zs, 0, rfl, hS, fun v => ⟨(by show 1 ≤ sizeLine; decide), fun p1 n1 => ?_⟩⟩
    have s2 := same_new (o := .lst [V.int v]) n1
    have h1 : (upd H p1 (.lst [V.int v])) p1 = some (.lst [V.int v]) := upd_same
    generalize upd H p1 (.lst [V.int v]) = H2 at s2 h1 ⊢
    refine ⟨.ref a, rfl, 1, rfl, 8, rfl, a, zs.map V.int, rfl, s2.seq hS, fun p2 n2 => ?_⟩
    have s3 := same_new (o := .lst (cutV (zs.map V.int) (some 1) (some 8))) n2
    have h2 : (upd H2 p2 (.lst (cutV (zs.map V.int) (some 1) (some 8)))) p2 = some (.lst (cutV (zs.map V.int) (some 1) (some 8))) := upd_same
    generalize upd H2 p2 (.lst (cutV (zs.map V.int) (some 1) (some 8))) = H3 at s3 h2 ⊢
    refine ⟨p1, p2, _, _, rfl, rfl, s3 _ _ h1, h2, ?_, fun L nLL => ?_⟩
    · have := cutV_length (zs.map V.int) (some 1) (some 8)
      rw [List.length_map] at this
      exact small_line (by simp only [List.length_cons, List.length_nil]; omega)
    have h4 : (upd H3 L (.lst ([V.int v] ++ cutV (zs.map V.int) (some 1) (some 8)))) L = some (.lst ([V.int v] ++ cutV (zs.map V.int) (some 1) (some 8))) := upd_same
    generalize upd H3 L (.lst ([V.int v] ++ cutV (zs.map V.int) (some 1) (some 8))) = H4 at h4 ⊢
    have ci : ∀ x ∈ [V.int v] ++ cutV (zs.map V.int) (some 1) (some 8), ∃ n, x = .int n := fun x hx => cells_int hx
    generalize [V.int v] ++ cutV (zs.map V.int) (some 1) (some 8) = items at h4 ci ⊢
    refine ⟨L, rfl, ⟨_, SqL.of h4⟩, ?_⟩
    refine forG (items := items) yields_list (fun i σ H' => H' L = some (.lst items) ∧ ∃ z1 z2 z3 z4 z5 z6 z7 z8 z9, σ = [some (.ref a), z1, z2, z3, z4, z5, z6, z7, z8, z9, none])
      ⟨h4, none, none, none, none, none, none, none, none, none, rfl⟩ (fun i σ H' I => SqL.of I.1) (fun i x σ H' hi I => ?_) (fun σ H' I => ?_)
    · obtain ⟨hL, z1, z2, z3, z4, z5, z6, z7, z8, z9, rfl⟩ := I
      obtain ⟨n, rfl⟩ := ci _ (List.mem_of_getElem? hi)
      refine ⟨.int n, rfl, n, rfl, fun H5 W nW s5 w5 => ?_⟩
      have LW : L ≠ W := fun e => by rw [← e, hL] at nW; cases nW
      refine ⟨4, rfl, by decide, by decide, ?_⟩
      refine forG (items := (List.range (4 : Int).toNat).map fun (i : Nat) => V.int (0 + (i : Int))) yields_range (fun i σ H' => ∃ k', H' L = some (.lst items) ∧ Wl H' W k' ∧ k' ≤ 6000 * i ∧ ∃ z3 z4 z5 z6 z7 z8 z9, σ = [some (.ref a), some (.int n), some (.ref W), z3, z4, z5, z6, z7, z8, z9, none])
        ⟨0, s5 _ _ hL, w5, by omega, z3, z4, z5, z6, z7, z8, z9, rfl⟩ (fun i σ H' I => trivial) (fun i x σ H' hi I => ?_) (fun σ H' I => ?_)
      · obtain ⟨k', hL6, w6, kb, y3, y4, y5, y6, y7, y8, y9, rfl⟩ := I
        have hi4 : i < 4 := by
          have := (List.getElem?_eq_some_iff.mp hi).1
          rw [List.length_map, List.length_range] at this
          exact this
        have ex : x = .int (i : Int) := by
          rw [List.getElem?_map, List.getElem?_range (show i < (4 : Int).toNat from hi4)] at hi
          have := Option.some.inj hi
          rw [← this]
          show V.int (0 + (i : Int)) = .int i
          rw [Int.zero_add]
        subst ex
        refine ⟨.ref W, rfl, .int (i : Int), rfl, W, k', i, rfl, hi4, w6, by omega, fun o H7 k7 ok f7 w7 l7 m7 => ?_⟩
        have hL7 := f7 _ _ LW hL6
        have plc := pl_enc ok
        have lnc := enc_len ok
        refine ⟨.str (encF o), rfl, .ref W, rfl, .str (encF o), rfl, W, encF o, k7, rfl, w7, by omega, plc, by omega, fun y py ly H8 k8 f8 w8 l8 m8 => ?_⟩
        refine ⟨.ref W, rfl, .ref W, rfl, .str (encF o), rfl, W, encF o, k8, rfl, w8, by omega, plc, by omega, fun y2 py2 ly2 H9 k9 f9 w9 l9 m9 => ?_⟩
        refine ⟨W, y2, k9, rfl, w9, by omega, py2, by omega, fun y3' py3 ly3 H10 k10 f10 w10 l10 m10 => ⟨(by show 3 ≤ sizeLine; decide), fun D nD => ?_⟩⟩
        have hL10 := f10 _ _ LW (f9 _ _ LW (f8 _ _ LW hL7))
        have s11 := same_new (o := .lst [V.str (encF o), .str y, .str y3']) nD
        have hD : (upd H10 D (.lst [V.str (encF o), .str y, .str y3'])) D = some (.lst [V.str (encF o), .str y, .str y3']) := upd_same
        have hL11 := s11 _ _ hL10
        have w11 := w10.same s11
        generalize upd H10 D (.lst [V.str (encF o), .str y, .str y3']) = H11 at s11 hD hL11 w11 ⊢
        have tx : ∀ v ∈ [V.str (encF o), .str y, .str y3'], ∃ u : Str, v = .str u ∧ PlL (TL.tl u) ∧ u.length ≤ 100000 := fun v hv => by
          simp only [List.mem_cons, List.not_mem_nil, or_false] at hv
          rcases hv with rfl | rfl | rfl
          · exact ⟨_, rfl, plc, by omega⟩
          · exact ⟨_, rfl, py, by omega⟩
          · exact ⟨_, rfl, py3, by omega⟩
        generalize [V.str (encF o), .str y, .str y3'] = its at hD tx ⊢
        refine ⟨D, rfl, ⟨_, SqL.of hD⟩, ?_⟩
        refine forG (items := its) yields_list (fun j σ H' => H' L = some (.lst items) ∧ H' D = some (.lst its) ∧ Wl H' W k10 ∧ ∃ z5 z6 z7 z8 z9, σ = [some (.ref a), some (.int n), some (.ref W), some (.int (i : Int)), some (.str (encF o)), z5, z6, z7, z8, z9, none])
          ⟨hL11, hD, w11, y5, y6, y7, y8, y9, rfl⟩ (fun j σ H' I => SqL.of I.2.1) (fun j x σ H' hj I => ?_) (fun σ H' I => ?_)
        · obtain ⟨hL12, hD12, w12, u5, u6, u7, u8, u9, rfl⟩ := I
          obtain ⟨u, rfl, pu, lu⟩ := tx x (List.mem_of_getElem? hj)
          refine ⟨.str u, rfl, 4000, rfl, u, rfl, small_line (by omega), ?_⟩
          have pz := pl_cut pu none (some 4000)
          have lz : (cutS u none (some 4000)).length ≤ 4000 := by
            have e := cut_to u 4000
            rw [show ((4000 : Nat) : Int) = 4000 from rfl] at e
            rw [TL.len_tl, e, List.length_take]
            omega
          generalize cutS u none (some 4000) = z at pz lz ⊢
          have z1e : TL.tl (cutS z none (some 2000)) = (TL.tl z).take 2000 := by
            have e := cut_to z 2000
            rwa [show ((2000 : Nat) : Int) = 2000 from rfl] at e
          have z2e : TL.tl (cutS z (some 2000) none) = (TL.tl z).drop 2000 := by
            have e := cut_from z 2000
            rwa [show ((2000 : Nat) : Int) = 2000 from rfl] at e
          have lz' : (TL.tl z).length ≤ 4000 := by rw [← TL.len_tl]; exact lz
          have t1 : isTextF (cutS z none (some 2000)) = true := by
            rw [(pl_cut pz none (some 2000)).text]
            refine decide_eq_true ?_
            rw [TL.len_tl, z1e, List.length_take]
            omega
          have t2 : isTextF (cutS z (some 2000) none) = true := by
            rw [(pl_cut pz (some 2000) none).text]
            refine decide_eq_true ?_
            rw [TL.len_tl, z2e, List.length_drop]
            omega
          have zz : bytL (TL.tl (cutS z none (some 2000))) ++ bytL (TL.tl (cutS z (some 2000) none)) = bytL (TL.tl z) := by
            rw [bytL_app, z1e, z2e, List.take_append_drop]
          have lz1 : (bytL (TL.tl (cutS z none (some 2000)))).size + (bytL (TL.tl (cutS z (some 2000) none))).size ≤ 16777216 := by
            rw [bytL_size, bytL_size, z1e, z2e, List.length_take, List.length_drop]
            omega
          have bl : ∀ x : Str, isTextF x = true → (byts (encF (.blob x))).size ≤ 16777216 := fun x hx => by
            rw [byts_size]
            have := text_len hx
            show (("blob\n" : Str) ++ x).length ≤ _
            rw [len_app, lit1.2.2.2.2.2.2.2.2.2.1]
            omega
          refine ⟨.str z, rfl, 2000, rfl, z, rfl, small_line (by omega), fun b1 x1 hb1 hx1 _ => mk_blob (K := K) t1 hb1 hx1 fun H13 s13 o13 => ⟨b1, b1, .blob (cutS z none (some 2000)), rfl, o13, t1, fun H14 s14 => ⟨5, rfl, byts (encF (.blob (cutS z none (some 2000)))), rfl, bl _ t1, ?_⟩⟩⟩
          rw [blob_bytes]
          refine ⟨.str z, rfl, 2000, rfl, z, rfl, small_line (by omega), fun b2 x2 hb2 hx2 _ => mk_blob (K := K) t2 hb2 hx2 fun H15 s15 o15 => ⟨b2, b2, .blob (cutS z (some 2000) none), rfl, o15, t2, fun H16 s16 => ⟨5, rfl, byts (encF (.blob (cutS z (some 2000) none))), rfl, bl _ t2, ?_⟩⟩⟩
          rw [blob_bytes]
          refine ⟨_, _, rfl, rfl, lz1, ?_⟩
          rw [zz]
          obtain ⟨dec, hdec⟩ := dec_all z
          refine ⟨.str z, rfl, z, dec, rfl, hdec, pz, lz, fun H17 s17 => ?_⟩
          have sA := ((s13.trans s14).trans (s15.trans s16)).trans s17
          have hL17 := sA _ _ hL12
          have hD17 := sA _ _ hD12
          have w17 := w12.same sA
          refine ⟨.byt (bytL (TL.tl z)), rfl, .inl ⟨z, dec, rfl, hdec, pz, lz, fun hdue o' ao d H18 ok' ex s18 ob => ?_, fun kk hk dd H18 s18 hdd => ?_⟩⟩
          · rw [hdue]
            refine ⟨.non, rfl, rfl, _, rfl, ifF (fun z => by cases z) ⟨.ref ao, rfl, ao, d, o', rfl, ob, ok', fun H19 s19 => ?_⟩⟩
            refine ⟨.byt (bytL (TL.tl z)), rfl, rfl, _, rfl, ifF (fun c => ?_) ?_⟩
            · have c : (!decide (V.byt (byts (encF o')) = V.byt (bytL (TL.tl z)))) = true := c
              rw [ex, byts_L, decide_eq_true rfl] at c
              cases c
            · have s89 := s18.trans s19
              exact ⟨s89 _ _ hL17, s89 _ _ hD17, w17.same s89, _, _, _, _, _, rfl⟩
          · refine ⟨true, S.exO, fun _ ae na => ?_, fun z => Bool.noConfusion z⟩
            rw [hk]
            refine ⟨.int ((kk : Nat) : Int), rfl, rfl, _, rfl, ifF (fun z => by cases z) ?_⟩
            refine ⟨.ref ae, rfl, rfl, rfl, dd, _, _, rfl, hdd, rfl, .int ((kk : Nat) : Int), rfl, rfl, _, rfl, ifF (fun c => ?_) ?_⟩
            · rw [decide_eq_true rfl] at c
              cases c
            · exact ⟨s18 _ _ hL17, s18 _ _ hD17, w17.same s18, _, _, _, _, _, rfl⟩
        · obtain ⟨hL12, hD12, w12, u5, u6, u7, u8, u9, rfl⟩ := I
          obtain ⟨dec, hdec, hnone⟩ := canon ok
          refine ⟨.str (encF o), rfl, encF o, dec, rfl, hdec, plc, by omega, fun H13 s13 => ?_⟩
          rw [hnone]
          refine ⟨rfl, _, rfl, ifF (fun z => by cases z) ?_⟩
          exact ⟨k10, s13 _ _ hL12, w12.same s13, by rw [show (((i + 1 : Nat)) : Int) = (i : Int) + 1 by omega]; omega, _, _, _, _, _, _, _, rfl⟩
      · obtain ⟨k', hL6, w6, kb, y3, y4, y5, y6, y7, y8, y9, rfl⟩ := I
        have kb' : k' ≤ 24000 := by
          have e : (((List.range (4 : Int).toNat).map fun (i : Nat) => V.int (0 + (i : Int))).length : Int) = 4 := by rw [List.length_map, List.length_range]; rfl
          rw [e] at kb
          omega
        refine ⟨.ref W, rfl, (by show 0 ≤ sizeLine; decide), fun p1 h1 => fun p2 h2 => ⟨(by show 1 ≤ sizeLine; decide), fun p3 h3 => ⟨(by show 7 ≤ sizeLine; decide), fun b hb => ?_⟩⟩⟩
        have t1 := same_new (o := .lst []) h1
        have t2 := same_new (o := .dK []) h2
        have t3 := same_new (o := .tup [.str "tree"]) h3
        have tb := same_new (o := .lst [V.non, .str "blob\na", .int 3, .ref p1, .ref p2, .ref p3, .bl true]) hb
        have a1 := (t2.trans (t3.trans tb)) _ _ (show (upd H' p1 (.lst [])) p1 = some (.lst []) from upd_same)
        have a2 := (t3.trans tb) _ _ (show (upd (upd H' p1 (.lst [])) p2 (.dK [])) p2 = some (.dK []) from upd_same)
        have a3 := tb _ _ (show (upd (upd (upd H' p1 (.lst [])) p2 (.dK [])) p3 (.tup [.str "tree"])) p3 = some (.tup [.str "tree"]) from upd_same)
        have tall := (t1.trans (t2.trans (t3.trans tb)))
        have w7 := w6.same (t1.trans (t2.trans t3))
        refine do_pick (w7.same tb) upd_same (w7.ne hb) (by show 0 < 7; decide) (by show 7 < 1000000; decide) (by omega) fun v hv H8 k8 f8 w8 l8 m8 => ?_
        have kp := Kp.wl (w7.same tb) f8
        have n1 : p1 ≠ W := fun z => by
          obtain ⟨_, x, y, e⟩ := w7.same tb
          rw [← z, a1] at e
          cases e
        have od : OddV K H8 v := by
          simp only [List.mem_cons, List.not_mem_nil, or_false] at hv
          rcases hv with rfl | rfl | rfl | rfl | rfl | rfl | rfl
          · exact ⟨"NoneType", by decide, .base .non⟩
          · exact ⟨"str", by decide, .base (.str _)⟩
          · exact ⟨"int", by decide, .base (.int _)⟩
          · exact ⟨"list", by decide, .base (.lst (f8 _ _ n1 a1))⟩
          · exact ⟨"dict", by decide, .base (.dK (kp.d _ _ a2))⟩
          · exact ⟨"tuple", by decide, .base (.tup (kp.t _ _ a3))⟩
          · exact ⟨"bool", by decide, .base (.bl _)⟩
        refine .inr ⟨v, rfl, od, fun dd H9 s9 hdd => ?_⟩
        refine ⟨true, S.exO, fun _ ae na => ?_, fun z => Bool.noConfusion z⟩
        refine ⟨.ref ae, rfl, rfl, rfl, dd, _, _, rfl, hdd, rfl, ?_⟩
        refine ⟨.int ((0 : Nat) : Int), rfl, rfl, _, rfl, ifF (fun c => ?_) ?_⟩
        · exact absurd c (by decide)
        · exact ⟨s9 _ _ (f8 _ _ LW (tall _ _ hL6)), _, _, _, _, _, _, _, _, _, rfl⟩
    · exact q H'
end

end Fk

set_option maxHeartbeats 4000000
namespace Fk
open PySem PySem.Spec PyProof.Rows L2
section
variable {P : Program} {w : World} {K : PySem.W.Frag} {mg : Str → Option Value} {base : Heap}
theorem ini_BadObject {f : Addr} {fd : FuncData} (F : C8.Fun K "__init__" "BadObject.__init__" s_BadObject_init f fd) : FnOk P w K mg base C8.CX0 1 f fd ["self", "at"] (spErr K "at") := by
  refine C8.fn0 F sc_BadObject_init (fun vs H Q E h => ?_) (fun cdv A outer s H vs Q E hr h => ?_)
  · obtain ⟨a, C, fI, y, rfl, _⟩ := h
    rfl
  · obtain ⟨a, C, fI, y, rfl, T, hno, ea, q⟩ := h
    refine ⟨_, pss_one (ps_osv (pv 0) (pv 1)), ?_⟩
    exact ⟨y, rfl, .ref a, rfl, a, C, fI, rfl, T, hno, ea, q⟩
end
theorem all_mk {l : PySem.W.OpenLaw} {w : World} {K : PySem.W.Frag} {h : Heap} {mg : Str → Option Value} {fa : Addr} (X : K.In h) (G : h.Ns mainGlobals mg) (hfa : mg "law" = some (.ref fa))
    {f1 f2 f3 f4 f5 f6 f7 f8 f9 f10 f11 f12 f13 f14 f15 f16 f17 f18 f19 f20 f21 f22 f23 f24 f25 f26 f27 f28 f29 f30 f31 f32 f33 f34 f35 f36 f37 f38 f39 f40 f41 f42 f43 f44 f45 : Addr} {od1 an1 od2 an2 od3 an3 od4 an4 od5 an5 od6 an6 od7 an7 od8 an8 od9 an9 od10 an10 od11 an11 od12 an12 od13 an13 od14 an14 od15 an15 od16 an16 od17 an17 od18 an18 od19 an19 od20 an20 od21 an21 od22 an22 od23 an23 od24 an24 od25 an25 od26 an26 od27 an27 od28 an28 od29 an29 od30 an30 od31 an31 od32 an32 od33 an33 od34 an34 od35 an35 od36 an36 od37 an37 od38 an38 od39 an39 od40 an40 od41 an41 od42 an42 od43 an43 od44 an44 od45 an45 : Option Addr} {sl1 sl2 sl3 sl4 sl5 sl6 sl7 sl8 sl9 sl10 sl11 sl12 sl13 sl14 sl15 sl16 sl17 sl18 sl19 sl20 sl21 sl22 sl23 sl24 sl25 sl26 sl27 sl28 sl29 sl30 sl31 sl32 sl33 sl34 sl35 sl36 sl37 sl38 sl39 sl40 sl41 sl42 sl43 sl44 sl45 : Array (Option Value)} {oc1 kV1 dc1 pm1 cd1 ct1 oc2 kV2 dc2 pm2 cd2 ct2 oc3 kV3 dc3 pm3 cd3 ct3 oc4 kV4 dc4 pm4 cd4 ct4 oc5 kV5 dc5 pm5 cd5 ct5 oc6 kV6 dc6 pm6 cd6 ct6 oc7 kV7 dc7 pm7 cd7 ct7 oc8 kV8 dc8 pm8 cd8 ct8 oc9 kV9 dc9 pm9 cd9 ct9 oc10 kV10 dc10 pm10 cd10 ct10 oc11 kV11 dc11 pm11 cd11 ct11 oc12 kV12 dc12 pm12 cd12 ct12 oc13 kV13 dc13 pm13 cd13 ct13 oc14 kV14 dc14 pm14 cd14 ct14 oc15 kV15 dc15 pm15 cd15 ct15 oc16 kV16 dc16 pm16 cd16 ct16 oc17 kV17 dc17 pm17 cd17 ct17 oc18 kV18 dc18 pm18 cd18 ct18 oc19 kV19 dc19 pm19 cd19 ct19 oc20 kV20 dc20 pm20 cd20 ct20 oc21 kV21 dc21 pm21 cd21 ct21 oc22 kV22 dc22 pm22 cd22 ct22 oc23 kV23 dc23 pm23 cd23 ct23 oc24 kV24 dc24 pm24 cd24 ct24 oc25 kV25 dc25 pm25 cd25 ct25 oc26 kV26 dc26 pm26 cd26 ct26 oc27 kV27 dc27 pm27 cd27 ct27 oc28 kV28 dc28 pm28 cd28 ct28 oc29 kV29 dc29 pm29 cd29 ct29 oc30 kV30 dc30 pm30 cd30 ct30 oc31 kV31 dc31 pm31 cd31 ct31 oc32 kV32 dc32 pm32 cd32 ct32 oc33 kV33 dc33 pm33 cd33 ct33 oc34 kV34 dc34 pm34 cd34 ct34 oc35 kV35 dc35 pm35 cd35 ct35 oc36 kV36 dc36 pm36 cd36 ct36 oc37 kV37 dc37 pm37 cd37 ct37 oc38 kV38 dc38 pm38 cd38 ct38 oc39 kV39 dc39 pm39 cd39 ct39 oc40 kV40 dc40 pm40 cd40 ct40 oc41 kV41 dc41 pm41 cd41 ct41 oc42 kV42 dc42 pm42 cd42 ct42 oc43 kV43 dc43 pm43 cd43 ct43 oc44 kV44 dc44 pm44 cd44 ct44 oc45 kV45 dc45 pm45 cd45 ct45 : Value} {t_HEX_DIGITS : Tok} {t_LETTERS : Tok} {t_SEGMENT_SIGNS : Tok} {t_LONGEST_WORD : Tok} {t_LONGEST_TEXT : Tok} {t_LONGEST_MESSAGE : Tok} {t_LATEST : Tok} {t_MOST_ENTRIES : Tok} {t_MOST_PARENTS : Tok}
    (a1 : PySem.W.nsIn K mainGlobals "is_id" = some (some (.ref f1))) (l1 : K.lookup f1 = some ⟨oc1, od1, .func (PySem.W.fnOf "is_id" "is_id" (C8.fnArgs s_is_id) (C8.fnBody s_is_id) (C8.fnScope s_is_id) .none kV1 dc1 pm1 an1 cd1 ct1), sl1⟩) (c1 : PySem.W.codeIn K cd1 "is_id" = true) (k1 : PySem.W.keepIn K (.ref f1) = true)
    (a2 : PySem.W.nsIn K mainGlobals "is_segment" = some (some (.ref f2))) (l2 : K.lookup f2 = some ⟨oc2, od2, .func (PySem.W.fnOf "is_segment" "is_segment" (C8.fnArgs s_is_segment) (C8.fnBody s_is_segment) (C8.fnScope s_is_segment) .none kV2 dc2 pm2 an2 cd2 ct2), sl2⟩) (c2 : PySem.W.codeIn K cd2 "is_segment" = true) (k2 : PySem.W.keepIn K (.ref f2) = true)
    (a3 : PySem.W.nsIn K mainGlobals "is_author" = some (some (.ref f3))) (l3 : K.lookup f3 = some ⟨oc3, od3, .func (PySem.W.fnOf "is_author" "is_author" (C8.fnArgs s_is_author) (C8.fnBody s_is_author) (C8.fnScope s_is_author) .none kV3 dc3 pm3 an3 cd3 ct3), sl3⟩) (c3 : PySem.W.codeIn K cd3 "is_author" = true) (k3 : PySem.W.keepIn K (.ref f3) = true)
    (a4 : PySem.W.nsIn K mainGlobals "is_text" = some (some (.ref f4))) (l4 : K.lookup f4 = some ⟨oc4, od4, .func (PySem.W.fnOf "is_text" "is_text" (C8.fnArgs s_is_text) (C8.fnBody s_is_text) (C8.fnScope s_is_text) .none kV4 dc4 pm4 an4 cd4 ct4), sl4⟩) (c4 : PySem.W.codeIn K cd4 "is_text" = true) (k4 : PySem.W.keepIn K (.ref f4) = true)
    (a5 : PySem.W.nsIn K mainGlobals "is_message" = some (some (.ref f5))) (l5 : K.lookup f5 = some ⟨oc5, od5, .func (PySem.W.fnOf "is_message" "is_message" (C8.fnArgs s_is_message) (C8.fnBody s_is_message) (C8.fnScope s_is_message) .none kV5 dc5 pm5 an5 cd5 ct5), sl5⟩) (c5 : PySem.W.codeIn K cd5 "is_message" = true) (k5 : PySem.W.keepIn K (.ref f5) = true)
    (a6 : PySem.W.nsIn K mainGlobals "is_time" = some (some (.ref f6))) (l6 : K.lookup f6 = some ⟨oc6, od6, .func (PySem.W.fnOf "is_time" "is_time" (C8.fnArgs s_is_time) (C8.fnBody s_is_time) (C8.fnScope s_is_time) .none kV6 dc6 pm6 an6 cd6 ct6), sl6⟩) (c6 : PySem.W.codeIn K cd6 "is_time" = true) (k6 : PySem.W.keepIn K (.ref f6) = true)
    (a7 : PySem.W.nsIn K mainGlobals "is_count" = some (some (.ref f7))) (l7 : K.lookup f7 = some ⟨oc7, od7, .func (PySem.W.fnOf "is_count" "is_count" (C8.fnArgs s_is_count) (C8.fnBody s_is_count) (C8.fnScope s_is_count) .none kV7 dc7 pm7 an7 cd7 ct7), sl7⟩) (c7 : PySem.W.codeIn K cd7 "is_count" = true) (k7 : PySem.W.keepIn K (.ref f7) = true)
    (a8 : PySem.W.nsIn K mainGlobals "are_ids" = some (some (.ref f8))) (l8 : K.lookup f8 = some ⟨oc8, od8, .func (PySem.W.fnOf "are_ids" "are_ids" (C8.fnArgs s_are_ids) (C8.fnBody s_are_ids) (C8.fnScope s_are_ids) .none kV8 dc8 pm8 an8 cd8 ct8), sl8⟩) (c8 : PySem.W.codeIn K cd8 "are_ids" = true) (k8 : PySem.W.keepIn K (.ref f8) = true)
    (a9 : PySem.W.nsIn K mainGlobals "ascending" = some (some (.ref f9))) (l9 : K.lookup f9 = some ⟨oc9, od9, .func (PySem.W.fnOf "ascending" "ascending" (C8.fnArgs s_ascending) (C8.fnBody s_ascending) (C8.fnScope s_ascending) .none kV9 dc9 pm9 an9 cd9 ct9), sl9⟩) (c9 : PySem.W.codeIn K cd9 "ascending" = true) (k9 : PySem.W.keepIn K (.ref f9) = true)
    (a10 : PySem.W.nsIn K mainGlobals "_is_word" = some (some (.ref f10))) (l10 : K.lookup f10 = some ⟨oc10, od10, .func (PySem.W.fnOf "_is_word" "_is_word" (C8.fnArgs s__is_word) (C8.fnBody s__is_word) (C8.fnScope s__is_word) .none kV10 dc10 pm10 an10 cd10 ct10), sl10⟩) (c10 : PySem.W.codeIn K cd10 "_is_word" = true) (k10 : PySem.W.keepIn K (.ref f10) = true)
    (a11 : PySem.W.nsIn K mainGlobals "is_value" = some (some (.ref f11))) (l11 : K.lookup f11 = some ⟨oc11, od11, .func (PySem.W.fnOf "is_value" "is_value" (C8.fnArgs s_is_value) (C8.fnBody s_is_value) (C8.fnScope s_is_value) .none kV11 dc11 pm11 an11 cd11 ct11), sl11⟩) (c11 : PySem.W.codeIn K cd11 "is_value" = true) (k11 : PySem.W.keepIn K (.ref f11) = true)
    (a12 : PySem.W.nsIn K mainGlobals "encode" = some (some (.ref f12))) (l12 : K.lookup f12 = some ⟨oc12, od12, .func (PySem.W.fnOf "encode" "encode" (C8.fnArgs s_encode) (C8.fnBody s_encode) (C8.fnScope s_encode) .none kV12 dc12 pm12 an12 cd12 ct12), sl12⟩) (c12 : PySem.W.codeIn K cd12 "encode" = true) (k12 : PySem.W.keepIn K (.ref f12) = true)
    (a13 : PySem.W.nsIn K mainGlobals "decode" = some (some (.ref f13))) (l13 : K.lookup f13 = some ⟨oc13, od13, .func (PySem.W.fnOf "decode" "decode" (C8.fnArgs s_decode) (C8.fnBody s_decode) (C8.fnScope s_decode) .none kV13 dc13 pm13 an13 cd13 ct13), sl13⟩) (c13 : PySem.W.codeIn K cd13 "decode" = true) (k13 : PySem.W.keepIn K (.ref f13) = true)
    (a14 : PySem.W.nsIn K mainGlobals "_line_at" = some (some (.ref f14))) (l14 : K.lookup f14 = some ⟨oc14, od14, .func (PySem.W.fnOf "_line_at" "_line_at" (C8.fnArgs s__line_at) (C8.fnBody s__line_at) (C8.fnScope s__line_at) .none kV14 dc14 pm14 an14 cd14 ct14), sl14⟩) (c14 : PySem.W.codeIn K cd14 "_line_at" = true) (k14 : PySem.W.keepIn K (.ref f14) = true)
    (a15 : PySem.W.nsIn K mainGlobals "_text_at" = some (some (.ref f15))) (l15 : K.lookup f15 = some ⟨oc15, od15, .func (PySem.W.fnOf "_text_at" "_text_at" (C8.fnArgs s__text_at) (C8.fnBody s__text_at) (C8.fnScope s__text_at) .none kV15 dc15 pm15 an15 cd15 ct15), sl15⟩) (c15 : PySem.W.codeIn K cd15 "_text_at" = true) (k15 : PySem.W.keepIn K (.ref f15) = true)
    (a16 : PySem.W.nsIn K mainGlobals "_word_at" = some (some (.ref f16))) (l16 : K.lookup f16 = some ⟨oc16, od16, .func (PySem.W.fnOf "_word_at" "_word_at" (C8.fnArgs s__word_at) (C8.fnBody s__word_at) (C8.fnScope s__word_at) .none kV16 dc16 pm16 an16 cd16 ct16), sl16⟩) (c16 : PySem.W.codeIn K cd16 "_word_at" = true) (k16 : PySem.W.keepIn K (.ref f16) = true)
    (a17 : PySem.W.nsIn K mainGlobals "_behind" = some (some (.ref f17))) (l17 : K.lookup f17 = some ⟨oc17, od17, .func (PySem.W.fnOf "_behind" "_behind" (C8.fnArgs s__behind) (C8.fnBody s__behind) (C8.fnScope s__behind) .none kV17 dc17 pm17 an17 cd17 ct17), sl17⟩) (c17 : PySem.W.codeIn K cd17 "_behind" = true) (k17 : PySem.W.keepIn K (.ref f17) = true)
    (a18 : PySem.W.nsIn K mainGlobals "_decoded_tree" = some (some (.ref f18))) (l18 : K.lookup f18 = some ⟨oc18, od18, .func (PySem.W.fnOf "_decoded_tree" "_decoded_tree" (C8.fnArgs s__decoded_tree) (C8.fnBody s__decoded_tree) (C8.fnScope s__decoded_tree) .none kV18 dc18 pm18 an18 cd18 ct18), sl18⟩) (c18 : PySem.W.codeIn K cd18 "_decoded_tree" = true) (k18 : PySem.W.keepIn K (.ref f18) = true)
    (a19 : PySem.W.nsIn K mainGlobals "_is_entry_line" = some (some (.ref f19))) (l19 : K.lookup f19 = some ⟨oc19, od19, .func (PySem.W.fnOf "_is_entry_line" "_is_entry_line" (C8.fnArgs s__is_entry_line) (C8.fnBody s__is_entry_line) (C8.fnScope s__is_entry_line) .none kV19 dc19 pm19 an19 cd19 ct19), sl19⟩) (c19 : PySem.W.codeIn K cd19 "_is_entry_line" = true) (k19 : PySem.W.keepIn K (.ref f19) = true)
    (a20 : PySem.W.nsIn K mainGlobals "_decoded_commit" = some (some (.ref f20))) (l20 : K.lookup f20 = some ⟨oc20, od20, .func (PySem.W.fnOf "_decoded_commit" "_decoded_commit" (C8.fnArgs s__decoded_commit) (C8.fnBody s__decoded_commit) (C8.fnScope s__decoded_commit) .none kV20 dc20 pm20 an20 cd20 ct20), sl20⟩) (c20 : PySem.W.codeIn K cd20 "_decoded_commit" = true) (k20 : PySem.W.keepIn K (.ref f20) = true)
    (a21 : PySem.W.nsIn K mainGlobals "_parents_at" = some (some (.ref f21))) (l21 : K.lookup f21 = some ⟨oc21, od21, .func (PySem.W.fnOf "_parents_at" "_parents_at" (C8.fnArgs s__parents_at) (C8.fnBody s__parents_at) (C8.fnScope s__parents_at) .none kV21 dc21 pm21 an21 cd21 ct21), sl21⟩) (c21 : PySem.W.codeIn K cd21 "_parents_at" = true) (k21 : PySem.W.keepIn K (.ref f21) = true)
    (a22 : PySem.W.nsIn K mainGlobals "_is_decimal_time" = some (some (.ref f22))) (l22 : K.lookup f22 = some ⟨oc22, od22, .func (PySem.W.fnOf "_is_decimal_time" "_is_decimal_time" (C8.fnArgs s__is_decimal_time) (C8.fnBody s__is_decimal_time) (C8.fnScope s__is_decimal_time) .none kV22 dc22 pm22 an22 cd22 ct22), sl22⟩) (c22 : PySem.W.codeIn K cd22 "_is_decimal_time" = true) (k22 : PySem.W.keepIn K (.ref f22) = true)
    (a23 : PySem.W.nsIn K mainGlobals "_decoded_tag" = some (some (.ref f23))) (l23 : K.lookup f23 = some ⟨oc23, od23, .func (PySem.W.fnOf "_decoded_tag" "_decoded_tag" (C8.fnArgs s__decoded_tag) (C8.fnBody s__decoded_tag) (C8.fnScope s__decoded_tag) .none kV23 dc23 pm23 an23 cd23 ct23), sl23⟩) (c23 : PySem.W.codeIn K cd23 "_decoded_tag" = true) (k23 : PySem.W.keepIn K (.ref f23) = true)
    (a24 : PySem.W.nsIn K mainGlobals "_message_at" = some (some (.ref f24))) (l24 : K.lookup f24 = some ⟨oc24, od24, .func (PySem.W.fnOf "_message_at" "_message_at" (C8.fnArgs s__message_at) (C8.fnBody s__message_at) (C8.fnScope s__message_at) .none kV24 dc24 pm24 an24 cd24 ct24), sl24⟩) (c24 : PySem.W.codeIn K cd24 "_message_at" = true) (k24 : PySem.W.keepIn K (.ref f24) = true)
    (a25 : PySem.W.nsIn K mainGlobals "_law_cell_at" = some (some (.ref f25))) (l25 : K.lookup f25 = some ⟨oc25, od25, .func (PySem.W.fnOf "_law_cell_at" "_law_cell_at" (C8.fnArgs s_l_cell_at) (C8.fnBody s_l_cell_at) (C8.fnScope s_l_cell_at) .none kV25 dc25 pm25 an25 cd25 ct25), sl25⟩) (c25 : PySem.W.codeIn K cd25 "_law_cell_at" = true) (k25 : PySem.W.keepIn K (.ref f25) = true)
    (a26 : PySem.W.nsIn K mainGlobals "_law_well" = some (some (.ref f26))) (l26 : K.lookup f26 = some ⟨oc26, od26, .func (PySem.W.fnOf "_law_well" "_law_well" (C8.fnArgs s_l_well) (C8.fnBody s_l_well) (C8.fnScope s_l_well) .none kV26 dc26 pm26 an26 cd26 ct26), sl26⟩) (c26 : PySem.W.codeIn K cd26 "_law_well" = true) (k26 : PySem.W.keepIn K (.ref f26) = true)
    (a27 : PySem.W.nsIn K mainGlobals "_law_draw" = some (some (.ref f27))) (l27 : K.lookup f27 = some ⟨oc27, od27, .func (PySem.W.fnOf "_law_draw" "_law_draw" (C8.fnArgs s_l_draw) (C8.fnBody s_l_draw) (C8.fnScope s_l_draw) .none kV27 dc27 pm27 an27 cd27 ct27), sl27⟩) (c27 : PySem.W.codeIn K cd27 "_law_draw" = true) (k27 : PySem.W.keepIn K (.ref f27) = true)
    (a28 : PySem.W.nsIn K mainGlobals "_law_pick" = some (some (.ref f28))) (l28 : K.lookup f28 = some ⟨oc28, od28, .func (PySem.W.fnOf "_law_pick" "_law_pick" (C8.fnArgs s_l_pick) (C8.fnBody s_l_pick) (C8.fnScope s_l_pick) .none kV28 dc28 pm28 an28 cd28 ct28), sl28⟩) (c28 : PySem.W.codeIn K cd28 "_law_pick" = true) (k28 : PySem.W.keepIn K (.ref f28) = true)
    (a29 : PySem.W.nsIn K mainGlobals "_law_signs" = some (some (.ref f29))) (l29 : K.lookup f29 = some ⟨oc29, od29, .func (PySem.W.fnOf "_law_signs" "_law_signs" (C8.fnArgs s_l_signs) (C8.fnBody s_l_signs) (C8.fnScope s_l_signs) .none kV29 dc29 pm29 an29 cd29 ct29), sl29⟩) (c29 : PySem.W.codeIn K cd29 "_law_signs" = true) (k29 : PySem.W.keepIn K (.ref f29) = true)
    (a30 : PySem.W.nsIn K mainGlobals "_law_all_signs" = some (some (.ref f30))) (l30 : K.lookup f30 = some ⟨oc30, od30, .func (PySem.W.fnOf "_law_all_signs" "_law_all_signs" (C8.fnArgs s_l_all_signs) (C8.fnBody s_l_all_signs) (C8.fnScope s_l_all_signs) .none kV30 dc30 pm30 an30 cd30 ct30), sl30⟩) (c30 : PySem.W.codeIn K cd30 "_law_all_signs" = true) (k30 : PySem.W.keepIn K (.ref f30) = true)
    (a31 : PySem.W.nsIn K mainGlobals "_law_segment" = some (some (.ref f31))) (l31 : K.lookup f31 = some ⟨oc31, od31, .func (PySem.W.fnOf "_law_segment" "_law_segment" (C8.fnArgs s_l_segment) (C8.fnBody s_l_segment) (C8.fnScope s_l_segment) .none kV31 dc31 pm31 an31 cd31 ct31), sl31⟩) (c31 : PySem.W.codeIn K cd31 "_law_segment" = true) (k31 : PySem.W.keepIn K (.ref f31) = true)
    (a32 : PySem.W.nsIn K mainGlobals "_law_text" = some (some (.ref f32))) (l32 : K.lookup f32 = some ⟨oc32, od32, .func (PySem.W.fnOf "_law_text" "_law_text" (C8.fnArgs s_l_text) (C8.fnBody s_l_text) (C8.fnScope s_l_text) .none kV32 dc32 pm32 an32 cd32 ct32), sl32⟩) (c32 : PySem.W.codeIn K cd32 "_law_text" = true) (k32 : PySem.W.keepIn K (.ref f32) = true)
    (a33 : PySem.W.nsIn K mainGlobals "_law_id" = some (some (.ref f33))) (l33 : K.lookup f33 = some ⟨oc33, od33, .func (PySem.W.fnOf "_law_id" "_law_id" (C8.fnArgs s_l_id) (C8.fnBody s_l_id) (C8.fnScope s_l_id) .none kV33 dc33 pm33 an33 cd33 ct33), sl33⟩) (c33 : PySem.W.codeIn K cd33 "_law_id" = true) (k33 : PySem.W.keepIn K (.ref f33) = true)
    (a34 : PySem.W.nsIn K mainGlobals "_law_lines" = some (some (.ref f34))) (l34 : K.lookup f34 = some ⟨oc34, od34, .func (PySem.W.fnOf "_law_lines" "_law_lines" (C8.fnArgs s_l_lines) (C8.fnBody s_l_lines) (C8.fnScope s_l_lines) .none kV34 dc34 pm34 an34 cd34 ct34), sl34⟩) (c34 : PySem.W.codeIn K cd34 "_law_lines" = true) (k34 : PySem.W.keepIn K (.ref f34) = true)
    (a35 : PySem.W.nsIn K mainGlobals "_law_other_line" = some (some (.ref f35))) (l35 : K.lookup f35 = some ⟨oc35, od35, .func (PySem.W.fnOf "_law_other_line" "_law_other_line" (C8.fnArgs s_l_other_line) (C8.fnBody s_l_other_line) (C8.fnScope s_l_other_line) .none kV35 dc35 pm35 an35 cd35 ct35), sl35⟩) (c35 : PySem.W.codeIn K cd35 "_law_other_line" = true) (k35 : PySem.W.keepIn K (.ref f35) = true)
    (a36 : PySem.W.nsIn K mainGlobals "_law_spoilt" = some (some (.ref f36))) (l36 : K.lookup f36 = some ⟨oc36, od36, .func (PySem.W.fnOf "_law_spoilt" "_law_spoilt" (C8.fnArgs s_l_spoilt) (C8.fnBody s_l_spoilt) (C8.fnScope s_l_spoilt) .none kV36 dc36 pm36 an36 cd36 ct36), sl36⟩) (c36 : PySem.W.codeIn K cd36 "_law_spoilt" = true) (k36 : PySem.W.keepIn K (.ref f36) = true)
    (a37 : PySem.W.nsIn K mainGlobals "_law_is_id" = some (some (.ref f37))) (l37 : K.lookup f37 = some ⟨oc37, od37, .func (PySem.W.fnOf "_law_is_id" "_law_is_id" (C8.fnArgs s_l_is_id) (C8.fnBody s_l_is_id) (C8.fnScope s_l_is_id) .none kV37 dc37 pm37 an37 cd37 ct37), sl37⟩) (c37 : PySem.W.codeIn K cd37 "_law_is_id" = true) (k37 : PySem.W.keepIn K (.ref f37) = true)
    (a38 : PySem.W.nsIn K mainGlobals "_law_is_segment" = some (some (.ref f38))) (l38 : K.lookup f38 = some ⟨oc38, od38, .func (PySem.W.fnOf "_law_is_segment" "_law_is_segment" (C8.fnArgs s_l_is_segment) (C8.fnBody s_l_is_segment) (C8.fnScope s_l_is_segment) .none kV38 dc38 pm38 an38 cd38 ct38), sl38⟩) (c38 : PySem.W.codeIn K cd38 "_law_is_segment" = true) (k38 : PySem.W.keepIn K (.ref f38) = true)
    (a39 : PySem.W.nsIn K mainGlobals "_law_is_time" = some (some (.ref f39))) (l39 : K.lookup f39 = some ⟨oc39, od39, .func (PySem.W.fnOf "_law_is_time" "_law_is_time" (C8.fnArgs s_l_is_time) (C8.fnBody s_l_is_time) (C8.fnScope s_l_is_time) .none kV39 dc39 pm39 an39 cd39 ct39), sl39⟩) (c39 : PySem.W.codeIn K cd39 "_law_is_time" = true) (k39 : PySem.W.keepIn K (.ref f39) = true)
    (a40 : PySem.W.nsIn K mainGlobals "_law_is_author" = some (some (.ref f40))) (l40 : K.lookup f40 = some ⟨oc40, od40, .func (PySem.W.fnOf "_law_is_author" "_law_is_author" (C8.fnArgs s_l_is_author) (C8.fnBody s_l_is_author) (C8.fnScope s_l_is_author) .none kV40 dc40 pm40 an40 cd40 ct40), sl40⟩) (c40 : PySem.W.codeIn K cd40 "_law_is_author" = true) (k40 : PySem.W.keepIn K (.ref f40) = true)
    (a41 : PySem.W.nsIn K mainGlobals "_law_tree_fault" = some (some (.ref f41))) (l41 : K.lookup f41 = some ⟨oc41, od41, .func (PySem.W.fnOf "_law_tree_fault" "_law_tree_fault" (C8.fnArgs s_l_tree_fault) (C8.fnBody s_l_tree_fault) (C8.fnScope s_l_tree_fault) .none kV41 dc41 pm41 an41 cd41 ct41), sl41⟩) (c41 : PySem.W.codeIn K cd41 "_law_tree_fault" = true) (k41 : PySem.W.keepIn K (.ref f41) = true)
    (a42 : PySem.W.nsIn K mainGlobals "_law_is_next" = some (some (.ref f42))) (l42 : K.lookup f42 = some ⟨oc42, od42, .func (PySem.W.fnOf "_law_is_next" "_law_is_next" (C8.fnArgs s_l_is_next) (C8.fnBody s_l_is_next) (C8.fnScope s_l_is_next) .none kV42 dc42 pm42 an42 cd42 ct42), sl42⟩) (c42 : PySem.W.codeIn K cd42 "_law_is_next" = true) (k42 : PySem.W.keepIn K (.ref f42) = true)
    (a43 : PySem.W.nsIn K mainGlobals "_law_fault_of_rows" = some (some (.ref f43))) (l43 : K.lookup f43 = some ⟨oc43, od43, .func (PySem.W.fnOf "_law_fault_of_rows" "_law_fault_of_rows" (C8.fnArgs s_l_fault_of_rows) (C8.fnBody s_l_fault_of_rows) (C8.fnScope s_l_fault_of_rows) .none kV43 dc43 pm43 an43 cd43 ct43), sl43⟩) (c43 : PySem.W.codeIn K cd43 "_law_fault_of_rows" = true) (k43 : PySem.W.keepIn K (.ref f43) = true)
    (a44 : PySem.W.nsIn K mainGlobals "_law_due" = some (some (.ref f44))) (l44 : K.lookup f44 = some ⟨oc44, od44, .func (PySem.W.fnOf "_law_due" "_law_due" (C8.fnArgs s_l_due) (C8.fnBody s_l_due) (C8.fnScope s_l_due) .none kV44 dc44 pm44 an44 cd44 ct44), sl44⟩) (c44 : PySem.W.codeIn K cd44 "_law_due" = true) (k44 : PySem.W.keepIn K (.ref f44) = true)
    (a45 : PySem.W.nsIn K mainGlobals "law" = some (some (.ref f45))) (l45 : K.lookup f45 = some ⟨oc45, od45, .func (PySem.W.fnOf "law" "law" (C8.fnArgs s_law) (C8.fnBody s_law) (C8.fnScope s_law) .none kV45 dc45 pm45 an45 cd45 ct45), sl45⟩) (c45 : PySem.W.codeIn K cd45 "law" = true) (k45 : PySem.W.keepIn K (.ref f45) = true)
    (z_ValueError : PySem.W.nsIn K mainGlobals "ValueError" = some none)
    (z_all : PySem.W.nsIn K mainGlobals "all" = some none)
    (z_bool : PySem.W.nsIn K mainGlobals "bool" = some none)
    (z_bytes : PySem.W.nsIn K mainGlobals "bytes" = some none)
    (z_dict : PySem.W.nsIn K mainGlobals "dict" = some none)
    (z_enumerate : PySem.W.nsIn K mainGlobals "enumerate" = some none)
    (z_int : PySem.W.nsIn K mainGlobals "int" = some none)
    (z_isinstance : PySem.W.nsIn K mainGlobals "isinstance" = some none)
    (z_len : PySem.W.nsIn K mainGlobals "len" = some none)
    (z_min : PySem.W.nsIn K mainGlobals "min" = some none)
    (z_range : PySem.W.nsIn K mainGlobals "range" = some none)
    (z_set : PySem.W.nsIn K mainGlobals "set" = some none)
    (z_sorted : PySem.W.nsIn K mainGlobals "sorted" = some none)
    (z_str : PySem.W.nsIn K mainGlobals "str" = some none)
    (z_tuple : PySem.W.nsIn K mainGlobals "tuple" = some none)
    (g_HEX_DIGITS : PySem.W.nsIn K mainGlobals "HEX_DIGITS" = some (some (.str (Str.ofString "0123456789abcdef") t_HEX_DIGITS)))
    (g_LETTERS : PySem.W.nsIn K mainGlobals "LETTERS" = some (some (.str (Str.ofString "abcdefghijklmnopqrstuvwxyz") t_LETTERS)))
    (g_SEGMENT_SIGNS : PySem.W.nsIn K mainGlobals "SEGMENT_SIGNS" = some (some (.str (Str.ofString "abcdefghijklmnopqrstuvwxyz0123456789._-") t_SEGMENT_SIGNS)))
    (g_LONGEST_WORD : PySem.W.nsIn K mainGlobals "LONGEST_WORD" = some (some (.int 12 t_LONGEST_WORD)))
    (g_LONGEST_TEXT : PySem.W.nsIn K mainGlobals "LONGEST_TEXT" = some (some (.int 2000 t_LONGEST_TEXT)))
    (g_LONGEST_MESSAGE : PySem.W.nsIn K mainGlobals "LONGEST_MESSAGE" = some (some (.int 200 t_LONGEST_MESSAGE)))
    (g_LATEST : PySem.W.nsIn K mainGlobals "LATEST" = some (some (.int 1000000000000 t_LATEST)))
    (g_MOST_ENTRIES : PySem.W.nsIn K mainGlobals "MOST_ENTRIES" = some (some (.int 30 t_MOST_ENTRIES)))
    (g_MOST_PARENTS : PySem.W.nsIn K mainGlobals "MOST_PARENTS" = some (some (.int 6 t_MOST_PARENTS)))
    {CB CT CC CG cF cX iX ek pdA dC kdC kdG : Addr}
    {fmBlob_init : Addr}
    {odmBlob_init anmBlob_init : Option Addr} {slmBlob_init : Array (Option Value)} {ocmBlob_init kVmBlob_init dcmBlob_init pmmBlob_init cdmBlob_init ctmBlob_init : Value}
    {fmTree_init : Addr}
    {odmTree_init anmTree_init : Option Addr} {slmTree_init : Array (Option Value)} {ocmTree_init kVmTree_init dcmTree_init pmmTree_init cdmTree_init ctmTree_init : Value}
    {fmCommit_init : Addr}
    {odmCommit_init anmCommit_init : Option Addr} {slmCommit_init : Array (Option Value)} {ocmCommit_init dcmCommit_init pmmCommit_init cdmCommit_init ctmCommit_init : Value}
    {fmTag_init : Addr}
    {odmTag_init anmTag_init : Option Addr} {slmTag_init : Array (Option Value)} {ocmTag_init dcmTag_init pmmTag_init cdmTag_init ctmTag_init : Value}
    {fmBlob_eq : Addr}
    {odmBlob_eq anmBlob_eq : Option Addr} {slmBlob_eq : Array (Option Value)} {ocmBlob_eq kVmBlob_eq dcmBlob_eq pmmBlob_eq cdmBlob_eq ctmBlob_eq : Value}
    {fmTree_eq : Addr}
    {odmTree_eq anmTree_eq : Option Addr} {slmTree_eq : Array (Option Value)} {ocmTree_eq kVmTree_eq dcmTree_eq pmmTree_eq cdmTree_eq ctmTree_eq : Value}
    {fmCommit_eq : Addr}
    {odmCommit_eq anmCommit_eq : Option Addr} {slmCommit_eq : Array (Option Value)} {ocmCommit_eq kVmCommit_eq dcmCommit_eq pmmCommit_eq cdmCommit_eq ctmCommit_eq : Value}
    {fmTag_eq : Addr}
    {odmTag_eq anmTag_eq : Option Addr} {slmTag_eq : Array (Option Value)} {ocmTag_eq kVmTag_eq dcmTag_eq pmmTag_eq cdmTag_eq ctmTag_eq : Value}
    {fpBlob_text qpBlob_text : Addr} {rpBlob_text : List Value}
    {odpBlob_text anpBlob_text : Option Addr} {slpBlob_text : Array (Option Value)} {ocpBlob_text kVpBlob_text dcpBlob_text pmpBlob_text cdpBlob_text ctpBlob_text : Value}
    {fpTree_entries qpTree_entries : Addr} {rpTree_entries : List Value}
    {odpTree_entries anpTree_entries : Option Addr} {slpTree_entries : Array (Option Value)} {ocpTree_entries kVpTree_entries dcpTree_entries pmpTree_entries cdpTree_entries ctpTree_entries : Value}
    {fpCommit_tree qpCommit_tree : Addr} {rpCommit_tree : List Value}
    {odpCommit_tree anpCommit_tree : Option Addr} {slpCommit_tree : Array (Option Value)} {ocpCommit_tree kVpCommit_tree dcpCommit_tree pmpCommit_tree cdpCommit_tree ctpCommit_tree : Value}
    {fpCommit_parents qpCommit_parents : Addr} {rpCommit_parents : List Value}
    {odpCommit_parents anpCommit_parents : Option Addr} {slpCommit_parents : Array (Option Value)} {ocpCommit_parents kVpCommit_parents dcpCommit_parents pmpCommit_parents cdpCommit_parents ctpCommit_parents : Value}
    {fpCommit_author qpCommit_author : Addr} {rpCommit_author : List Value}
    {odpCommit_author anpCommit_author : Option Addr} {slpCommit_author : Array (Option Value)} {ocpCommit_author kVpCommit_author dcpCommit_author pmpCommit_author cdpCommit_author ctpCommit_author : Value}
    {fpCommit_time qpCommit_time : Addr} {rpCommit_time : List Value}
    {odpCommit_time anpCommit_time : Option Addr} {slpCommit_time : Array (Option Value)} {ocpCommit_time kVpCommit_time dcpCommit_time pmpCommit_time cdpCommit_time ctpCommit_time : Value}
    {fpCommit_message qpCommit_message : Addr} {rpCommit_message : List Value}
    {odpCommit_message anpCommit_message : Option Addr} {slpCommit_message : Array (Option Value)} {ocpCommit_message kVpCommit_message dcpCommit_message pmpCommit_message cdpCommit_message ctpCommit_message : Value}
    {fpTag_target qpTag_target : Addr} {rpTag_target : List Value}
    {odpTag_target anpTag_target : Option Addr} {slpTag_target : Array (Option Value)} {ocpTag_target kVpTag_target dcpTag_target pmpTag_target cdpTag_target ctpTag_target : Value}
    {fpTag_label qpTag_label : Addr} {rpTag_label : List Value}
    {odpTag_label anpTag_label : Option Addr} {slpTag_label : Array (Option Value)} {ocpTag_label kVpTag_label dcpTag_label pmpTag_label cdpTag_label ctpTag_label : Value}
    {fpTag_message qpTag_message : Addr} {rpTag_message : List Value}
    {odpTag_message anpTag_message : Option Addr} {slpTag_message : Array (Option Value)} {ocpTag_message kVpTag_message dcpTag_message pmpTag_message cdpTag_message ctpTag_message : Value}
    {tkC tkG : Tok}
    {tcd : Value} {tod pdo eko : Option Addr} {tn pdn ekn : Nat} {tsl pdl ekl : Array (Option Value)} {tk1 tk2 tk3 : Tok}
    {qF : Str} {NF : Addr} {bsF subF : List Value} {snF : List Str} {abF : Bool} {colF : Option Bool} {ddF : Option Addr} {mF_0 mF_1 mF_2 mF_3 mF_5 : Option Value}
    {qX : Str} {NX : Addr} {bsX subX : List Value} {snX : List Str} {abX : Bool} {colX : Option Bool} {ddX : Option Addr} {mX_0 mX_1 mX_2 mX_3 mX_5 : Option Value}
    {odiX aniX : Option Addr} {sliX : Array (Option Value)} {ociX kViX dciX pmiX cdiX ctiX : Value}
    (eB_mg : PySem.W.nsIn K mainGlobals "Blob" = some (some (.ref CB)))
    (eT_mg : PySem.W.nsIn K mainGlobals "Tree" = some (some (.ref CT)))
    (eC_mg : PySem.W.nsIn K mainGlobals "Commit" = some (some (.ref CC)))
    (eG_mg : PySem.W.nsIn K mainGlobals "Tag" = some (some (.ref CG)))
    (eF_mg : PySem.W.nsIn K mainGlobals "ForkError" = some (some (.ref cF)))
    (eX_mg : PySem.W.nsIn K mainGlobals "BadObject" = some (some (.ref cX)))
    (CB_pg : PySem.W.plainGet K CB Str.empty = true)
    (CB_hd : PySem.W.hasDictIn K CB = true)
    (CB_po : PySem.W.plainOver K CB = true)
    (CB_sa : PySem.W.findIn K (.ref CB) "__setattr__" = some (some (.builtin "object.__setattr__")))
    (CB_mk : PySem.W.makesIn K CB = true)
    (CB_kc : PySem.W.keepIn K (.ref CB) = true)
    (CB_ha : PySem.W.findIn K (.ref CB) "__class__" = some (some (.builtin "object.__class__")))
    (CB_hm : PySem.W.mroIn K CB (.type "object") = some true)
    (CB_ne : PySem.W.findIn K (.ref CB) "__ne__" = some (some (.builtin "object.__ne__")))
    (CT_pg : PySem.W.plainGet K CT Str.empty = true)
    (CT_hd : PySem.W.hasDictIn K CT = true)
    (CT_po : PySem.W.plainOver K CT = true)
    (CT_sa : PySem.W.findIn K (.ref CT) "__setattr__" = some (some (.builtin "object.__setattr__")))
    (CT_mk : PySem.W.makesIn K CT = true)
    (CT_kc : PySem.W.keepIn K (.ref CT) = true)
    (CT_ha : PySem.W.findIn K (.ref CT) "__class__" = some (some (.builtin "object.__class__")))
    (CT_hm : PySem.W.mroIn K CT (.type "object") = some true)
    (CT_ne : PySem.W.findIn K (.ref CT) "__ne__" = some (some (.builtin "object.__ne__")))
    (CC_pg : PySem.W.plainGet K CC Str.empty = true)
    (CC_hd : PySem.W.hasDictIn K CC = true)
    (CC_po : PySem.W.plainOver K CC = true)
    (CC_sa : PySem.W.findIn K (.ref CC) "__setattr__" = some (some (.builtin "object.__setattr__")))
    (CC_mk : PySem.W.makesIn K CC = true)
    (CC_kc : PySem.W.keepIn K (.ref CC) = true)
    (CC_ha : PySem.W.findIn K (.ref CC) "__class__" = some (some (.builtin "object.__class__")))
    (CC_hm : PySem.W.mroIn K CC (.type "object") = some true)
    (CC_ne : PySem.W.findIn K (.ref CC) "__ne__" = some (some (.builtin "object.__ne__")))
    (CG_pg : PySem.W.plainGet K CG Str.empty = true)
    (CG_hd : PySem.W.hasDictIn K CG = true)
    (CG_po : PySem.W.plainOver K CG = true)
    (CG_sa : PySem.W.findIn K (.ref CG) "__setattr__" = some (some (.builtin "object.__setattr__")))
    (CG_mk : PySem.W.makesIn K CG = true)
    (CG_kc : PySem.W.keepIn K (.ref CG) = true)
    (CG_ha : PySem.W.findIn K (.ref CG) "__class__" = some (some (.builtin "object.__class__")))
    (CG_hm : PySem.W.mroIn K CG (.type "object") = some true)
    (CG_ne : PySem.W.findIn K (.ref CG) "__ne__" = some (some (.builtin "object.__ne__")))
    (kBT : PySem.W.kitOne K (.ref CB) (.ref CT) = some false)
    (kBC : PySem.W.kitOne K (.ref CB) (.ref CC) = some false)
    (kBG : PySem.W.kitOne K (.ref CB) (.ref CG) = some false)
    (kTB : PySem.W.kitOne K (.ref CT) (.ref CB) = some false)
    (kTC : PySem.W.kitOne K (.ref CT) (.ref CC) = some false)
    (kTG : PySem.W.kitOne K (.ref CT) (.ref CG) = some false)
    (kCB : PySem.W.kitOne K (.ref CC) (.ref CB) = some false)
    (kCT : PySem.W.kitOne K (.ref CC) (.ref CT) = some false)
    (kCG : PySem.W.kitOne K (.ref CC) (.ref CG) = some false)
    (kGB : PySem.W.kitOne K (.ref CG) (.ref CB) = some false)
    (kGT : PySem.W.kitOne K (.ref CG) (.ref CT) = some false)
    (kGC : PySem.W.kitOne K (.ref CG) (.ref CC) = some false)
    (e_hn : PySem.W.specialIn K (.builtin "object.__class__") "__get__" = some (some (.builtin "getset_descriptor.__get__")))
    (e_ht : PySem.W.takesIn K (.builtin "object.__class__") = some true)
    (amBlob_init : PySem.W.findIn K (.ref CB) "__init__" = some (some (.ref fmBlob_init)))
    (imBlob_init : PySem.W.isFn K (.ref fmBlob_init) = true)
    (lmBlob_init : K.lookup fmBlob_init = some ⟨ocmBlob_init, odmBlob_init, .func (PySem.W.fnOf "__init__" "Blob.__init__" (C8.fnArgs s_Blob_init) (C8.fnBody s_Blob_init) (C8.fnScope s_Blob_init) .none kVmBlob_init dcmBlob_init pmmBlob_init anmBlob_init cdmBlob_init ctmBlob_init), slmBlob_init⟩)
    (cmBlob_init : PySem.W.codeIn K cdmBlob_init "Blob.__init__" = true)
    (kmBlob_init : PySem.W.keepIn K (.ref fmBlob_init) = true)
    (amTree_init : PySem.W.findIn K (.ref CT) "__init__" = some (some (.ref fmTree_init)))
    (imTree_init : PySem.W.isFn K (.ref fmTree_init) = true)
    (lmTree_init : K.lookup fmTree_init = some ⟨ocmTree_init, odmTree_init, .func (PySem.W.fnOf "__init__" "Tree.__init__" (C8.fnArgs s_Tree_init) (C8.fnBody s_Tree_init) (C8.fnScope s_Tree_init) .none kVmTree_init dcmTree_init pmmTree_init anmTree_init cdmTree_init ctmTree_init), slmTree_init⟩)
    (cmTree_init : PySem.W.codeIn K cdmTree_init "Tree.__init__" = true)
    (kmTree_init : PySem.W.keepIn K (.ref fmTree_init) = true)
    (amCommit_init : PySem.W.findIn K (.ref CC) "__init__" = some (some (.ref fmCommit_init)))
    (imCommit_init : PySem.W.isFn K (.ref fmCommit_init) = true)
    (lmCommit_init : K.lookup fmCommit_init = some ⟨ocmCommit_init, odmCommit_init, .func (PySem.W.fnOf "__init__" "Commit.__init__" (C8.fnArgs s_Commit_init) (C8.fnBody s_Commit_init) (C8.fnScope s_Commit_init) (.ref dC) (.ref kdC) dcmCommit_init pmmCommit_init anmCommit_init cdmCommit_init ctmCommit_init), slmCommit_init⟩)
    (cmCommit_init : PySem.W.codeIn K cdmCommit_init "Commit.__init__" = true)
    (kmCommit_init : PySem.W.keepIn K (.ref fmCommit_init) = true)
    (amTag_init : PySem.W.findIn K (.ref CG) "__init__" = some (some (.ref fmTag_init)))
    (imTag_init : PySem.W.isFn K (.ref fmTag_init) = true)
    (lmTag_init : K.lookup fmTag_init = some ⟨ocmTag_init, odmTag_init, .func (PySem.W.fnOf "__init__" "Tag.__init__" (C8.fnArgs s_Tag_init) (C8.fnBody s_Tag_init) (C8.fnScope s_Tag_init) .none (.ref kdG) dcmTag_init pmmTag_init anmTag_init cdmTag_init ctmTag_init), slmTag_init⟩)
    (cmTag_init : PySem.W.codeIn K cdmTag_init "Tag.__init__" = true)
    (kmTag_init : PySem.W.keepIn K (.ref fmTag_init) = true)
    (amBlob_eq : PySem.W.findIn K (.ref CB) "__eq__" = some (some (.ref fmBlob_eq)))
    (imBlob_eq : PySem.W.isFn K (.ref fmBlob_eq) = true)
    (lmBlob_eq : K.lookup fmBlob_eq = some ⟨ocmBlob_eq, odmBlob_eq, .func (PySem.W.fnOf "__eq__" "Blob.__eq__" (C8.fnArgs s_Blob_eq) (C8.fnBody s_Blob_eq) (C8.fnScope s_Blob_eq) .none kVmBlob_eq dcmBlob_eq pmmBlob_eq anmBlob_eq cdmBlob_eq ctmBlob_eq), slmBlob_eq⟩)
    (cmBlob_eq : PySem.W.codeIn K cdmBlob_eq "Blob.__eq__" = true)
    (kmBlob_eq : PySem.W.keepIn K (.ref fmBlob_eq) = true)
    (amTree_eq : PySem.W.findIn K (.ref CT) "__eq__" = some (some (.ref fmTree_eq)))
    (imTree_eq : PySem.W.isFn K (.ref fmTree_eq) = true)
    (lmTree_eq : K.lookup fmTree_eq = some ⟨ocmTree_eq, odmTree_eq, .func (PySem.W.fnOf "__eq__" "Tree.__eq__" (C8.fnArgs s_Tree_eq) (C8.fnBody s_Tree_eq) (C8.fnScope s_Tree_eq) .none kVmTree_eq dcmTree_eq pmmTree_eq anmTree_eq cdmTree_eq ctmTree_eq), slmTree_eq⟩)
    (cmTree_eq : PySem.W.codeIn K cdmTree_eq "Tree.__eq__" = true)
    (kmTree_eq : PySem.W.keepIn K (.ref fmTree_eq) = true)
    (amCommit_eq : PySem.W.findIn K (.ref CC) "__eq__" = some (some (.ref fmCommit_eq)))
    (imCommit_eq : PySem.W.isFn K (.ref fmCommit_eq) = true)
    (lmCommit_eq : K.lookup fmCommit_eq = some ⟨ocmCommit_eq, odmCommit_eq, .func (PySem.W.fnOf "__eq__" "Commit.__eq__" (C8.fnArgs s_Commit_eq) (C8.fnBody s_Commit_eq) (C8.fnScope s_Commit_eq) .none kVmCommit_eq dcmCommit_eq pmmCommit_eq anmCommit_eq cdmCommit_eq ctmCommit_eq), slmCommit_eq⟩)
    (cmCommit_eq : PySem.W.codeIn K cdmCommit_eq "Commit.__eq__" = true)
    (kmCommit_eq : PySem.W.keepIn K (.ref fmCommit_eq) = true)
    (amTag_eq : PySem.W.findIn K (.ref CG) "__eq__" = some (some (.ref fmTag_eq)))
    (imTag_eq : PySem.W.isFn K (.ref fmTag_eq) = true)
    (lmTag_eq : K.lookup fmTag_eq = some ⟨ocmTag_eq, odmTag_eq, .func (PySem.W.fnOf "__eq__" "Tag.__eq__" (C8.fnArgs s_Tag_eq) (C8.fnBody s_Tag_eq) (C8.fnScope s_Tag_eq) .none kVmTag_eq dcmTag_eq pmmTag_eq anmTag_eq cdmTag_eq ctmTag_eq), slmTag_eq⟩)
    (cmTag_eq : PySem.W.codeIn K cdmTag_eq "Tag.__eq__" = true)
    (kmTag_eq : PySem.W.keepIn K (.ref fmTag_eq) = true)
    (apBlob_text : PySem.W.findIn K (.ref CB) "text" = some (some (.ref qpBlob_text)))
    (gpBlob_text : PySem.W.specialIn K (.ref qpBlob_text) "__get__" = some (some (.builtin "property.__get__")))
    (tpBlob_text : PySem.W.takesIn K (.ref qpBlob_text) = some true)
    (rpBlob_text_ : PySem.W.recIn K qpBlob_text "property" = some (.ref fpBlob_text :: rpBlob_text))
    (lpBlob_text : K.lookup fpBlob_text = some ⟨ocpBlob_text, odpBlob_text, .func (PySem.W.fnOf "text" "Blob.text" (C8.fnArgs s_Blob_text) (C8.fnBody s_Blob_text) (C8.fnScope s_Blob_text) .none kVpBlob_text dcpBlob_text pmpBlob_text anpBlob_text cdpBlob_text ctpBlob_text), slpBlob_text⟩)
    (cpBlob_text : PySem.W.codeIn K cdpBlob_text "Blob.text" = true)
    (nB_text : PySem.W.findIn K (.ref CB) "_text" = some none)
    (apTree_entries : PySem.W.findIn K (.ref CT) "entries" = some (some (.ref qpTree_entries)))
    (gpTree_entries : PySem.W.specialIn K (.ref qpTree_entries) "__get__" = some (some (.builtin "property.__get__")))
    (tpTree_entries : PySem.W.takesIn K (.ref qpTree_entries) = some true)
    (rpTree_entries_ : PySem.W.recIn K qpTree_entries "property" = some (.ref fpTree_entries :: rpTree_entries))
    (lpTree_entries : K.lookup fpTree_entries = some ⟨ocpTree_entries, odpTree_entries, .func (PySem.W.fnOf "entries" "Tree.entries" (C8.fnArgs s_Tree_entries) (C8.fnBody s_Tree_entries) (C8.fnScope s_Tree_entries) .none kVpTree_entries dcpTree_entries pmpTree_entries anpTree_entries cdpTree_entries ctpTree_entries), slpTree_entries⟩)
    (cpTree_entries : PySem.W.codeIn K cdpTree_entries "Tree.entries" = true)
    (nT_entries : PySem.W.findIn K (.ref CT) "_entries" = some none)
    (apCommit_tree : PySem.W.findIn K (.ref CC) "tree" = some (some (.ref qpCommit_tree)))
    (gpCommit_tree : PySem.W.specialIn K (.ref qpCommit_tree) "__get__" = some (some (.builtin "property.__get__")))
    (tpCommit_tree : PySem.W.takesIn K (.ref qpCommit_tree) = some true)
    (rpCommit_tree_ : PySem.W.recIn K qpCommit_tree "property" = some (.ref fpCommit_tree :: rpCommit_tree))
    (lpCommit_tree : K.lookup fpCommit_tree = some ⟨ocpCommit_tree, odpCommit_tree, .func (PySem.W.fnOf "tree" "Commit.tree" (C8.fnArgs s_Commit_tree) (C8.fnBody s_Commit_tree) (C8.fnScope s_Commit_tree) .none kVpCommit_tree dcpCommit_tree pmpCommit_tree anpCommit_tree cdpCommit_tree ctpCommit_tree), slpCommit_tree⟩)
    (cpCommit_tree : PySem.W.codeIn K cdpCommit_tree "Commit.tree" = true)
    (nC_tree : PySem.W.findIn K (.ref CC) "_tree" = some none)
    (apCommit_parents : PySem.W.findIn K (.ref CC) "parents" = some (some (.ref qpCommit_parents)))
    (gpCommit_parents : PySem.W.specialIn K (.ref qpCommit_parents) "__get__" = some (some (.builtin "property.__get__")))
    (tpCommit_parents : PySem.W.takesIn K (.ref qpCommit_parents) = some true)
    (rpCommit_parents_ : PySem.W.recIn K qpCommit_parents "property" = some (.ref fpCommit_parents :: rpCommit_parents))
    (lpCommit_parents : K.lookup fpCommit_parents = some ⟨ocpCommit_parents, odpCommit_parents, .func (PySem.W.fnOf "parents" "Commit.parents" (C8.fnArgs s_Commit_parents) (C8.fnBody s_Commit_parents) (C8.fnScope s_Commit_parents) .none kVpCommit_parents dcpCommit_parents pmpCommit_parents anpCommit_parents cdpCommit_parents ctpCommit_parents), slpCommit_parents⟩)
    (cpCommit_parents : PySem.W.codeIn K cdpCommit_parents "Commit.parents" = true)
    (nC_parents : PySem.W.findIn K (.ref CC) "_parents" = some none)
    (apCommit_author : PySem.W.findIn K (.ref CC) "author" = some (some (.ref qpCommit_author)))
    (gpCommit_author : PySem.W.specialIn K (.ref qpCommit_author) "__get__" = some (some (.builtin "property.__get__")))
    (tpCommit_author : PySem.W.takesIn K (.ref qpCommit_author) = some true)
    (rpCommit_author_ : PySem.W.recIn K qpCommit_author "property" = some (.ref fpCommit_author :: rpCommit_author))
    (lpCommit_author : K.lookup fpCommit_author = some ⟨ocpCommit_author, odpCommit_author, .func (PySem.W.fnOf "author" "Commit.author" (C8.fnArgs s_Commit_author) (C8.fnBody s_Commit_author) (C8.fnScope s_Commit_author) .none kVpCommit_author dcpCommit_author pmpCommit_author anpCommit_author cdpCommit_author ctpCommit_author), slpCommit_author⟩)
    (cpCommit_author : PySem.W.codeIn K cdpCommit_author "Commit.author" = true)
    (nC_author : PySem.W.findIn K (.ref CC) "_author" = some none)
    (apCommit_time : PySem.W.findIn K (.ref CC) "time" = some (some (.ref qpCommit_time)))
    (gpCommit_time : PySem.W.specialIn K (.ref qpCommit_time) "__get__" = some (some (.builtin "property.__get__")))
    (tpCommit_time : PySem.W.takesIn K (.ref qpCommit_time) = some true)
    (rpCommit_time_ : PySem.W.recIn K qpCommit_time "property" = some (.ref fpCommit_time :: rpCommit_time))
    (lpCommit_time : K.lookup fpCommit_time = some ⟨ocpCommit_time, odpCommit_time, .func (PySem.W.fnOf "time" "Commit.time" (C8.fnArgs s_Commit_time) (C8.fnBody s_Commit_time) (C8.fnScope s_Commit_time) .none kVpCommit_time dcpCommit_time pmpCommit_time anpCommit_time cdpCommit_time ctpCommit_time), slpCommit_time⟩)
    (cpCommit_time : PySem.W.codeIn K cdpCommit_time "Commit.time" = true)
    (nC_time : PySem.W.findIn K (.ref CC) "_time" = some none)
    (apCommit_message : PySem.W.findIn K (.ref CC) "message" = some (some (.ref qpCommit_message)))
    (gpCommit_message : PySem.W.specialIn K (.ref qpCommit_message) "__get__" = some (some (.builtin "property.__get__")))
    (tpCommit_message : PySem.W.takesIn K (.ref qpCommit_message) = some true)
    (rpCommit_message_ : PySem.W.recIn K qpCommit_message "property" = some (.ref fpCommit_message :: rpCommit_message))
    (lpCommit_message : K.lookup fpCommit_message = some ⟨ocpCommit_message, odpCommit_message, .func (PySem.W.fnOf "message" "Commit.message" (C8.fnArgs s_Commit_message) (C8.fnBody s_Commit_message) (C8.fnScope s_Commit_message) .none kVpCommit_message dcpCommit_message pmpCommit_message anpCommit_message cdpCommit_message ctpCommit_message), slpCommit_message⟩)
    (cpCommit_message : PySem.W.codeIn K cdpCommit_message "Commit.message" = true)
    (nC_message : PySem.W.findIn K (.ref CC) "_message" = some none)
    (apTag_target : PySem.W.findIn K (.ref CG) "target" = some (some (.ref qpTag_target)))
    (gpTag_target : PySem.W.specialIn K (.ref qpTag_target) "__get__" = some (some (.builtin "property.__get__")))
    (tpTag_target : PySem.W.takesIn K (.ref qpTag_target) = some true)
    (rpTag_target_ : PySem.W.recIn K qpTag_target "property" = some (.ref fpTag_target :: rpTag_target))
    (lpTag_target : K.lookup fpTag_target = some ⟨ocpTag_target, odpTag_target, .func (PySem.W.fnOf "target" "Tag.target" (C8.fnArgs s_Tag_target) (C8.fnBody s_Tag_target) (C8.fnScope s_Tag_target) .none kVpTag_target dcpTag_target pmpTag_target anpTag_target cdpTag_target ctpTag_target), slpTag_target⟩)
    (cpTag_target : PySem.W.codeIn K cdpTag_target "Tag.target" = true)
    (nG_target : PySem.W.findIn K (.ref CG) "_target" = some none)
    (apTag_label : PySem.W.findIn K (.ref CG) "label" = some (some (.ref qpTag_label)))
    (gpTag_label : PySem.W.specialIn K (.ref qpTag_label) "__get__" = some (some (.builtin "property.__get__")))
    (tpTag_label : PySem.W.takesIn K (.ref qpTag_label) = some true)
    (rpTag_label_ : PySem.W.recIn K qpTag_label "property" = some (.ref fpTag_label :: rpTag_label))
    (lpTag_label : K.lookup fpTag_label = some ⟨ocpTag_label, odpTag_label, .func (PySem.W.fnOf "label" "Tag.label" (C8.fnArgs s_Tag_label) (C8.fnBody s_Tag_label) (C8.fnScope s_Tag_label) .none kVpTag_label dcpTag_label pmpTag_label anpTag_label cdpTag_label ctpTag_label), slpTag_label⟩)
    (cpTag_label : PySem.W.codeIn K cdpTag_label "Tag.label" = true)
    (nG_label : PySem.W.findIn K (.ref CG) "_label" = some none)
    (apTag_message : PySem.W.findIn K (.ref CG) "message" = some (some (.ref qpTag_message)))
    (gpTag_message : PySem.W.specialIn K (.ref qpTag_message) "__get__" = some (some (.builtin "property.__get__")))
    (tpTag_message : PySem.W.takesIn K (.ref qpTag_message) = some true)
    (rpTag_message_ : PySem.W.recIn K qpTag_message "property" = some (.ref fpTag_message :: rpTag_message))
    (lpTag_message : K.lookup fpTag_message = some ⟨ocpTag_message, odpTag_message, .func (PySem.W.fnOf "message" "Tag.message" (C8.fnArgs s_Tag_message) (C8.fnBody s_Tag_message) (C8.fnScope s_Tag_message) .none kVpTag_message dcpTag_message pmpTag_message anpTag_message cdpTag_message ctpTag_message), slpTag_message⟩)
    (cpTag_message : PySem.W.codeIn K cdpTag_message "Tag.message" = true)
    (nG_message : PySem.W.findIn K (.ref CG) "_message" = some none)
    (e_kdC : PySem.W.nsIn K kdC "message" = some (some (.str (Str.ofString "") tkC)))
    (e_kdG : PySem.W.nsIn K kdG "message" = some (some (.str (Str.ofString "") tkG)))
    (e_dC : K.lookup dC = some ⟨tcd, tod, .seq #[.ref pdA] tn, tsl⟩)
    (t_pd : K.lookup pdA = some ⟨.type "tuple", pdo, .seq #[] pdn, pdl⟩)
    (g_EK : PySem.W.nsIn K mainGlobals "ENTRY_KINDS" = some (some (.ref ek)))
    (t_ek : K.lookup ek = some ⟨.type "tuple", eko, .seq #[.str (Str.ofString "file") tk1, .str (Str.ofString "exec") tk2, .str (Str.ofString "dir") tk3] ekn, ekl⟩)
    (xF : K.lookup cF = some (excClassObj "ForkError" qF cF NF bsF [.type "ValueError", .type "Exception", .type "BaseException", .type "object"] true snF subF abF colF ddF mF_0 mF_1 mF_2 mF_3 mF_5 "ValueError.__new__"))
    (xX : K.lookup cX = some (excClassObj "BadObject" qX cX NX bsX [.ref cF, .type "ValueError", .type "Exception", .type "BaseException", .type "object"] true snX subX abX colX ddX mX_0 mX_1 mX_2 mX_3 mX_5 "ValueError.__new__"))
    (saX : PySem.W.findIn K (.ref cX) "__setattr__" = some (some (.builtin "object.__setattr__")))
    (kCX : PySem.W.keepIn K (.ref cX) = true)
    (iCX : PySem.W.findIn K (.ref cX) "__init__" = some (some (.ref iX)))
    (gaX : PySem.W.findIn K (.ref cX) "__getattribute__" = some (some (.builtin "BaseException.__getattribute__")))
    (ggX : PySem.W.findIn K (.ref cX) "__getattr__" = some none)
    (haX : PySem.W.findIn K (.ref cX) "__class__" = some (some (.builtin "object.__class__")))
    (nfX : PySem.W.findIn K (.ref cX) "at" = some none)
    (tiX : PySem.W.typeIn K (.ref iX) = some (.type "function"))
    (liX : K.lookup iX = some ⟨ociX, odiX, .func (PySem.W.fnOf "__init__" "BadObject.__init__" (C8.fnArgs s_BadObject_init) (C8.fnBody s_BadObject_init) (C8.fnScope s_BadObject_init) .none kViX dciX pmiX aniX cdiX ctiX), sliX⟩)
    (ciX : PySem.W.codeIn K cdiX "BadObject.__init__" = true)
    : ∃ fd : FuncData, (∀ (s : Shared) (v : Value), BindsTo s fd ⟨[v], []⟩ [("_law_script", v)]) ∧ ∀ base : Heap, K.In base → base.Ns mainGlobals mg → FnOk l.prog w K mg base C8.CX0 10 fa fd ["_law_script"] (spLaw K) := by
  have e := hfa.symm.trans (PySem.W.mg_of X G a45)
  cases e
  have T : Top K mg := {
    d_is_id := ⟨_, _, ⟨⟨⟨_, _, _, _, _, _, _, _, _, _, rfl, l1, c1⟩⟩, PySem.W.mg_of X G a1, k1⟩, rfl⟩
    d_is_segment := ⟨_, _, ⟨⟨⟨_, _, _, _, _, _, _, _, _, _, rfl, l2, c2⟩⟩, PySem.W.mg_of X G a2, k2⟩, rfl⟩
    d_is_author := ⟨_, _, ⟨⟨⟨_, _, _, _, _, _, _, _, _, _, rfl, l3, c3⟩⟩, PySem.W.mg_of X G a3, k3⟩, rfl⟩
    d_is_text := ⟨_, _, ⟨⟨⟨_, _, _, _, _, _, _, _, _, _, rfl, l4, c4⟩⟩, PySem.W.mg_of X G a4, k4⟩, rfl⟩
    d_is_message := ⟨_, _, ⟨⟨⟨_, _, _, _, _, _, _, _, _, _, rfl, l5, c5⟩⟩, PySem.W.mg_of X G a5, k5⟩, rfl⟩
    d_is_time := ⟨_, _, ⟨⟨⟨_, _, _, _, _, _, _, _, _, _, rfl, l6, c6⟩⟩, PySem.W.mg_of X G a6, k6⟩, rfl⟩
    d_is_count := ⟨_, _, ⟨⟨⟨_, _, _, _, _, _, _, _, _, _, rfl, l7, c7⟩⟩, PySem.W.mg_of X G a7, k7⟩, rfl⟩
    d_are_ids := ⟨_, _, ⟨⟨⟨_, _, _, _, _, _, _, _, _, _, rfl, l8, c8⟩⟩, PySem.W.mg_of X G a8, k8⟩, rfl⟩
    d_ascending := ⟨_, _, ⟨⟨⟨_, _, _, _, _, _, _, _, _, _, rfl, l9, c9⟩⟩, PySem.W.mg_of X G a9, k9⟩, rfl⟩
    d__is_word := ⟨_, _, ⟨⟨⟨_, _, _, _, _, _, _, _, _, _, rfl, l10, c10⟩⟩, PySem.W.mg_of X G a10, k10⟩, rfl⟩
    d_is_value := ⟨_, _, ⟨⟨⟨_, _, _, _, _, _, _, _, _, _, rfl, l11, c11⟩⟩, PySem.W.mg_of X G a11, k11⟩, rfl⟩
    d_encode := ⟨_, _, ⟨⟨⟨_, _, _, _, _, _, _, _, _, _, rfl, l12, c12⟩⟩, PySem.W.mg_of X G a12, k12⟩, rfl⟩
    d_decode := ⟨_, _, ⟨⟨⟨_, _, _, _, _, _, _, _, _, _, rfl, l13, c13⟩⟩, PySem.W.mg_of X G a13, k13⟩, rfl⟩
    d__line_at := ⟨_, _, ⟨⟨⟨_, _, _, _, _, _, _, _, _, _, rfl, l14, c14⟩⟩, PySem.W.mg_of X G a14, k14⟩, rfl⟩
    d__text_at := ⟨_, _, ⟨⟨⟨_, _, _, _, _, _, _, _, _, _, rfl, l15, c15⟩⟩, PySem.W.mg_of X G a15, k15⟩, rfl⟩
    d__word_at := ⟨_, _, ⟨⟨⟨_, _, _, _, _, _, _, _, _, _, rfl, l16, c16⟩⟩, PySem.W.mg_of X G a16, k16⟩, rfl⟩
    d__behind := ⟨_, _, ⟨⟨⟨_, _, _, _, _, _, _, _, _, _, rfl, l17, c17⟩⟩, PySem.W.mg_of X G a17, k17⟩, rfl⟩
    d__decoded_tree := ⟨_, _, ⟨⟨⟨_, _, _, _, _, _, _, _, _, _, rfl, l18, c18⟩⟩, PySem.W.mg_of X G a18, k18⟩, rfl⟩
    d__is_entry_line := ⟨_, _, ⟨⟨⟨_, _, _, _, _, _, _, _, _, _, rfl, l19, c19⟩⟩, PySem.W.mg_of X G a19, k19⟩, rfl⟩
    d__decoded_commit := ⟨_, _, ⟨⟨⟨_, _, _, _, _, _, _, _, _, _, rfl, l20, c20⟩⟩, PySem.W.mg_of X G a20, k20⟩, rfl⟩
    d__parents_at := ⟨_, _, ⟨⟨⟨_, _, _, _, _, _, _, _, _, _, rfl, l21, c21⟩⟩, PySem.W.mg_of X G a21, k21⟩, rfl⟩
    d__is_decimal_time := ⟨_, _, ⟨⟨⟨_, _, _, _, _, _, _, _, _, _, rfl, l22, c22⟩⟩, PySem.W.mg_of X G a22, k22⟩, rfl⟩
    d__decoded_tag := ⟨_, _, ⟨⟨⟨_, _, _, _, _, _, _, _, _, _, rfl, l23, c23⟩⟩, PySem.W.mg_of X G a23, k23⟩, rfl⟩
    d__message_at := ⟨_, _, ⟨⟨⟨_, _, _, _, _, _, _, _, _, _, rfl, l24, c24⟩⟩, PySem.W.mg_of X G a24, k24⟩, rfl⟩
    d_l_cell_at := ⟨_, _, ⟨⟨⟨_, _, _, _, _, _, _, _, _, _, rfl, l25, c25⟩⟩, PySem.W.mg_of X G a25, k25⟩, rfl⟩
    d_l_well := ⟨_, _, ⟨⟨⟨_, _, _, _, _, _, _, _, _, _, rfl, l26, c26⟩⟩, PySem.W.mg_of X G a26, k26⟩, rfl⟩
    d_l_draw := ⟨_, _, ⟨⟨⟨_, _, _, _, _, _, _, _, _, _, rfl, l27, c27⟩⟩, PySem.W.mg_of X G a27, k27⟩, rfl⟩
    d_l_pick := ⟨_, _, ⟨⟨⟨_, _, _, _, _, _, _, _, _, _, rfl, l28, c28⟩⟩, PySem.W.mg_of X G a28, k28⟩, rfl⟩
    d_l_signs := ⟨_, _, ⟨⟨⟨_, _, _, _, _, _, _, _, _, _, rfl, l29, c29⟩⟩, PySem.W.mg_of X G a29, k29⟩, rfl⟩
    d_l_all_signs := ⟨_, _, ⟨⟨⟨_, _, _, _, _, _, _, _, _, _, rfl, l30, c30⟩⟩, PySem.W.mg_of X G a30, k30⟩, rfl⟩
    d_l_segment := ⟨_, _, ⟨⟨⟨_, _, _, _, _, _, _, _, _, _, rfl, l31, c31⟩⟩, PySem.W.mg_of X G a31, k31⟩, rfl⟩
    d_l_text := ⟨_, _, ⟨⟨⟨_, _, _, _, _, _, _, _, _, _, rfl, l32, c32⟩⟩, PySem.W.mg_of X G a32, k32⟩, rfl⟩
    d_l_id := ⟨_, _, ⟨⟨⟨_, _, _, _, _, _, _, _, _, _, rfl, l33, c33⟩⟩, PySem.W.mg_of X G a33, k33⟩, rfl⟩
    d_l_lines := ⟨_, _, ⟨⟨⟨_, _, _, _, _, _, _, _, _, _, rfl, l34, c34⟩⟩, PySem.W.mg_of X G a34, k34⟩, rfl⟩
    d_l_other_line := ⟨_, _, ⟨⟨⟨_, _, _, _, _, _, _, _, _, _, rfl, l35, c35⟩⟩, PySem.W.mg_of X G a35, k35⟩, rfl⟩
    d_l_spoilt := ⟨_, _, ⟨⟨⟨_, _, _, _, _, _, _, _, _, _, rfl, l36, c36⟩⟩, PySem.W.mg_of X G a36, k36⟩, rfl⟩
    d_l_is_id := ⟨_, _, ⟨⟨⟨_, _, _, _, _, _, _, _, _, _, rfl, l37, c37⟩⟩, PySem.W.mg_of X G a37, k37⟩, rfl⟩
    d_l_is_segment := ⟨_, _, ⟨⟨⟨_, _, _, _, _, _, _, _, _, _, rfl, l38, c38⟩⟩, PySem.W.mg_of X G a38, k38⟩, rfl⟩
    d_l_is_time := ⟨_, _, ⟨⟨⟨_, _, _, _, _, _, _, _, _, _, rfl, l39, c39⟩⟩, PySem.W.mg_of X G a39, k39⟩, rfl⟩
    d_l_is_author := ⟨_, _, ⟨⟨⟨_, _, _, _, _, _, _, _, _, _, rfl, l40, c40⟩⟩, PySem.W.mg_of X G a40, k40⟩, rfl⟩
    d_l_tree_fault := ⟨_, _, ⟨⟨⟨_, _, _, _, _, _, _, _, _, _, rfl, l41, c41⟩⟩, PySem.W.mg_of X G a41, k41⟩, rfl⟩
    d_l_is_next := ⟨_, _, ⟨⟨⟨_, _, _, _, _, _, _, _, _, _, rfl, l42, c42⟩⟩, PySem.W.mg_of X G a42, k42⟩, rfl⟩
    d_l_fault_of_rows := ⟨_, _, ⟨⟨⟨_, _, _, _, _, _, _, _, _, _, rfl, l43, c43⟩⟩, PySem.W.mg_of X G a43, k43⟩, rfl⟩
    d_l_due := ⟨_, _, ⟨⟨⟨_, _, _, _, _, _, _, _, _, _, rfl, l44, c44⟩⟩, PySem.W.mg_of X G a44, k44⟩, rfl⟩
    d_law := ⟨_, _, ⟨⟨⟨_, _, _, _, _, _, _, _, _, _, rfl, l45, c45⟩⟩, PySem.W.mg_of X G a45, k45⟩, rfl⟩
    z_ValueError := PySem.W.mg_none_of X G z_ValueError
    z_all := PySem.W.mg_none_of X G z_all
    z_bool := PySem.W.mg_none_of X G z_bool
    z_bytes := PySem.W.mg_none_of X G z_bytes
    z_dict := PySem.W.mg_none_of X G z_dict
    z_enumerate := PySem.W.mg_none_of X G z_enumerate
    z_int := PySem.W.mg_none_of X G z_int
    z_isinstance := PySem.W.mg_none_of X G z_isinstance
    z_len := PySem.W.mg_none_of X G z_len
    z_min := PySem.W.mg_none_of X G z_min
    z_range := PySem.W.mg_none_of X G z_range
    z_set := PySem.W.mg_none_of X G z_set
    z_sorted := PySem.W.mg_none_of X G z_sorted
    z_str := PySem.W.mg_none_of X G z_str
    z_tuple := PySem.W.mg_none_of X G z_tuple
    g_HEX_DIGITS := ⟨_, PySem.W.mg_of X G g_HEX_DIGITS, ⟨_, rfl⟩⟩
    g_LETTERS := ⟨_, PySem.W.mg_of X G g_LETTERS, ⟨_, rfl⟩⟩
    g_SEGMENT_SIGNS := ⟨_, PySem.W.mg_of X G g_SEGMENT_SIGNS, ⟨_, rfl⟩⟩
    g_LONGEST_WORD := ⟨_, PySem.W.mg_of X G g_LONGEST_WORD, ⟨_, rfl⟩⟩
    g_LONGEST_TEXT := ⟨_, PySem.W.mg_of X G g_LONGEST_TEXT, ⟨_, rfl⟩⟩
    g_LONGEST_MESSAGE := ⟨_, PySem.W.mg_of X G g_LONGEST_MESSAGE, ⟨_, rfl⟩⟩
    g_LATEST := ⟨_, PySem.W.mg_of X G g_LATEST, ⟨_, rfl⟩⟩
    g_MOST_ENTRIES := ⟨_, PySem.W.mg_of X G g_MOST_ENTRIES, ⟨_, rfl⟩⟩
    g_MOST_PARENTS := ⟨_, PySem.W.mg_of X G g_MOST_PARENTS, ⟨_, rfl⟩⟩ }
  have cfF : CF K "ForkError" "ValueError.__new__" VE cF := ⟨_, _, _, _, _, _, _, _, _, _, _, _, _, xF⟩
  have cfX : CF K "BadObject" "ValueError.__new__" (.ref cF :: VE) cX := ⟨_, _, _, _, _, _, _, _, _, _, _, _, _, xX⟩
  have hbE : ((Value.ref cF :: VE).contains (.type "BaseException")) = true := rfl
  have hbO : ((Value.ref cF :: VE).contains (.type "object")) = true := rfl
  have FX : C8.Fun K "__init__" "BadObject.__init__" s_BadObject_init iX (PySem.W.fnOf "__init__" "BadObject.__init__" (C8.fnArgs s_BadObject_init) (C8.fnBody s_BadObject_init) (C8.fnScope s_BadObject_init) .none kViX dciX pmiX aniX cdiX ctiX) := ⟨⟨_, _, _, _, _, _, _, _, _, _, rfl, liX, ciX⟩⟩
  have eX : ErrC K mg "BadObject" "at" cX iX := ⟨PySem.W.mg_of X G eX_mg, cfX.oex (by show PySem.HandSPX.refsVE VE = true; decide +kernel) saX kCX hbE,
    cfX.xc PySem.F.excBase_ValueError (rve_ok _) (rve_pass _) hbO hbE saX kCX iCX tiX gaX ggX haX e_hn e_ht, nfX, _, fun P w base => ini_BadObject FX, FX.binds rfl (fun _ _ _ _ _ _ us hl => match us, hl with | [_, _], _ => rfl)⟩
  have FC : FunD K "__init__" "Commit.__init__" (C8.fnArgs s_Commit_init) (C8.fnBody s_Commit_init) (C8.fnScope s_Commit_init) [V.ref pdA] [("message", V.str "")] fmCommit_init (PySem.W.fnOf "__init__" "Commit.__init__" (C8.fnArgs s_Commit_init) (C8.fnBody s_Commit_init) (C8.fnScope s_Commit_init) (.ref dC) (.ref kdC) dcmCommit_init pmmCommit_init anmCommit_init cdmCommit_init ctmCommit_init) :=
    ⟨⟨_, _, _, _, _, _, _, _, _, _, rfl, lmCommit_init, cmCommit_init, .inr ⟨(fun z => by cases z), dC, _, [.ref pdA], tn, rfl, e_dC, rfl, .cons rfl .nil⟩, .inr ⟨kdC, rfl, fun q hq => by rw [List.mem_singleton.mp hq]; exact ⟨_, e_kdC, ⟨_, rfl⟩⟩⟩⟩, kmCommit_init⟩
  have FG : FunD K "__init__" "Tag.__init__" (C8.fnArgs s_Tag_init) (C8.fnBody s_Tag_init) (C8.fnScope s_Tag_init) [] [("message", V.str "")] fmTag_init (PySem.W.fnOf "__init__" "Tag.__init__" (C8.fnArgs s_Tag_init) (C8.fnBody s_Tag_init) (C8.fnScope s_Tag_init) .none (.ref kdG) dcmTag_init pmmTag_init anmTag_init cdmTag_init ctmTag_init) :=
    ⟨⟨_, _, _, _, _, _, _, _, _, _, rfl, lmTag_init, cmTag_init, .inl ⟨rfl, rfl⟩, .inr ⟨kdG, rfl, fun q hq => by rw [List.mem_singleton.mp hq]; exact ⟨_, e_kdG, ⟨_, rfl⟩⟩⟩⟩, kmTag_init⟩
  have kC3f : IniK K CC "Commit.__init__" s_Commit_init ["self", "tree", "parents", "author", "time", "message"] 3 ["author", "time", "message"] (fun vs zs => vs ++ zs) := by
    obtain ⟨its, mv, b⟩ := FC.kbinds (ps := ["self", "tree", "parents", "author", "time", "message"]) 3 ["author", "time", "message"] [] (fun us its mv ws => us ++ ws) (fun z => by cases z) (fun z => by cases z) (fun q hq => by cases hq) (fun r1 r2 r3 r4 => r1.append r4)
      (fun T D doc pm an cdv ct us its mv ws h1 h2 h3 h4 => match us, its, mv, ws, h1, h2, h3, h4 with | [_, _, _], [_], [], [_, _, _], _, _, _, _ => ⟨_, rfl, rfl⟩)
    exact ⟨_, _, _, ⟨CC_mk, amCommit_init, imCommit_init, CC_kc⟩, ⟨⟨_, _, _, _, _, _, _, _, _, _, rfl, lmCommit_init, cmCommit_init⟩⟩, b⟩
  have kC3 : IniK K CC "Commit.__init__" s_Commit_init ["self", "tree", "parents", "author", "time", "message"] 3 ["author", "time"] (fun vs zs => vs ++ (zs ++ [.str ""])) := by
    obtain ⟨its, mv, b⟩ := FC.kbinds (ps := ["self", "tree", "parents", "author", "time", "message"]) 3 ["author", "time"] [("message", V.str "")] (fun us its mv ws => us ++ (ws ++ mv)) (fun z => by cases z) (fun z => by cases z) (fun q hq => hq) (fun r1 r2 r3 r4 => r1.append (r4.append r3))
      (fun T D doc pm an cdv ct us its mv ws h1 h2 h3 h4 => match us, its, mv, ws, h1, h2, h3, h4 with | [_, _, _], [_], [_], [_, _], _, _, _, _ => ⟨_, rfl, ⟨_, _, _, _, _, _, rfl, rfl, rfl⟩⟩)
    exact ⟨_, _, _, ⟨CC_mk, amCommit_init, imCommit_init, CC_kc⟩, ⟨⟨_, _, _, _, _, _, _, _, _, _, rfl, lmCommit_init, cmCommit_init⟩⟩, b⟩
  have kC2f : IniK K CC "Commit.__init__" s_Commit_init ["self", "tree", "parents", "author", "time", "message"] 2 ["author", "time", "message"] (fun vs zs => vs ++ (.ref pdA :: zs)) := by
    obtain ⟨its, mv, b⟩ := FC.kbinds (ps := ["self", "tree", "parents", "author", "time", "message"]) 2 ["author", "time", "message"] [] (fun us its mv ws => us ++ (its ++ ws)) (fun z => by cases z) (fun z => by cases z) (fun q hq => by cases hq) (fun r1 r2 r3 r4 => r1.append (r2.append r4))
      (fun T D doc pm an cdv ct us its mv ws h1 h2 h3 h4 => match us, its, mv, ws, h1, h2, h3, h4 with | [_, _], [_], [], [_, _, _], _, _, _, _ => ⟨_, rfl, rfl⟩)
    exact ⟨_, _, _, ⟨CC_mk, amCommit_init, imCommit_init, CC_kc⟩, ⟨⟨_, _, _, _, _, _, _, _, _, _, rfl, lmCommit_init, cmCommit_init⟩⟩, b⟩
  have kC2 : IniK K CC "Commit.__init__" s_Commit_init ["self", "tree", "parents", "author", "time", "message"] 2 ["author", "time"] (fun vs zs => vs ++ (.ref pdA :: (zs ++ [.str ""]))) := by
    obtain ⟨its, mv, b⟩ := FC.kbinds (ps := ["self", "tree", "parents", "author", "time", "message"]) 2 ["author", "time"] [("message", V.str "")] (fun us its mv ws => us ++ (its ++ (ws ++ mv))) (fun z => by cases z) (fun z => by cases z) (fun q hq => hq) (fun r1 r2 r3 r4 => r1.append (r2.append (r4.append r3)))
      (fun T D doc pm an cdv ct us its mv ws h1 h2 h3 h4 => match us, its, mv, ws, h1, h2, h3, h4 with | [_, _], [_], [_], [_, _], _, _, _, _ => ⟨_, rfl, ⟨_, _, _, _, _, _, rfl, rfl, rfl⟩⟩)
    exact ⟨_, _, _, ⟨CC_mk, amCommit_init, imCommit_init, CC_kc⟩, ⟨⟨_, _, _, _, _, _, _, _, _, _, rfl, lmCommit_init, cmCommit_init⟩⟩, b⟩
  have kG2 : IniK K CG "Tag.__init__" s_Tag_init ["self", "target", "label", "message"] 2 ["label", "message"] (fun vs zs => vs ++ zs) := by
    obtain ⟨mv, b⟩ := FG.kbinds0 (ps := ["self", "target", "label", "message"]) 2 ["label", "message"] [] (fun us mv ws => us ++ ws) (fun z => by cases z) (fun q hq => by cases hq) (fun r1 r3 r4 => r1.append r4)
      (fun D doc pm an cdv ct us mv ws h1 h3 h4 => match us, mv, ws, h1, h3, h4 with | [_, _], [], [_, _], _, _, _ => rfl)
    exact ⟨_, _, _, ⟨CG_mk, amTag_init, imTag_init, CG_kc⟩, ⟨⟨_, _, _, _, _, _, _, _, _, _, rfl, lmTag_init, cmTag_init⟩⟩, b⟩
  have kG1 : IniK K CG "Tag.__init__" s_Tag_init ["self", "target", "label", "message"] 2 ["label"] (fun vs zs => vs ++ (zs ++ [.str ""])) := by
    obtain ⟨mv, b⟩ := FG.kbinds0 (ps := ["self", "target", "label", "message"]) 2 ["label"] [("message", V.str "")] (fun us mv ws => us ++ (ws ++ mv)) (fun z => by cases z) (fun q hq => hq) (fun r1 r3 r4 => r1.append (r4.append r3))
      (fun D doc pm an cdv ct us mv ws h1 h3 h4 => match us, mv, ws, h1, h3, h4 with | [_, _], [_], [_], _, _, _ => ⟨_, _, _, _, _, _, rfl, rfl, rfl⟩)
    exact ⟨_, _, _, ⟨CG_mk, amTag_init, imTag_init, CG_kc⟩, ⟨⟨_, _, _, _, _, _, _, _, _, _, rfl, lmTag_init, cmTag_init⟩⟩, b⟩
  have kBB : PySem.W.kitOne K (.ref CB) (.ref CB) = some true := by unfold PySem.W.kitOne; rw [if_pos (beq_self_eq_true _)]
  have inB : C8.InsC K CB := ⟨⟨CB_pg, CB_hd, CB_po, CB_sa⟩, CB_ha, e_hn, e_ht, CB_hm, kBB⟩
  have kTT : PySem.W.kitOne K (.ref CT) (.ref CT) = some true := by unfold PySem.W.kitOne; rw [if_pos (beq_self_eq_true _)]
  have inT : C8.InsC K CT := ⟨⟨CT_pg, CT_hd, CT_po, CT_sa⟩, CT_ha, e_hn, e_ht, CT_hm, kTT⟩
  have kCC : PySem.W.kitOne K (.ref CC) (.ref CC) = some true := by unfold PySem.W.kitOne; rw [if_pos (beq_self_eq_true _)]
  have inC : C8.InsC K CC := ⟨⟨CC_pg, CC_hd, CC_po, CC_sa⟩, CC_ha, e_hn, e_ht, CC_hm, kCC⟩
  have kGG : PySem.W.kitOne K (.ref CG) (.ref CG) = some true := by unfold PySem.W.kitOne; rw [if_pos (beq_self_eq_true _)]
  have inG : C8.InsC K CG := ⟨⟨CG_pg, CG_hd, CG_po, CG_sa⟩, CG_ha, e_hn, e_ht, CG_hm, kGG⟩
  have TO : TopO K mg ⟨CB, CT, CC, CG⟩ CB CB CB ek pdA := { T with
    ins := fun i hi => match i, hi with
      | 0, _ => inB
      | 1, _ => inT
      | 2, _ => inC
      | 3, _ => inG
      | n + 4, h => absurd h (by omega)
    kk := fun i j hi hj => match i, j, hi, hj with
      | 0, 0, _, _ => kBB
      | 0, 1, _, _ => kBT
      | 0, 2, _, _ => kBC
      | 0, 3, _, _ => kBG
      | 0, n + 4, _, h => absurd h (by omega)
      | 1, 0, _, _ => kTB
      | 1, 1, _, _ => kTT
      | 1, 2, _, _ => kTC
      | 1, 3, _, _ => kTG
      | 1, n + 4, _, h => absurd h (by omega)
      | 2, 0, _, _ => kCB
      | 2, 1, _, _ => kCT
      | 2, 2, _, _ => kCC
      | 2, 3, _, _ => kCG
      | 2, n + 4, _, h => absurd h (by omega)
      | 3, 0, _, _ => kGB
      | 3, 1, _, _ => kGT
      | 3, 2, _, _ => kGC
      | 3, 3, _, _ => kGG
      | 3, n + 4, _, h => absurd h (by omega)
      | n + 4, _, h, _ => absurd h (by omega)
    ne := fun i hi => match i, hi with
      | 0, _ => CB_ne
      | 1, _ => CT_ne
      | 2, _ => CC_ne
      | 3, _ => CG_ne
      | n + 4, h => absurd h (by omega)
    mgB := PySem.W.mg_of X G eB_mg
    mgT := PySem.W.mg_of X G eT_mg
    mgC := PySem.W.mg_of X G eC_mg
    mgG := PySem.W.mg_of X G eG_mg
    g_ENTRY_KINDS := ⟨_, PySem.W.mg_of X G g_EK, rfl⟩
    kE := ⟨_, _, _, t_ek, rfl, rfl, (by show 3 ≤ sizeLine; decide), .cons ⟨_, rfl⟩ (.cons ⟨_, rfl⟩ (.cons ⟨_, rfl⟩ .nil))⟩
    kP := ⟨_, _, _, t_pd, rfl, rfl, (by show 0 ≤ sizeLine; decide), .nil⟩
    iniB := ⟨_, _, ⟨CB_mk, amBlob_init, imBlob_init, CB_kc⟩, ⟨⟨_, _, _, _, _, _, _, _, _, _, rfl, lmBlob_init, cmBlob_init⟩⟩, rfl⟩
    iniT := ⟨_, _, ⟨CT_mk, amTree_init, imTree_init, CT_kc⟩, ⟨⟨_, _, _, _, _, _, _, _, _, _, rfl, lmTree_init, cmTree_init⟩⟩, rfl⟩
    kC3f := kC3f
    kC3 := kC3
    kC2f := kC2f
    kC2 := kC2
    kG2 := kG2
    kG1 := kG1
    eqB := ⟨_, _, ⟨⟨_, _, _, _, _, _, _, _, _, _, rfl, lmBlob_eq, cmBlob_eq⟩⟩, ⟨amBlob_eq, imBlob_eq, kmBlob_eq⟩, rfl⟩
    eqT := ⟨_, _, ⟨⟨_, _, _, _, _, _, _, _, _, _, rfl, lmTree_eq, cmTree_eq⟩⟩, ⟨amTree_eq, imTree_eq, kmTree_eq⟩, rfl⟩
    eqC := ⟨_, _, ⟨⟨_, _, _, _, _, _, _, _, _, _, rfl, lmCommit_eq, cmCommit_eq⟩⟩, ⟨amCommit_eq, imCommit_eq, kmCommit_eq⟩, rfl⟩
    eqG := ⟨_, _, ⟨⟨_, _, _, _, _, _, _, _, _, _, rfl, lmTag_eq, cmTag_eq⟩⟩, ⟨amTag_eq, imTag_eq, kmTag_eq⟩, rfl⟩
    pBtext := ⟨_, _, _, ⟨apBlob_text, gpBlob_text, tpBlob_text, _, rpBlob_text_⟩, ⟨⟨_, _, _, _, _, _, _, _, _, _, rfl, lpBlob_text, cpBlob_text⟩⟩, rfl⟩
    nB_text := nB_text
    pTentries := ⟨_, _, _, ⟨apTree_entries, gpTree_entries, tpTree_entries, _, rpTree_entries_⟩, ⟨⟨_, _, _, _, _, _, _, _, _, _, rfl, lpTree_entries, cpTree_entries⟩⟩, rfl⟩
    nT_entries := nT_entries
    pCtree := ⟨_, _, _, ⟨apCommit_tree, gpCommit_tree, tpCommit_tree, _, rpCommit_tree_⟩, ⟨⟨_, _, _, _, _, _, _, _, _, _, rfl, lpCommit_tree, cpCommit_tree⟩⟩, rfl⟩
    nC_tree := nC_tree
    pCparents := ⟨_, _, _, ⟨apCommit_parents, gpCommit_parents, tpCommit_parents, _, rpCommit_parents_⟩, ⟨⟨_, _, _, _, _, _, _, _, _, _, rfl, lpCommit_parents, cpCommit_parents⟩⟩, rfl⟩
    nC_parents := nC_parents
    pCauthor := ⟨_, _, _, ⟨apCommit_author, gpCommit_author, tpCommit_author, _, rpCommit_author_⟩, ⟨⟨_, _, _, _, _, _, _, _, _, _, rfl, lpCommit_author, cpCommit_author⟩⟩, rfl⟩
    nC_author := nC_author
    pCtime := ⟨_, _, _, ⟨apCommit_time, gpCommit_time, tpCommit_time, _, rpCommit_time_⟩, ⟨⟨_, _, _, _, _, _, _, _, _, _, rfl, lpCommit_time, cpCommit_time⟩⟩, rfl⟩
    nC_time := nC_time
    pCmessage := ⟨_, _, _, ⟨apCommit_message, gpCommit_message, tpCommit_message, _, rpCommit_message_⟩, ⟨⟨_, _, _, _, _, _, _, _, _, _, rfl, lpCommit_message, cpCommit_message⟩⟩, rfl⟩
    nC_message := nC_message
    pGtarget := ⟨_, _, _, ⟨apTag_target, gpTag_target, tpTag_target, _, rpTag_target_⟩, ⟨⟨_, _, _, _, _, _, _, _, _, _, rfl, lpTag_target, cpTag_target⟩⟩, rfl⟩
    nG_target := nG_target
    pGlabel := ⟨_, _, _, ⟨apTag_label, gpTag_label, tpTag_label, _, rpTag_label_⟩, ⟨⟨_, _, _, _, _, _, _, _, _, _, rfl, lpTag_label, cpTag_label⟩⟩, rfl⟩
    nG_label := nG_label
    pGmessage := ⟨_, _, _, ⟨apTag_message, gpTag_message, tpTag_message, _, rpTag_message_⟩, ⟨⟨_, _, _, _, _, _, _, _, _, _, rfl, lpTag_message, cpTag_message⟩⟩, rfl⟩
    nG_message := nG_message }
  have TS : TopB K mg ⟨CB, CT, CC, CG⟩ CB CB CB ek pdA cX iX := { TO with
    eO := eX
    exO := cfX.exm cfX hbE (by rw [List.contains_cons, beq_self_eq_true]; rfl) }
  exact ⟨PySem.W.fnOf "law" "law" (C8.fnArgs s_law) (C8.fnBody s_law) (C8.fnScope s_law) .none kV45 dc45 pm45 an45 cd45 ct45, fun s v => .of_eq rfl, fun base _ _ => ok_law TS ⟨⟨_, _, _, _, _, _, _, _, _, _, rfl, l45, c45⟩⟩⟩
end Fk
open PySem PySem.W PyProof.Rows
set_option maxHeartbeats 0 in
theorem PySem.Challenge.cw_forkhaul_k05_bytes_that_are_none_holds : PySem.Challenge.rw_forkhaul_k05_bytes_that_are_none.Holds := by
  w_on; o_law; k_head; (case hw => w_witness2)
  k_fill
  refine L2.walk_of (l := PySem.Challenge.rw_forkhaul_k05_bytes_that_are_none) (n := 63) (k := 10) (x := "_law_script") (CX := fun _ => C8.CX0) (sp := fun w => Fk.spLaw _) rfl (by decide) rfl ⟨rfl, by decide, by decide⟩ (fun w h Y => PySem.W.kIn_of Y) ?F (fun _ _ a ns hl _ hS => ⟨a, ns, rfl, hS, hl, fun _ => rfl⟩) (fun _ _ _ _ _ h => h)
  case F =>
    intro w mg fa h KX G hmg
    refine' Fk.all_mk KX G hmg ?a1 ?l1 ?c1 ?k1 ?a2 ?l2 ?c2 ?k2 ?a3 ?l3 ?c3 ?k3 ?a4 ?l4 ?c4 ?k4 ?a5 ?l5 ?c5 ?k5 ?a6 ?l6 ?c6 ?k6 ?a7 ?l7 ?c7 ?k7 ?a8 ?l8 ?c8 ?k8 ?a9 ?l9 ?c9 ?k9 ?a10 ?l10 ?c10 ?k10 ?a11 ?l11 ?c11 ?k11 ?a12 ?l12 ?c12 ?k12 ?a13 ?l13 ?c13 ?k13 ?a14 ?l14 ?c14 ?k14 ?a15 ?l15 ?c15 ?k15 ?a16 ?l16 ?c16 ?k16 ?a17 ?l17 ?c17 ?k17 ?a18 ?l18 ?c18 ?k18 ?a19 ?l19 ?c19 ?k19 ?a20 ?l20 ?c20 ?k20 ?a21 ?l21 ?c21 ?k21 ?a22 ?l22 ?c22 ?k22 ?a23 ?l23 ?c23 ?k23 ?a24 ?l24 ?c24 ?k24 ?a25 ?l25 ?c25 ?k25 ?a26 ?l26 ?c26 ?k26 ?a27 ?l27 ?c27 ?k27 ?a28 ?l28 ?c28 ?k28 ?a29 ?l29 ?c29 ?k29 ?a30 ?l30 ?c30 ?k30 ?a31 ?l31 ?c31 ?k31 ?a32 ?l32 ?c32 ?k32 ?a33 ?l33 ?c33 ?k33 ?a34 ?l34 ?c34 ?k34 ?a35 ?l35 ?c35 ?k35 ?a36 ?l36 ?c36 ?k36 ?a37 ?l37 ?c37 ?k37 ?a38 ?l38 ?c38 ?k38 ?a39 ?l39 ?c39 ?k39 ?a40 ?l40 ?c40 ?k40 ?a41 ?l41 ?c41 ?k41 ?a42 ?l42 ?c42 ?k42 ?a43 ?l43 ?c43 ?k43 ?a44 ?l44 ?c44 ?k44 ?a45 ?l45 ?c45 ?k45 ?z_ValueError ?z_all ?z_bool ?z_bytes ?z_dict ?z_enumerate ?z_int ?z_isinstance ?z_len ?z_min ?z_range ?z_set ?z_sorted ?z_str ?z_tuple ?g_HEX_DIGITS ?g_LETTERS ?g_SEGMENT_SIGNS ?g_LONGEST_WORD ?g_LONGEST_TEXT ?g_LONGEST_MESSAGE ?g_LATEST ?g_MOST_ENTRIES ?g_MOST_PARENTS ?eB_mg ?eT_mg ?eC_mg ?eG_mg ?eF_mg ?eX_mg ?CB_pg ?CB_hd ?CB_po ?CB_sa ?CB_mk ?CB_kc ?CB_ha ?CB_hm ?CB_ne ?CT_pg ?CT_hd ?CT_po ?CT_sa ?CT_mk ?CT_kc ?CT_ha ?CT_hm ?CT_ne ?CC_pg ?CC_hd ?CC_po ?CC_sa ?CC_mk ?CC_kc ?CC_ha ?CC_hm ?CC_ne ?CG_pg ?CG_hd ?CG_po ?CG_sa ?CG_mk ?CG_kc ?CG_ha ?CG_hm ?CG_ne ?kBT ?kBC ?kBG ?kTB ?kTC ?kTG ?kCB ?kCT ?kCG ?kGB ?kGT ?kGC ?e_hn ?e_ht ?amBlob_init ?imBlob_init ?lmBlob_init ?cmBlob_init ?kmBlob_init ?amTree_init ?imTree_init ?lmTree_init ?cmTree_init ?kmTree_init ?amCommit_init ?imCommit_init ?lmCommit_init ?cmCommit_init ?kmCommit_init ?amTag_init ?imTag_init ?lmTag_init ?cmTag_init ?kmTag_init ?amBlob_eq ?imBlob_eq ?lmBlob_eq ?cmBlob_eq ?kmBlob_eq ?amTree_eq ?imTree_eq ?lmTree_eq ?cmTree_eq ?kmTree_eq ?amCommit_eq ?imCommit_eq ?lmCommit_eq ?cmCommit_eq ?kmCommit_eq ?amTag_eq ?imTag_eq ?lmTag_eq ?cmTag_eq ?kmTag_eq ?apBlob_text ?gpBlob_text ?tpBlob_text ?rpBlob_text_ ?lpBlob_text ?cpBlob_text ?nB_text ?apTree_entries ?gpTree_entries ?tpTree_entries ?rpTree_entries_ ?lpTree_entries ?cpTree_entries ?nT_entries ?apCommit_tree ?gpCommit_tree ?tpCommit_tree ?rpCommit_tree_ ?lpCommit_tree ?cpCommit_tree ?nC_tree ?apCommit_parents ?gpCommit_parents ?tpCommit_parents ?rpCommit_parents_ ?lpCommit_parents ?cpCommit_parents ?nC_parents ?apCommit_author ?gpCommit_author ?tpCommit_author ?rpCommit_author_ ?lpCommit_author ?cpCommit_author ?nC_author ?apCommit_time ?gpCommit_time ?tpCommit_time ?rpCommit_time_ ?lpCommit_time ?cpCommit_time ?nC_time ?apCommit_message ?gpCommit_message ?tpCommit_message ?rpCommit_message_ ?lpCommit_message ?cpCommit_message ?nC_message ?apTag_target ?gpTag_target ?tpTag_target ?rpTag_target_ ?lpTag_target ?cpTag_target ?nG_target ?apTag_label ?gpTag_label ?tpTag_label ?rpTag_label_ ?lpTag_label ?cpTag_label ?nG_label ?apTag_message ?gpTag_message ?tpTag_message ?rpTag_message_ ?lpTag_message ?cpTag_message ?nG_message ?e_kdC ?e_kdG ?e_dC ?t_pd ?g_EK ?t_ek ?xF ?xX ?saX ?kCX ?iCX ?gaX ?ggX ?haX ?nfX ?tiX ?liX ?ciX
    (case a1 => k_is); (case l1 => k_is); (case c1 => k_is); (case k1 => k_is); (case a2 => k_is); (case l2 => k_is); (case c2 => k_is); (case k2 => k_is); (case a3 => k_is); (case l3 => k_is); (case c3 => k_is); (case k3 => k_is); (case a4 => k_is); (case l4 => k_is); (case c4 => k_is); (case k4 => k_is); (case a5 => k_is); (case l5 => k_is); (case c5 => k_is); (case k5 => k_is); (case a6 => k_is); (case l6 => k_is); (case c6 => k_is); (case k6 => k_is); (case a7 => k_is); (case l7 => k_is); (case c7 => k_is); (case k7 => k_is); (case a8 => k_is); (case l8 => k_is); (case c8 => k_is); (case k8 => k_is); (case a9 => k_is); (case l9 => k_is); (case c9 => k_is); (case k9 => k_is); (case a10 => k_is); (case l10 => k_is); (case c10 => k_is); (case k10 => k_is); (case a11 => k_is); (case l11 => k_is); (case c11 => k_is); (case k11 => k_is); (case a12 => k_is); (case l12 => k_is); (case c12 => k_is); (case k12 => k_is); (case a13 => k_is); (case l13 => k_is); (case c13 => k_is); (case k13 => k_is); (case a14 => k_is); (case l14 => k_is); (case c14 => k_is); (case k14 => k_is); (case a15 => k_is); (case l15 => k_is); (case c15 => k_is); (case k15 => k_is); (case a16 => k_is); (case l16 => k_is); (case c16 => k_is); (case k16 => k_is); (case a17 => k_is); (case l17 => k_is); (case c17 => k_is); (case k17 => k_is); (case a18 => k_is); (case l18 => k_is); (case c18 => k_is); (case k18 => k_is); (case a19 => k_is); (case l19 => k_is); (case c19 => k_is); (case k19 => k_is); (case a20 => k_is); (case l20 => k_is); (case c20 => k_is); (case k20 => k_is); (case a21 => k_is); (case l21 => k_is); (case c21 => k_is); (case k21 => k_is); (case a22 => k_is); (case l22 => k_is); (case c22 => k_is); (case k22 => k_is); (case a23 => k_is); (case l23 => k_is); (case c23 => k_is); (case k23 => k_is); (case a24 => k_is); (case l24 => k_is); (case c24 => k_is); (case k24 => k_is); (case a25 => k_is); (case l25 => k_is); (case c25 => k_is); (case k25 => k_is); (case a26 => k_is); (case l26 => k_is); (case c26 => k_is); (case k26 => k_is); (case a27 => k_is); (case l27 => k_is); (case c27 => k_is); (case k27 => k_is); (case a28 => k_is); (case l28 => k_is); (case c28 => k_is); (case k28 => k_is); (case a29 => k_is); (case l29 => k_is); (case c29 => k_is); (case k29 => k_is); (case a30 => k_is); (case l30 => k_is); (case c30 => k_is); (case k30 => k_is); (case a31 => k_is); (case l31 => k_is); (case c31 => k_is); (case k31 => k_is); (case a32 => k_is); (case l32 => k_is); (case c32 => k_is); (case k32 => k_is); (case a33 => k_is); (case l33 => k_is); (case c33 => k_is); (case k33 => k_is); (case a34 => k_is); (case l34 => k_is); (case c34 => k_is); (case k34 => k_is); (case a35 => k_is); (case l35 => k_is); (case c35 => k_is); (case k35 => k_is); (case a36 => k_is); (case l36 => k_is); (case c36 => k_is); (case k36 => k_is); (case a37 => k_is); (case l37 => k_is); (case c37 => k_is); (case k37 => k_is); (case a38 => k_is); (case l38 => k_is); (case c38 => k_is); (case k38 => k_is); (case a39 => k_is); (case l39 => k_is); (case c39 => k_is); (case k39 => k_is); (case a40 => k_is); (case l40 => k_is); (case c40 => k_is); (case k40 => k_is); (case a41 => k_is); (case l41 => k_is); (case c41 => k_is); (case k41 => k_is); (case a42 => k_is); (case l42 => k_is); (case c42 => k_is); (case k42 => k_is); (case a43 => k_is); (case l43 => k_is); (case c43 => k_is); (case k43 => k_is); (case a44 => k_is); (case l44 => k_is); (case c44 => k_is); (case k44 => k_is); (case a45 => k_is); (case l45 => k_is); (case c45 => k_is); (case k45 => k_is); (case z_ValueError => k_is); (case z_all => k_is); (case z_bool => k_is); (case z_bytes => k_is); (case z_dict => k_is); (case z_enumerate => k_is); (case z_int => k_is); (case z_isinstance => k_is); (case z_len => k_is); (case z_min => k_is); (case z_range => k_is); (case z_set => k_is); (case z_sorted => k_is); (case z_str => k_is); (case z_tuple => k_is); (case g_HEX_DIGITS => k_is); (case g_LETTERS => k_is); (case g_SEGMENT_SIGNS => k_is); (case g_LONGEST_WORD => k_is); (case g_LONGEST_TEXT => k_is); (case g_LONGEST_MESSAGE => k_is); (case g_LATEST => k_is); (case g_MOST_ENTRIES => k_is); (case g_MOST_PARENTS => k_is); (case eB_mg => k_is); (case eT_mg => k_is); (case eC_mg => k_is); (case eG_mg => k_is); (case eF_mg => k_is); (case eX_mg => k_is); (case CB_pg => k_is); (case CB_hd => k_is); (case CB_po => k_is); (case CB_sa => k_is); (case CB_mk => k_is); (case CB_kc => k_is); (case CB_ha => k_is); (case CB_hm => k_is); (case CB_ne => k_is); (case CT_pg => k_is); (case CT_hd => k_is); (case CT_po => k_is); (case CT_sa => k_is); (case CT_mk => k_is); (case CT_kc => k_is); (case CT_ha => k_is); (case CT_hm => k_is); (case CT_ne => k_is); (case CC_pg => k_is); (case CC_hd => k_is); (case CC_po => k_is); (case CC_sa => k_is); (case CC_mk => k_is); (case CC_kc => k_is); (case CC_ha => k_is); (case CC_hm => k_is); (case CC_ne => k_is); (case CG_pg => k_is); (case CG_hd => k_is); (case CG_po => k_is); (case CG_sa => k_is); (case CG_mk => k_is); (case CG_kc => k_is); (case CG_ha => k_is); (case CG_hm => k_is); (case CG_ne => k_is); (case kBT => kit_is); (case kBC => kit_is); (case kBG => kit_is); (case kTB => kit_is); (case kTC => kit_is); (case kTG => kit_is); (case kCB => kit_is); (case kCT => kit_is); (case kCG => kit_is); (case kGB => kit_is); (case kGT => kit_is); (case kGC => kit_is); (case e_hn => k_is); (case e_ht => k_is); (case amBlob_init => k_is); (case imBlob_init => k_is); (case lmBlob_init => k_is); (case cmBlob_init => k_is); (case kmBlob_init => k_is); (case amTree_init => k_is); (case imTree_init => k_is); (case lmTree_init => k_is); (case cmTree_init => k_is); (case kmTree_init => k_is); (case amCommit_init => k_is); (case imCommit_init => k_is); (case lmCommit_init => k_is); (case cmCommit_init => k_is); (case kmCommit_init => k_is); (case amTag_init => k_is); (case imTag_init => k_is); (case lmTag_init => k_is); (case cmTag_init => k_is); (case kmTag_init => k_is); (case amBlob_eq => k_is); (case imBlob_eq => k_is); (case lmBlob_eq => k_is); (case cmBlob_eq => k_is); (case kmBlob_eq => k_is); (case amTree_eq => k_is); (case imTree_eq => k_is); (case lmTree_eq => k_is); (case cmTree_eq => k_is); (case kmTree_eq => k_is); (case amCommit_eq => k_is); (case imCommit_eq => k_is); (case lmCommit_eq => k_is); (case cmCommit_eq => k_is); (case kmCommit_eq => k_is); (case amTag_eq => k_is); (case imTag_eq => k_is); (case lmTag_eq => k_is); (case cmTag_eq => k_is); (case kmTag_eq => k_is); (case apBlob_text => k_is); (case gpBlob_text => k_is); (case tpBlob_text => k_is); (case rpBlob_text_ => k_is); (case lpBlob_text => k_is); (case cpBlob_text => k_is); (case nB_text => k_is); (case apTree_entries => k_is); (case gpTree_entries => k_is); (case tpTree_entries => k_is); (case rpTree_entries_ => k_is); (case lpTree_entries => k_is); (case cpTree_entries => k_is); (case nT_entries => k_is); (case apCommit_tree => k_is); (case gpCommit_tree => k_is); (case tpCommit_tree => k_is); (case rpCommit_tree_ => k_is); (case lpCommit_tree => k_is); (case cpCommit_tree => k_is); (case nC_tree => k_is); (case apCommit_parents => k_is); (case gpCommit_parents => k_is); (case tpCommit_parents => k_is); (case rpCommit_parents_ => k_is); (case lpCommit_parents => k_is); (case cpCommit_parents => k_is); (case nC_parents => k_is); (case apCommit_author => k_is); (case gpCommit_author => k_is); (case tpCommit_author => k_is); (case rpCommit_author_ => k_is); (case lpCommit_author => k_is); (case cpCommit_author => k_is); (case nC_author => k_is); (case apCommit_time => k_is); (case gpCommit_time => k_is); (case tpCommit_time => k_is); (case rpCommit_time_ => k_is); (case lpCommit_time => k_is); (case cpCommit_time => k_is); (case nC_time => k_is); (case apCommit_message => k_is); (case gpCommit_message => k_is); (case tpCommit_message => k_is); (case rpCommit_message_ => k_is); (case lpCommit_message => k_is); (case cpCommit_message => k_is); (case nC_message => k_is); (case apTag_target => k_is); (case gpTag_target => k_is); (case tpTag_target => k_is); (case rpTag_target_ => k_is); (case lpTag_target => k_is); (case cpTag_target => k_is); (case nG_target => k_is); (case apTag_label => k_is); (case gpTag_label => k_is); (case tpTag_label => k_is); (case rpTag_label_ => k_is); (case lpTag_label => k_is); (case cpTag_label => k_is); (case nG_label => k_is); (case apTag_message => k_is); (case gpTag_message => k_is); (case tpTag_message => k_is); (case rpTag_message_ => k_is); (case lpTag_message => k_is); (case cpTag_message => k_is); (case nG_message => k_is); (case e_kdC => k_is); (case e_kdG => k_is); (case e_dC => k_is); (case t_pd => k_is); (case g_EK => k_is); (case t_ek => k_is); (case xF => k_is); (case xX => k_is); (case saX => k_is); (case kCX => k_is); (case iCX => k_is); (case gaX => k_is); (case ggX => k_is); (case haX => k_is); (case nfX => k_is); (case tiX => k_is); (case liX => k_is); (case ciX => k_is)


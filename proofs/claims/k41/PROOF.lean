import PyProof.Rows.All
import Wide.All
import OpenK.AllK
import Wide.FinOn
import HandS.ForMost
import HandS.Codes
import HandS.IsInst
import HandS.Wide
import HandS.CallLocal
import HandS.StrMore
import HandS.Replace
import HandS.ReplaceDef
import HandS.ReplaceLit
import HandS.ReplaceList
import Wide.Txt
import HandS.Exc
import HandS.ExcInit
import HandS.Defaults
import HandS.MakeKw
import HandS.TryOnly
import HandS.ExcField
import KE.KExcIs
import KE.KExcInit
import PyProof.P3Eq
import HandS.ExcIs
import HandS.OwnEq
import HandS.Property
import HandS.ExcOwn
import HandS.NamedTupSort
import KE.KOpsOwn
import PyProof.InstNe
import HandS.MakeKwOnly
import PyProof.InstEq
import PyProof.DictUpdate
import PyProof.DictDisplay
import HandS.DictComp
import KE.KEqDict
import HandS.More
import HandS.TryMany
import HandS.WordsDict
import PyProof.Rows.StrMeet
import HandS.RaiseMore
import HandS.TupAny
import KE.KRevSl
import PyProof.SliceList
import HandS.Zip
import HandS.Conv
import PyProof.ListStr
import HandS.Lambda
import HandS.EndTab
import HandS.EndOwn
import PyProof.ReprReads
import PyProof.ReprRoads
import PyProof.ReprLen
import PySem.Challenge.RW_forkhaul_k41_whole_sums_of_changes
import HandS.ListItems
import HandS.Style
set_option Elab.async false
set_option linter.all false
set_option maxRecDepth 100000
set_option maxHeartbeats 4000000
/-! The base of the proofs: repetition of texts, defs by their names, comprehensions by an invariant, frames. -/
namespace Fk
open PySem PySem.Spec PyProof.Rows L2

/-! ### a text repeated -/
theorem fold_cps (x : Array Nat) : ∀ (n : Nat) (acc : Array Nat), ((List.replicate n x).foldl (· ++ ·) acc).toList = acc.toList ++ (List.replicate n x.toList).flatten
  | 0, acc => by simp
  | n + 1, acc => by
    rw [List.replicate_succ, List.foldl_cons, fold_cps x n (acc ++ x), List.replicate_succ, List.flatten_cons, Array.toList_append, List.append_assoc]
def repS (x : Str) (n : Nat) : Str := ⟨(List.replicate n x.cps.toList).flatten.toArray⟩
theorem tl_rep (x : Str) (n : Nat) : TL.tl (repS x n) = (List.replicate n (TL.tl x)).flatten := rfl
theorem rep_len (x : Str) (n : Nat) : (repS x n).length = n * x.length := by
  rw [TL.len_tl, tl_rep, TL.len_tl]
  induction n with
  | zero => simp
  | succ n ih => rw [List.replicate_succ, List.flatten_cons, List.length_append, ih, Nat.succ_mul, Nat.add_comm]
theorem tooLong_no {n : Nat} (h : n ≤ 16777216) : Builtin.Str.tooLong n = false := by
  unfold Builtin.Str.tooLong
  have e : (16777216 : Nat) = sizeLine ∨ 16777216 ≤ sizeLine := by right; decide
  have h2 : 16777216 ≤ sizeLine := by rcases e with e | e <;> omega
  simp
  omega
def rMulSI : R2 := fun x y H Q => ∃ (z : Str) (k : Int), x = .str z ∧ y = .int k ∧ 0 ≤ k ∧ k ≤ 10000 ∧ z.length * k.toNat ≤ 1000000 ∧ Q (.str (repS z k.toNat)) H
theorem op_mul_si {X : Cx} : OpR X (binaryOp .Mult) rMulSI := by
  intro pins s σ H x y v u Q I rx ry h
  obtain ⟨z, k, rfl, rfl, h0, h1, h2, q⟩ := h
  obtain ⟨t, rfl⟩ := rx
  obtain ⟨t', rfl⟩ := ry
  refine PySem.P.mul_str ?_ (fun h3 h4 => ?_) (fun h3 h4 => ?_) ?_
  · have e1 : ¬ k < -(2 ^ 63 : Int) := by omega
    have e2 : ¬ k ≥ 2 ^ 63 := by omega
    rw [decide_eq_false e1, decide_eq_false e2]
    rfl
  · have hk : 1 ≤ k := by omega
    have hz : z.length ≤ 1000000 := by
      have h5 : z.length * 1 ≤ z.length * k.toNat := Nat.mul_le_mul_left _ (by omega)
      omega
    have h6 : (10 ^ 14 : Int) ≤ (2 ^ 63 - 1) / k := by
      refine Int.le_ediv_of_mul_le (by omega) ?_
      have h7 : (10 ^ 14 : Int) * k ≤ 10 ^ 14 * 10000 := Int.mul_le_mul_of_nonneg_left h1 (by decide)
      have h8 : ((10 ^ 14 : Int) * 10000) ≤ 2 ^ 63 - 1 := by decide
      omega
    have h9 : ((z.length : Nat) : Int) ≤ 1000000 := by omega
    have h10 : (1000000 : Int) < 10 ^ 14 := by decide
    omega
  · exact tooLong_no (by omega)
  · by_cases h3 : k < 1
    · rw [if_pos h3]
      have e : k.toNat = 0 := by omega
      rw [e] at q
      have ez : repS z 0 = Str.empty := TL.ext_tl rfl
      rw [ez] at q
      exact ⟨by decide, V.str Str.empty, H, I.tok _, ⟨_, rfl⟩, q⟩
    · rw [if_neg h3]
      by_cases h4 : (k == 1 || z.length == 0) = true
      · rw [if_pos h4]
        have ez : repS z k.toNat = z := by
          apply TL.ext_tl
          rw [tl_rep]
          rcases Bool.or_eq_true_iff.mp h4 with h5 | h5
          · have e : k.toNat = 1 := by
              have := eq_of_beq h5
              omega
            rw [e]
            simp
          · have e : TL.tl z = [] := by
              have := eq_of_beq h5
              rw [TL.len_tl] at this
              exact List.length_eq_zero_iff.mp this
            rw [e]
            simp
        rw [ez] at q
        exact ⟨V.str z, H, I, ⟨_, rfl⟩, q⟩
      · rw [if_neg h4]
        have ez : (⟨(List.replicate k.toNat z.cps).foldl (· ++ ·) #[]⟩ : Str) = repS z k.toNat := by
          apply TL.ext_tl
          show ((List.replicate k.toNat z.cps).foldl (· ++ ·) #[]).toList = _
          rw [fold_cps]
          rfl
        have hl : (repS z k.toNat).length ≤ sizeLine := by
          rw [rep_len, Nat.mul_comm]
          exact Nat.le_trans h2 (by decide)
        rw [← ez] at q hl
        exact ⟨hl, V.str _, H, I.tok _, ⟨_, rfl⟩, q⟩

section
variable {P : Program} {w : World} {K : PySem.W.Frag} {mg : Str → Option Value} {base : Heap}
/-! ### defs by their names -/
/-- a def of the module whose parameters have no defaults -/
def IsDef (K : PySem.W.Frag) (mg : Str → Option Value) (x : Str) (st : Stmt) : Prop := ∃ f fd, C8.Def K mg x st f fd ∧ fd.defaults = .none
theorem cal_of {x : Str} {st : Stmt} {N ps : List Str} {k : Nat} {sp : Sp} (D : IsDef K mg x st) (S : FnScope N ps (C8.fnScope st))
    (hb : ∀ (kV doc pm : Value) (an : Option Addr) (cdv ct : Value) (us : List Value), us.length = ps.length → bindArgs (PySem.W.fnOf x x (C8.fnArgs st) (C8.fnBody st) (C8.fnScope st) .none kV doc pm an cdv ct) ⟨us, []⟩ = pure (ps.zip us))
    (len : ∀ vs H Q E, sp vs H Q E → vs.length = ps.length)
    (hbody : ∀ (f : Addr) (cdv : Value) (A : Around) (outer : List Env) (s : Shared) (H : Hp) (vs : List V) (Q : VK) (E : XK), Room k (A.deeper (envOfC x (C8.fnScope st) s.heap.objs.size f cdv)) → sp vs H Q E →
      ∃ t, PSs (cxOf C8.CX0 P w K mg base N x (C8.fnScope st) f cdv A outer s H E).nox (C8.fnBody st) t ∧ t { nx := fun _ H' => Q .non H', rt := Q } (start N vs) H) : C8.Cal P w K mg base (k + 1) x sp [] := by
  obtain ⟨f, fd, D, df⟩ := D
  exact C8.cal0 D (D.fn.binds df hb) .nil S len (hbody f)
theorem pe_c0 {X : Cx} {k j : Nat} {x : Str} {sp : Sp} {dvs : List V} {p pos : Pos} (c : C8.Cal X.prog X.w X.K X.mg X.base k x sp dvs) (hr : Room j X.A) (hk : k ≤ j) (hg : Gl X x)
    (hdb : (x == ("__debug__" : Str)) = false := by decide) : PE X (.Call (.Name x p) [] [] pos) (tCall sp dvs C8.E0 tNil) := by
  obtain ⟨f, fd, ps, ds, F, hm, kp, b, d⟩ := c.ex
  exact pe_call0 F (hr.mono hk) hg hm kp b d C8.pass0 hdb
/-- a def's address as a value, with its promise -/
theorem held_of {k : Nat} {x : Str} {sp : Sp} {f : Addr} (c : C8.Cal P w K mg base k x sp []) (h : mg x = some (.ref f)) : Held P w K mg base k f sp := by
  obtain ⟨f', fd, ps, ds, F, hm, kp, b, d⟩ := c.ex
  rw [h] at hm
  cases hm
  cases d
  exact ⟨fd, ps, F, kp, b⟩
end

/-! ### heaps -/
/-- all that was tracked is as it was, but what stands at a -/
def Fr (a : Addr) (H H' : Hp) : Prop := ∀ b o, b ≠ a → H b = some o → H' b = some o
theorem Fr.refl (a : Addr) (H : Hp) : Fr a H H := fun _ _ _ h => h
theorem Fr.trans {a : Addr} {H H1 H2 : Hp} (x : Fr a H H1) (y : Fr a H1 H2) : Fr a H H2 := fun b o n h => y b o n (x b o n h)
theorem Fr.at {a : Addr} {H : Hp} {o : HO} : Fr a H (upd H a o) := fun b u n h => by
  rw [upd_ne n]
  exact h
theorem Fr.new {a p : Addr} {H : Hp} {o : HO} (h : H p = none) : Fr a H (upd H p o) := fun b u _ e => by
  rw [upd_ne (ne_of_none e h)]
  exact e
/-- what came later may change -/
theorem Fr.mut {a p : Addr} {H H' : Hp} {o : HO} (x : Fr a H H') (h : H p = none) : Fr a H (upd H' p o) := fun b u n e => by
  rw [upd_ne (ne_of_none e h)]
  exact x b u n e
theorem Fr.same {a : Addr} {H H' : Hp} (h : Same H H') : Fr a H H' := fun b o _ e => h b o e
theorem Fr.free {a p : Addr} {H H' : Hp} (x : Fr a H H') (n : p ≠ a) (h : H' p = none) : H p = none := by
  cases q : H p with
  | none => rfl
  | some o =>
    rw [x p o n q] at h
    cases h
theorem same_new {H : Hp} {p : Addr} {o : HO} (h : H p = none) : Same H (upd H p o) := fun b u e => by
  rw [upd_ne (ne_of_none e h)]
  exact e
theorem same_mut {H H' : Hp} {p : Addr} {o : HO} (x : Same H H') (h : H p = none) : Same H (upd H' p o) := fun b u e => by
  rw [upd_ne (ne_of_none e h)]
  exact x b u e
theorem small_line {n : Nat} (h : n ≤ 1000000) : n ≤ sizeLine := Nat.le_trans h (by decide)
theorem small_lt {n : Nat} (h : n ≤ 1000000) : n < sizeLine := Nat.lt_of_le_of_lt h (by decide)

/-! ### comprehensions -/
theorem set_set {σ : L2.St} {i : Nat} {x y : Option V} : (σ.set i x).set i y = σ.set i y := by
  rw [List.set_set]
/-- what an iterator yields while the list at D grows: the items of a list -/
structure Yields (J : It) (items : List V) (G : Hp → Prop) : Prop where
  go : ∀ k H, G H → k < items.length → J.go k H
  stop : ∀ H, G H → J.stop items.length H
  yld : ∀ k H x H', k < items.length → G H → J.yld k H x H' → H' = H ∧ items[k]? = some x
theorem yields_str (x : Str) : Yields (Its x) (x.cps.toList.map fun c => V.str ⟨#[c]⟩) (fun _ => True) where
  go := fun k H _ h => by
    rw [List.length_map] at h
    exact (by simpa using h : k < x.cps.size)
  stop := fun H _ => by
    show x.cps.size ≤ _
    simp
  yld := fun k H v H' _ _ h => by
    obtain ⟨e, c, hc, hv⟩ := h
    refine ⟨e, ?_⟩
    rw [List.getElem?_map, Array.getElem?_toList, hc, hv]
    rfl
theorem yields_list {K : PySem.W.Frag} {a : Addr} {xs : List V} : Yields (Itl K a) xs (fun H => SqL K H a xs) where
  go := fun k H g h => ⟨xs, xs[k], g, List.getElem?_eq_getElem h⟩
  stop := fun H g => ⟨xs, g, Nat.le_refl _⟩
  yld := fun k H x H' _ g h => ⟨h.1, h.2 xs g⟩
theorem yields_range {lo : Int} {n : Nat} : Yields (Itr lo n) ((List.range n).map fun (i : Nat) => V.int (lo + (i : Int))) (fun _ => True) where
  go := fun k H _ h => by
    rw [List.length_map, List.length_range] at h
    exact h
  stop := fun H _ => by
    show n ≤ _
    rw [List.length_map, List.length_range]
    exact Nat.le_refl _
  yld := fun k H x H' hk _ h => by
    obtain ⟨e, hx⟩ := h
    rw [List.length_map, List.length_range] at hk
    refine ⟨e, ?_⟩
    rw [List.getElem?_map, List.getElem?_range hk, hx]
    rfl
/-- behind k turns of a comprehension: the list at D holds acc, of which I speaks -/
def LcN (I : Nat → List V → Hp → Prop) (D : Addr) (k : Nat) (H : Hp) : Prop := ∃ acc, H D = some (.lst acc) ∧ acc.length ≤ k ∧ I k acc H
theorem lc_take {I : Nat → List V → Hp → Prop} {D : Addr} {k : Nat} {H4 : Hp} {y : V} {acc : List V} (h : H4 D = some (.lst acc)) (l : acc.length ≤ k) (hk : k < 1000000) (q : I (k + 1) (acc ++ [y]) (upd H4 D (.lst (acc ++ [y])))) :
    ∃ acc, H4 D = some (.lst acc) ∧ acc.length < sizeLine ∧ LcN I D (k + 1) (upd H4 D (.lst (acc ++ [y]))) :=
  ⟨acc, h, small_lt (by omega), acc ++ [y], upd_same, by rw [List.length_append, List.length_singleton]; omega, q⟩
theorem lc_skip {I : Nat → List V → Hp → Prop} {D : Addr} {k : Nat} {H4 : Hp} {acc : List V} (h : H4 D = some (.lst acc)) (l : acc.length ≤ k) (q : I (k + 1) acc H4) : LcN I D (k + 1) H4 := ⟨acc, h, by omega, q⟩
/-- a comprehension by an invariant I over (turns, what the new list holds, the heap) -/
theorem lc_inv {J : It} {items : List V} {G : Hp → Prop} {H1 : Hp} {D : Addr} {σ : L2.St} {i : Nat} {tt : TT} {te : TE} {Q : Hp → Prop} (Y : Yields J items G) (I : Nat → List V → Hp → Prop)
    (hG : ∀ k acc H, I k acc H → H D = some (.lst acc) → G H) (h0 : I 0 [] (upd H1 D (.lst [])))
    (hs : ∀ k acc H x, I k acc H → H D = some (.lst acc) → items[k]? = some x → acc.length ≤ k → k < 1000000 → tt (σ.set i (some x)) H fun b H3 =>
      if b = true then te (σ.set i (some x)) H3 fun y H4 => ∃ acc, H4 D = some (.lst acc) ∧ acc.length < sizeLine ∧ LcN I D (k + 1) (upd H4 D (.lst (acc ++ [y]))) else LcN I D (k + 1) H3)
    (hl : items.length ≤ 1000000) (hd : ∀ acc H, I items.length acc H → H D = some (.lst acc) → acc.length ≤ items.length → Q H) :
    ∃ W : Nat → Nat → Hp → Prop, (∃ m, W 0 m (upd H1 D (.lst []))) ∧ ∀ k m H, W k m H →
      (J.stop k H ∧ Q H) ∨ (J.go k H ∧ ∃ Nx : Hp → Prop, (∀ H', Nx H' → ∃ m', m' < m ∧ W (k + 1) m' H') ∧ ∀ x H', J.yld k H x H' → gName i x (wipe σ [i]) H' fun σ2 H2 => wipe σ2 [i] = wipe σ [i] ∧ tt σ2 H2 fun b H3 =>
        if b = true then te σ2 H3 fun y H4 => ∃ acc, H4 D = some (.lst acc) ∧ acc.length < sizeLine ∧ Nx (upd H4 D (.lst (acc ++ [y]))) else Nx H3) := by
  refine ⟨fun k m H => m = items.length - k ∧ k ≤ items.length ∧ LcN I D k H, ⟨items.length, by omega, Nat.zero_le _, [], upd_same, Nat.zero_le _, h0⟩, ?_⟩
  rintro k m H ⟨rfl, hk, acc, hD, hacc, hI⟩
  by_cases hlt : k < items.length
  · refine .inr ⟨Y.go k H (hG _ _ _ hI hD) hlt, LcN I D (k + 1), fun H' q => ⟨items.length - (k + 1), by omega, rfl, hlt, q⟩, fun x H' y => ?_⟩
    obtain ⟨rfl, hx⟩ := Y.yld k H x H' hlt (hG _ _ _ hI hD) y
    show wipe ((wipe σ [i]).set i (some x)) [i] = wipe σ [i] ∧ tt ((wipe σ [i]).set i (some x)) _ _
    have e1 : (wipe σ [i]).set i (some x) = σ.set i (some x) := set_set
    have e2 : wipe (σ.set i (some x)) [i] = wipe σ [i] := set_set
    rw [e1]
    exact ⟨e2, hs k acc _ x hI hD hx hacc (by omega)⟩
  · have e : k = items.length := by omega
    subst e
    exact .inl ⟨Y.stop H (hG _ _ _ hI hD), hd acc H hI hD hacc⟩
/-- a comprehension whose element and test change nothing that is tracked -/
theorem lc_pure {α : Type} {J : It} {us : List α} {g : α → V} {G : Hp → Prop} {H1 : Hp} {D : Addr} {σ : L2.St} {i : Nat} {tt : TT} {te : TE} {Q : Hp → Prop} (Y : Yields J (us.map g) G) (f : α → V) (p : α → Bool) (hD1 : H1 D = none)
    (hG : ∀ H, Same H1 H → G H)
    (hs : ∀ H u, Same H1 H → u ∈ us → ∀ (R : Bool → Hp → Prop), (∀ H3, Same H H3 → R (p u) H3) → tt (σ.set i (some (g u))) H R)
    (he : ∀ H u, Same H1 H → u ∈ us → p u = true → ∀ (R : VK), (∀ H3, Same H H3 → R (f u) H3) → te (σ.set i (some (g u))) H R)
    (hl : us.length ≤ 1000000) (hd : ∀ H, Same H1 H → H D = some (.lst ((us.filter p).map f)) → Q H) :
    ∃ W : Nat → Nat → Hp → Prop, (∃ m, W 0 m (upd H1 D (.lst []))) ∧ ∀ k m H, W k m H →
      (J.stop k H ∧ Q H) ∨ (J.go k H ∧ ∃ Nx : Hp → Prop, (∀ H', Nx H' → ∃ m', m' < m ∧ W (k + 1) m' H') ∧ ∀ x H', J.yld k H x H' → gName i x (wipe σ [i]) H' fun σ2 H2 => wipe σ2 [i] = wipe σ [i] ∧ tt σ2 H2 fun b H3 =>
        if b = true then te σ2 H3 fun y H4 => ∃ acc, H4 D = some (.lst acc) ∧ acc.length < sizeLine ∧ Nx (upd H4 D (.lst (acc ++ [y]))) else Nx H3) := by
  refine lc_inv Y (fun k acc H => Same H1 H ∧ acc = ((us.take k).filter p).map f) (fun k acc H h _ => hG H h.1) ⟨same_new hD1, rfl⟩ (fun k acc H x hI hD hx hacc hk => ?_) (by rw [List.length_map]; exact hl) (fun acc H hI hD _ => ?_)
  · obtain ⟨sm, ea⟩ := hI
    rw [List.getElem?_map] at hx
    cases hu : us[k]? with
    | none => rw [hu] at hx; cases hx
    | some u =>
      rw [hu] at hx
      cases hx
      have hm : u ∈ us := List.mem_of_getElem? hu
      have et : us.take (k + 1) = us.take k ++ [u] := by
        rw [List.take_add_one, hu]
        rfl
      refine hs H u sm hm _ (fun H3 s3 => ?_)
      by_cases hp : p u = true
      · rw [if_pos hp]
        refine he H3 u (sm.trans s3) hm hp _ (fun H4 s4 => ?_)
        refine lc_take (s4 _ _ (s3 _ _ hD)) hacc hk ⟨same_mut ((sm.trans s3).trans s4) hD1, ?_⟩
        rw [et, List.filter_append, List.map_append, ← ea, List.filter_cons, hp]
        rfl
      · rw [if_neg hp]
        refine lc_skip (s3 _ _ hD) hacc ⟨sm.trans s3, ?_⟩
        rw [et, List.filter_append, List.map_append, ← ea, List.filter_cons, if_neg hp]
        simp
  · obtain ⟨sm, ea⟩ := hI
    rw [List.length_map, List.take_length] at ea
    rw [ea] at hD
    exact hd H sm hD

/-! ### what may be asked -/
def evalV (f : Str → Bool) : V → Bool
  | .str x => f x
  | _ => false
/-- its signs are signs -/
def OkS (x : Str) : Prop := ∀ u ∈ TL.tl x, u < 1114112
/-- a text, not too long, or a thing that is no text -/
inductive Thing (H : Hp) : V → Prop where
  | str (x : Str) (h : x.length ≤ 100000) (o : OkS x) : Thing H (.str x)
  | non : Thing H .non
  | bl (b : Bool) : Thing H (.bl b)
  | int (i : Int) : Thing H (.int i)
  | lst (a : Addr) (xs : List V) (h : H a = some (.lst xs)) : Thing H (.ref a)
  | tup (a : Addr) (xs : List V) (h : H a = some (.tup xs)) : Thing H (.ref a)
  | dK (a : Addr) (kvs : List (Key × V)) (h : H a = some (.dK kvs)) : Thing H (.ref a)
theorem Thing.fr {a : Addr} {H H' : Hp} {v : V} (t : Thing H v) (n : v ≠ .ref a) (f : Fr a H H') : Thing H' v := by
  cases t with
  | str x h o => exact .str x h o
  | non => exact .non
  | bl b => exact .bl b
  | int i => exact .int i
  | lst b xs h => exact .lst b xs (f b _ (fun e => n (by rw [e])) h)
  | tup b xs h => exact .tup b xs (f b _ (fun e => n (by rw [e])) h)
  | dK b xs h => exact .dK b xs (f b _ (fun e => n (by rw [e])) h)
theorem Thing.same {H H' : Hp} {v : V} (t : Thing H v) (f : Same H H') : Thing H' v := by
  cases t with
  | str x h o => exact .str x h o
  | non => exact .non
  | bl b => exact .bl b
  | int i => exact .int i
  | lst b xs h => exact .lst b xs (f b _ h)
  | tup b xs h => exact .tup b xs (f b _ h)
  | dK b xs h => exact .dK b xs (f b _ h)
/-- isinstance(thing, str) -/
theorem Thing.isi {K : PySem.W.Frag} {H : Hp} {v : V} {Q : VK} (t : Thing H v) (h : Q (.bl (evalV (fun _ => true) v)) H) : rIsi K [v, .ty "str"] H Q := by
  cases t with
  | str x _ _ => exact ⟨_, _, .type "str", .type "str", true, rfl, .ty "str", .base (.str x), kit_ty (by decide +kernel), h⟩
  | non => exact ⟨_, _, .type "NoneType", .type "str", false, rfl, .ty "str", .base .non, kit_ty (by decide +kernel), h⟩
  | bl b => exact ⟨_, _, .type "bool", .type "str", false, rfl, .ty "str", .base (.bl b), kit_ty (by decide +kernel), h⟩
  | int i => exact ⟨_, _, .type "int", .type "str", false, rfl, .ty "str", .base (.int i), kit_ty (by decide +kernel), h⟩
  | lst a xs e => exact ⟨_, _, .type "list", .type "str", false, rfl, .ty "str", .base (.lst e), kit_ty (by decide +kernel), h⟩
  | tup a xs e => exact ⟨_, _, .type "tuple", .type "str", false, rfl, .ty "str", .base (.tup e), kit_ty (by decide +kernel), h⟩
  | dK a xs e => exact ⟨_, _, .type "dict", .type "str", false, rfl, .ty "str", .base (.dK e), kit_ty (by decide +kernel), h⟩
theorem Thing.cases {H : Hp} {v : V} (t : Thing H v) : (∃ x, v = .str x ∧ x.length ≤ 100000 ∧ OkS x) ∨ ∀ f, evalV f v = false := by
  cases t with
  | str x h o => exact .inl ⟨x, rfl, h, o⟩
  | _ => exact .inr fun _ => rfl
/-- the promise of a def that tells whether its argument is such a text -/
def spWord (f : Str → Bool) : Sp := fun vs H Q _ => ∃ v, vs = [v] ∧ Thing H v ∧ ∀ H', Same H H' → Q (.bl (evalV f v)) H'

/-! ### the words, as functions of a text -/
def HEX : Str := "0123456789abcdef"
def LET : Str := "abcdefghijklmnopqrstuvwxyz"
def RSG : Str := "abcdefghijklmnopqrstuvwxyz0123456789-"
def SSG : Str := "abcdefghijklmnopqrstuvwxyz0123456789._-"
def sgn (c : Nat) : V := .str ⟨#[c]⟩
def hasOnly (x y : Str) : Bool := (TL.tl x).all fun c => decide (c ∈ TL.tl y)
def dots (x : Str) : Bool := !(Builtin.Str.occurrences x (".." : Str) 0 x.length 1).isEmpty
def isWordF (y x : Str) : Bool := decide (1 ≤ x.length) && (decide (x.length ≤ 12) && hasOnly x y)
def isSegF (x : Str) : Bool := isWordF SSG x && (!decide (x = ".") && !dots x)
def segs (x : Str) : List Str := Txt.split x "/"
def isIdF (x : Str) : Bool := decide (x.length = 16) && hasOnly x HEX
def isPathF (x : Str) : Bool := decide ((segs x).length ≤ 6) && (segs x).all isSegF
def mostF (x : Str) : Nat := if (segs x)[0]? = some ("far" : Str) then 7 else 5
def isRefF (x : Str) : Bool := decide ((segs x).length ≤ mostF x) && (segs x).all (isWordF RSG)
def plainC (c : Nat) : Bool := !decide ([c] < [32]) && !decide ([126] < [c])
def isTextF (x : Str) : Bool := decide (x.length ≤ 2000) && (TL.tl x).all fun c => decide (c = 10) || plainC c
end Fk
namespace Fk
open PySem PySem.Spec PyProof.Rows L2
theorem sql_fr {K : PySem.W.Frag} {a b : Addr} {H H' : Hp} {xs : List V} (h : SqL K H b xs) (n : b ≠ a) (f : Fr a H H') : SqL K H' b xs := by
  rcases h with (h | ⟨o, h⟩) | h
  · exact .inl (.inl (f _ _ n h))
  · exact .inl (.inr ⟨o, f _ _ n h⟩)
  · exact .inr h
/-- a well of numbers at a, from which c were drawn -/
def Wl (H : Hp) (a : Addr) (c : Int) : Prop := 0 ≤ c ∧ ∃ x y : Int, H a = some (.lst [.int x, .int y, .int c])
theorem Wl.same {H H' : Hp} {a : Addr} {c : Int} (h : Wl H a c) (f : Same H H') : Wl H' a c := by
  obtain ⟨h0, x, y, e⟩ := h
  exact ⟨h0, x, y, f _ _ e⟩
/-- behind at most d draws from the well at a -/
def Aft (a : Addr) (c d : Int) (H : Hp) (R : Hp → Prop) : Prop := ∀ H' c', Fr a H H' → Wl H' a c' → c ≤ c' → c' ≤ c + d → R H'
theorem join_signs : ∀ cs : List Nat, TL.tl (Txt.join ("" : Str) (cs.map fun c => (⟨#[c]⟩ : Str))) = cs := by
  intro cs
  rw [TL.join_eq, TL.tl_join]
  have e : TL.tl ("" : Str) = [] := by decide +kernel
  rw [e]
  induction cs with
  | nil => rfl
  | cons c r ih =>
    cases r with
    | nil => rfl
    | cons d r =>
      show [c] ++ [] ++ TL.joinL [] (((d :: r).map fun c => (⟨#[c]⟩ : Str)).map TL.tl) = _
      rw [ih]
      rfl
theorem signs_sum : ∀ cs : List Nat, ((cs.map fun c => (⟨#[c]⟩ : Str)).map (·.length)).sum = cs.length
  | [] => rfl
  | c :: r => by
    rw [List.map_cons, List.map_cons, List.sum_cons, signs_sum r, List.length_cons]
    show 1 + _ = _
    omega
theorem atI_int {α : Type} {xs : List α} {r : Int} (h0 : 0 ≤ r) (h1 : r < xs.length) : ∃ v, v ∈ xs ∧ xs[r.toNat]? = some v ∧ atI xs r = some v := by
  have h2 : r.toNat < xs.length := by omega
  have e : r = ((r.toNat : Nat) : Int) := by omega
  refine ⟨xs[r.toNat], List.getElem_mem h2, List.getElem?_eq_getElem h2, ?_⟩
  have q := atI_nat (List.getElem?_eq_getElem h2)
  rw [← e] at q
  exact q
theorem Wl.upd {H : Hp} {a : Addr} {x y c : Int} (h : 0 ≤ c) : Wl (upd H a (.lst [.int x, .int y, .int c])) a c := ⟨h, x, y, upd_same⟩
theorem Fr.fr_new {a p : Addr} {H H' : Hp} {o : HO} (x : Fr a H H') (h : H' p = none) : Fr a H (L2.upd H' p o) := x.trans (Fr.new h)
theorem Wl.new {H : Hp} {a p : Addr} {c : Int} {o : HO} (h : Wl H a c) (n : H p = none) : Wl (L2.upd H p o) a c := h.same (same_new n)
theorem Wl.mut {H : Hp} {a p : Addr} {c : Int} {o : HO} (h : Wl H a c) (n : p ≠ a) : Wl (L2.upd H p o) a c := by
  obtain ⟨h0, x, y, e⟩ := h
  exact ⟨h0, x, y, by rw [upd_ne n.symm]; exact e⟩
theorem Wl.ne {H : Hp} {a p : Addr} {c : Int} (h : Wl H a c) (n : H p = none) : p ≠ a := by
  obtain ⟨h0, x, y, e⟩ := h
  exact (ne_of_none e n).symm
theorem Aft.start {a : Addr} {c d : Int} {H : Hp} {R : Hp → Prop} (h : Aft a c d H R) (w : Wl H a c) (hd : 0 ≤ d) : R H := h H c (Fr.refl a H) w (Int.le_refl _) (by omega)
theorem Aft.more {a : Addr} {c c1 d d1 : Int} {H H1 : Hp} {R : Hp → Prop} (h : Aft a c d H R) (f : Fr a H H1) (h1 : c ≤ c1) (h2 : c1 + d1 ≤ c + d) : Aft a c1 d1 H1 R := fun H' c' f' w h3 h4 => h H' c' (f.trans f') w (by omega) (by omega)
theorem yes_ {σ : L2.St} {H : Hp} {A B : Hp → Prop} (h : A H) : tYes σ H (fun b H3 => if b = true then A H3 else B H3) := by
  show (if true = true then A H else B H)
  rw [if_pos rfl]
  exact h
end Fk

set_option maxHeartbeats 4000000
namespace Fk
open PySem PySem.Spec PyProof.Rows L2
/-! ### texts that are drawn: what holds of them -/
theorem tl_cut (z : Str) (lo hi : Option Int) : TL.tl (cutS z lo hi) = ((TL.tl z).drop (HT.sIx z.length 0 lo)).take (HT.sIx z.length z.length hi - HT.sIx z.length 0 lo) := rfl
theorem cut_to (z : Str) (n : Nat) : TL.tl (cutS z none (some (n : Int))) = (TL.tl z).take n := by
  rw [tl_cut, HT.sIx_none, HT.sIx_nat, List.drop_zero, Nat.sub_zero, TL.len_tl]
  rcases Nat.le_total n (TL.tl z).length with h | h
  · rw [Nat.min_eq_left h]
  · rw [Nat.min_eq_right h, List.take_length, List.take_of_length_le h]
theorem cut_from (z : Str) (n : Nat) : TL.tl (cutS z (some (n : Int)) none) = (TL.tl z).drop n := by
  rw [tl_cut, HT.sIx_none, HT.sIx_nat, TL.len_tl]
  rcases Nat.le_total n (TL.tl z).length with h | h
  · rw [Nat.min_eq_left h, List.take_of_length_le (by rw [List.length_drop]; omega)]
  · rw [Nat.min_eq_right h, List.drop_length, List.take_nil, List.drop_of_length_le h]
theorem cutS_le (z : Str) (lo hi : Option Int) : (cutS z lo hi).length ≤ z.length := cutS_length z lo hi
def LTS : Str := "abcdefghijklmnopqrstuvwxyz0123456789_-"
theorem dots_count {x : Str} (h : dots x = true) : 2 ≤ (TL.tl x).count 46 := by
  obtain ⟨i, _, h2⟩ := (StrLaws.found_iff x (".." : Str)).mp h
  rw [StrLaws.subAt_eq] at h2
  have e : ((TL.tl x).drop i).take 2 = [46, 46] := by
    have e1 := eq_of_beq h2
    have e2 : (".." : Str).length = 2 := by decide +kernel
    have e3 : (".." : Str).cps.toList = [46, 46] := by decide +kernel
    rw [e2, e3] at e1
    exact e1
  have s : List.Sublist [46, 46] (TL.tl x) := by
    rw [← e]
    exact (List.take_sublist _ _).trans (List.drop_sublist _ _)
  exact s.count_le 46
theorem has_only {x y : Str} (h : ∀ u ∈ TL.tl x, u ∈ TL.tl y) : hasOnly x y = true := by
  unfold hasOnly
  rw [List.all_eq_true]
  exact fun u hu => decide_eq_true (h u hu)
theorem dot_tl : TL.tl ("." : Str) = [46] := by decide +kernel
theorem seg_of {x : Str} (h : ∀ u ∈ TL.tl x, u ∈ TL.tl SSG) (h1 : 1 ≤ x.length) (h2 : x.length ≤ 12) (h3 : (TL.tl x).count 46 ≤ 1) (h4 : (TL.tl x).count 46 = 0 ∨ 2 ≤ x.length) : isSegF x = true := by
  unfold isSegF isWordF
  have d : dots x = false := Bool.eq_false_iff.mpr fun z => by
    have := dots_count z
    omega
  have n : ¬ x = "." := fun e => by
    have e1 : TL.tl x = [46] := by rw [e]; exact dot_tl
    rw [TL.len_tl, e1] at h4
    rcases h4 with h4 | h4
    · exact absurd h4 (by decide)
    · exact absurd h4 (by decide)
  rw [decide_eq_true h1, decide_eq_true h2, has_only h, decide_eq_false n, d]
  rfl
theorem lts_ssg : ∀ u ∈ TL.tl LTS, u ∈ TL.tl SSG := by decide +kernel
theorem lts_dot : 46 ∉ TL.tl LTS := by decide +kernel
theorem seg_plain {x : Str} (h : ∀ u ∈ TL.tl x, u ∈ TL.tl LTS) (h1 : 1 ≤ x.length) (h2 : x.length ≤ 12) : isSegF x = true := by
  have c0 : (TL.tl x).count 46 = 0 := List.count_eq_zero.mpr fun z => lts_dot (h _ z)
  exact seg_of (fun u hu => lts_ssg u (h u hu)) h1 h2 (by omega) (.inl c0)
theorem seg_dotted {x : Str} (n : Nat) (h : ∀ u ∈ TL.tl x, u ∈ TL.tl LTS) (h1 : 1 ≤ x.length) (h2 : x.length < 12) :
    isSegF ((cutS x none (some (n : Int)) ++ ("." : Str)) ++ cutS x (some (n : Int)) none) = true ∧ ((cutS x none (some (n : Int)) ++ ("." : Str)) ++ cutS x (some (n : Int)) none).length ≤ 12 := by
  have e : TL.tl ((cutS x none (some (n : Int)) ++ ("." : Str)) ++ cutS x (some (n : Int)) none) = ((TL.tl x).take n ++ [46]) ++ (TL.tl x).drop n := by
    rw [TL.tl_append, TL.tl_append, cut_to, cut_from, dot_tl]
  have c0 : (TL.tl x).count 46 = 0 := List.count_eq_zero.mpr fun z => lts_dot (h _ z)
  have len : (((TL.tl x).take n ++ [46]) ++ (TL.tl x).drop n).length = x.length + 1 := by
    have := congrArg List.length (List.take_append_drop n (TL.tl x))
    rw [List.length_append] at this
    rw [List.length_append, List.length_append, List.length_singleton, TL.len_tl]
    omega
  have cnt : (((TL.tl x).take n ++ [46]) ++ (TL.tl x).drop n).count 46 = 1 := by
    have := congrArg (List.count 46) (List.take_append_drop n (TL.tl x))
    rw [List.count_append, c0] at this
    rw [List.count_append, List.count_append]
    have : [46].count 46 = 1 := rfl
    omega
  refine ⟨seg_of (fun u hu => ?_) (by rw [TL.len_tl, e, len]; omega) (by rw [TL.len_tl, e, len]; omega) (by rw [e, cnt]; exact Nat.le_refl _) (.inr (by rw [TL.len_tl, e, len]; omega)), by rw [TL.len_tl, e, len]; omega⟩
  rw [e] at hu
  rcases List.mem_append.mp hu with hu | hu
  · rcases List.mem_append.mp hu with hu | hu
    · exact lts_ssg u (h u (List.mem_of_mem_take hu))
    · rw [List.mem_singleton.mp hu]
      decide +kernel
  · exact lts_ssg u (h u (List.mem_of_mem_drop hu))
theorem slash_tl : TL.tl ("/" : Str) = [47] := by decide +kernel
theorem seg_slash {x : Str} (h : isSegF x = true) : 47 ∉ TL.tl x := by
  unfold isSegF isWordF hasOnly at h
  simp only [Bool.and_eq_true] at h
  have h1 := h.1.2.2
  rw [List.all_eq_true] at h1
  intro z
  have h2 := of_decide_eq_true (h1 47 z)
  exact absurd h2 (by decide +kernel)
theorem seg_len {x : Str} (h : isSegF x = true) : x.length ≤ 12 := by
  unfold isSegF isWordF at h
  simp only [Bool.and_eq_true] at h
  exact of_decide_eq_true h.1.2.1
theorem path_of {ps : List Str} (h0 : ps ≠ []) (h1 : ps.length ≤ 6) (h : ∀ p ∈ ps, isSegF p = true) : isPathF (Txt.join "/" ps) = true := by
  unfold isPathF segs
  rw [TL.split_join (S := []) slash_tl (by decide +kernel) h0 fun p hp => seg_slash (h p hp), decide_eq_true h1, List.all_eq_true.mpr h]
  rfl
theorem join_len (y : Str) : ∀ ps : List Str, (∀ p ∈ ps, p.length ≤ 12) → (Txt.join y ps).length ≤ ps.length * (12 + y.length) := by
  intro ps h
  rw [TL.join_eq]
  refine Nat.le_trans (StrLaws.join_length_le y ps) ?_
  rw [Nat.mul_add]
  refine Nat.add_le_add_right ?_ _
  induction ps with
  | nil => exact Nat.le_refl _
  | cons p r ih =>
    rw [List.map_cons, List.sum_cons, List.length_cons, Nat.succ_mul]
    have := ih fun q hq => h q (List.mem_cons_of_mem _ hq)
    have := h p List.mem_cons_self
    omega
theorem sum_len : ∀ ps : List Str, (∀ p ∈ ps, p.length ≤ 12) → (ps.map (·.length)).sum ≤ ps.length * 12 := by
  intro ps h
  induction ps with
  | nil => exact Nat.le_refl _
  | cons p r ih =>
    rw [List.map_cons, List.sum_cons, List.length_cons, Nat.succ_mul]
    have := ih fun q hq => h q (List.mem_cons_of_mem _ hq)
    have := h p List.mem_cons_self
    omega
def ALL : Str := (" !\"#$&'()*+,-./0123456789:;<=>?@ABCDEFGHIJKLMNOPQRSTUVWXYZ[]^_`abcdefghijklmnopqrstuvwxyz{|}~" : Str) ++ ("\\" : Str) ++ ("\n" : Str)
theorem all_plain : ∀ u ∈ TL.tl ALL, (decide (u = 10) || plainC u) = true := by decide +kernel
theorem text_of {x : Str} (h : ∀ u ∈ TL.tl x, u ∈ TL.tl ALL) (h1 : x.length ≤ 2000) : isTextF x = true := by
  unfold isTextF
  rw [decide_eq_true h1, List.all_eq_true.mpr fun u hu => all_plain u (h u hu)]
  rfl
theorem id_of {x : Str} (h : ∀ u ∈ TL.tl x, u ∈ TL.tl HEX) (h1 : x.length = 16) : isIdF x = true := by
  unfold isIdF
  rw [decide_eq_true h1, has_only h]
  rfl
theorem filt_all {α : Type} (l : List α) : l.filter (fun _ => true) = l := List.filter_eq_self.mpr fun _ _ => rfl
theorem of_ev {f : Str → Bool} {x : Str} {b : Bool} {Q : VK} {H : Hp} (q : Q (.bl (evalV f (.str x))) H) (e : f x = b) : Q (.bl b) H := by
  rw [← e]
  exact q
theorem of_ev0 {f : Str → Bool} {v : V} {Q : VK} {H : Hp} (hn : ∀ f, evalV f v = false) (q : Q (.bl (evalV f v)) H) : Q (.bl false) H := by
  rw [← hn f]
  exact q
theorem segs_ne (x : Str) : segs x ≠ [] := by
  intro h
  have e := TL.split_spl x "/" (by decide +kernel) (TL.kind_ok (by decide +kernel))
  have h' : Txt.split x "/" = [] := h
  rw [h'] at e
  have e2 : ∀ l k acc, TL.spl (TL.tl "/") k acc l ≠ [] := by
    intro l
    induction l with
    | nil => intro k acc h; rw [TL.spl_nil] at h; cases h
    | cons c r ih =>
      intro k acc h
      cases k with
      | zero =>
        unfold TL.spl at h
        split at h
        · cases h
        · exact ih _ _ h
      | succ k => exact ih _ _ h
  exact e2 _ _ _ e.symm
theorem segs_len (x : Str) (h : x.length ≤ 100000) : (segs x).length ≤ 100001 ∧ ∀ y ∈ segs x, y.length ≤ 100000 := by
  have e := TL.split_spl x "/" (by decide +kernel) (TL.kind_ok (by decide +kernel))
  have e2 : ∀ l k acc, (TL.spl (TL.tl "/") k acc l).length ≤ l.length + 1 ∧ ∀ y ∈ TL.spl (TL.tl "/") k acc l, y.length ≤ acc.length + l.length := by
    intro l
    induction l with
    | nil => intro k acc; rw [TL.spl_nil]; exact ⟨Nat.le_refl _, fun y hy => by rw [List.mem_singleton.mp hy]; simp⟩
    | cons c r ih =>
      intro k acc
      cases k with
      | zero =>
        unfold TL.spl
        split
        · obtain ⟨i1, i2⟩ := ih ((TL.tl "/").length - 1) []
          refine ⟨by simp only [List.length_cons]; omega, fun y hy => ?_⟩
          rcases List.mem_cons.mp hy with rfl | hy
          · simp only [List.length_cons]; omega
          · have := i2 y hy
            simp only [List.length_cons, List.length_nil] at this ⊢
            omega
        · obtain ⟨i1, i2⟩ := ih 0 (acc ++ [c])
          refine ⟨by simp only [List.length_cons]; omega, fun y hy => ?_⟩
          have := i2 y hy
          simp only [List.length_cons, List.length_append, List.length_nil] at this ⊢
          omega
      | succ k =>
        obtain ⟨i1, i2⟩ := ih k acc
        unfold TL.spl
        refine ⟨by simp only [List.length_cons]; omega, fun y hy => ?_⟩
        have := i2 y hy
        simp only [List.length_cons] at this ⊢
        omega
  obtain ⟨i1, i2⟩ := e2 (TL.tl x) 0 []
  rw [← e] at i1 i2
  rw [List.length_map, ← TL.len_tl] at i1
  refine ⟨?_, fun y hy => ?_⟩
  · show (Txt.split x "/").length ≤ _
    omega
  · have := i2 (TL.tl y) (List.mem_map_of_mem hy)
    rw [← TL.len_tl, ← TL.len_tl] at this
    simp at this
    omega
theorem segs_ok (x : Str) (h : OkS x) : ∀ y ∈ segs x, OkS y := by
  have e := TL.split_spl x "/" (by decide +kernel) (TL.kind_ok (by decide +kernel))
  have e2 : ∀ l k acc, (∀ u ∈ l, u < 1114112) → (∀ u ∈ acc, u < 1114112) → ∀ y ∈ TL.spl (TL.tl "/") k acc l, ∀ u ∈ y, u < 1114112 := by
    intro l
    induction l with
    | nil =>
      intro k acc h1 h2 y hy
      rw [TL.spl_nil] at hy
      rw [List.mem_singleton.mp hy]
      exact h2
    | cons c r ih =>
      intro k acc h1 h2 y hy
      have h3 : ∀ u ∈ r, u < 1114112 := fun u hu => h1 u (List.mem_cons_of_mem _ hu)
      cases k with
      | zero =>
        unfold TL.spl at hy
        split at hy
        · rcases List.mem_cons.mp hy with rfl | hy
          · exact h2
          · exact ih _ _ h3 (fun u hu => (List.not_mem_nil hu).elim) y hy
        · refine ih _ _ h3 (fun u hu => ?_) y hy
          rcases List.mem_append.mp hu with hu | hu
          · exact h2 u hu
          · rw [List.mem_singleton.mp hu]
            exact h1 c List.mem_cons_self
      | succ k => exact ih _ _ h3 h2 y hy
  intro y hy
  have i2 := e2 (TL.tl x) 0 [] h (fun u hu => (List.not_mem_nil hu).elim) (TL.tl y)
  rw [← e] at i2
  exact i2 (List.mem_map_of_mem hy)
theorem dp_nil {K : PySem.W.Frag} {H : Hp} {p : Addr} (h : H p = some (.lst [])) : Dp K H (.ref p) (.list []) := .lst (SqL.of h) .nil
theorem dp_strs {K : PySem.W.Frag} {H : Hp} : ∀ ys : List Str, DpAll K H (ys.map V.str) (ys.map PyData.str)
  | [] => .nil
  | y :: r => .cons (.str y) (dp_strs r)
theorem strOk_of {x : Str} (h : OkS x) : PyData.strOk x = true := by
  unfold PyData.strOk
  rw [← Array.all_toList, List.all_eq_true]
  exact fun u hu => decide_eq_true (h u hu)
theorem lay_strs : ∀ ys : List Str, (∀ y ∈ ys, OkS y) → PyData.canLayAll0 (ys.map PyData.str) = true
  | [], _ => rfl
  | y :: r, h => by simp [PyData.canLayAll0, PyData.canLay0, lay_strs r fun z hz => h z (List.mem_cons_of_mem _ hz), strOk_of (h y List.mem_cons_self)]
theorem depth_strs : ∀ ys : List Str, PyData.depthAll (ys.map PyData.str) = 0
  | [] => rfl
  | _ :: r => by simp [PyData.depthAll, PyData.depth, depth_strs r]
theorem shaped_strs (ys : List Str) (h : ∀ y ∈ ys, OkS y) : SeqAt.shaped (.list (ys.map PyData.str)) = true := by
  simp [SeqAt.shaped, PyData.canLay0, PyData.depth, lay_strs ys h, depth_strs]
theorem shaped_nil : SeqAt.shaped (.list []) = true := shaped_strs [] fun _ h => (List.not_mem_nil h).elim
theorem eqv_nil (ys : List Str) : PyData.eqv (.list (ys.map PyData.str)) (.list []) = ys.isEmpty := by
  cases ys with
  | nil => simp [PyData.eqv, PyData.eqvAll]
  | cons y r => simp [PyData.eqv, PyData.eqvAll]
theorem ifF {c A B : Prop} [Decidable c] (h : ¬ c) (b : B) : if c then A else B := by
  rw [if_neg h]
  exact b
theorem ifT {c A B : Prop} [Decidable c] (h : c) (b : A) : if c then A else B := by
  rw [if_pos h]
  exact b
/-- a list of texts is asked for being empty -/
theorem ask_nil {K : PySem.W.Frag} {H' : Hp} {p q : Addr} {ys : List Str} {Q : VK} (ho : ∀ y ∈ ys, OkS y) (h : H' p = some (.lst (ys.map V.str))) (hq : H' q = some (.lst [])) (k : Q (.bl ys.isEmpty) H') : rEqD K (.ref p) (.ref q) H' Q :=
  ⟨_, _, .lst (SqL.of h) (dp_strs ys), dp_nil hq, shaped_strs ys ho, shaped_nil, by rw [eqv_nil]; exact k⟩
theorem filt_empty {α : Type} (l : List α) (p : α → Bool) : (l.filter fun u => !p u).isEmpty = l.all p := by
  induction l with
  | nil => rfl
  | cons a r ih =>
    rw [List.filter_cons, List.all_cons]
    cases h : p a with
    | true => simpa [h] using ih
    | false => simp [h]
theorem map_sgn (cs : List Nat) : cs.map sgn = (cs.map fun c => (⟨#[c]⟩ : Str)).map V.str := by
  rw [List.map_map]
  rfl
theorem ok_sgn {c : Nat} (h : c < 1114112) : OkS ⟨#[c]⟩ := fun u hu => by
  have e : u = c := List.mem_singleton.mp hu
  rw [e]
  exact h
theorem ok_sgns {x : Str} (h : OkS x) (p : Nat → Bool) : ∀ y ∈ ((TL.tl x).filter p).map fun c => (⟨#[c]⟩ : Str), OkS y := fun y hy => by
  obtain ⟨c, hc, rfl⟩ := List.mem_map.mp hy
  exact ok_sgn (h c ((List.mem_filter.mp hc).1))
end Fk
namespace Fk
open PySem PySem.Spec PyProof.Rows L2
theorem ok_app {x y : Str} (hx : OkS x) (hy : OkS y) : OkS (x ++ y) := fun u hu => by
  rw [TL.tl_append] at hu
  rcases List.mem_append.mp hu with hu | hu
  · exact hx u hu
  · exact hy u hu
theorem ok_cut {x : Str} (hx : OkS x) (lo hi : Option Int) : OkS (cutS x lo hi) := fun u hu => by
  rw [tl_cut] at hu
  exact hx u (List.mem_of_mem_drop (List.mem_of_mem_take hu))
theorem ok_rep {x : Str} (hx : OkS x) (n : Nat) : OkS (repS x n) := fun u hu => by
  rw [tl_rep] at hu
  obtain ⟨l, hl, hu⟩ := List.mem_flatten.mp hu
  rw [(List.mem_replicate.mp hl).2] at hu
  exact hx u hu
theorem ok_join {y : Str} (hy : OkS y) {ps : List Str} (h : ∀ p ∈ ps, OkS p) : OkS (Txt.join y ps) := fun u hu => by
  rw [TL.join_eq, TL.tl_join] at hu
  have e : ∀ ls : List (List Nat), (∀ l ∈ ls, ∀ u ∈ l, u < 1114112) → ∀ u ∈ TL.joinL (TL.tl y) ls, u < 1114112 := by
    intro ls
    induction ls with
    | nil => intro _ u hu; exact (List.not_mem_nil hu).elim
    | cons l r ih =>
      intro h u hu
      cases r with
      | nil => exact h l List.mem_cons_self u hu
      | cons m r =>
        have hu : u ∈ l ++ (TL.tl y ++ TL.joinL (TL.tl y) (m :: r)) := hu
        rcases List.mem_append.mp hu with hu | hu
        · exact h l List.mem_cons_self u hu
        · rcases List.mem_append.mp hu with hu | hu
          · exact hy u hu
          · exact ih (fun l hl => h l (List.mem_cons_of_mem _ hl)) u hu
  refine e _ (fun l hl => ?_) u hu
  obtain ⟨p, hp, rfl⟩ := List.mem_map.mp hl
  exact h p hp
theorem ok_by {x : Str} (h : (TL.tl x).all (fun u => decide (u < 1114112)) = true) : OkS x := fun u hu => of_decide_eq_true (List.all_eq_true.mp h u hu)
theorem ok_sub {x y : Str} (h : ∀ u ∈ TL.tl x, u ∈ TL.tl y) (hy : OkS y) : OkS x := fun u hu => hy u (h u hu)
theorem ok_hex : OkS HEX := ok_by (by decide +kernel)
theorem ok_ssg : OkS SSG := ok_by (by decide +kernel)
theorem ok_rsg : OkS RSG := ok_by (by decide +kernel)
theorem ok_let : OkS LET := ok_by (by decide +kernel)
theorem ok_all : OkS ALL := ok_by (by decide +kernel)
theorem ok_slash : OkS "/" := ok_by (by decide +kernel)
theorem only_sub {x y : Str} (h : hasOnly x y = true) : ∀ u ∈ TL.tl x, u ∈ TL.tl y := fun u hu => of_decide_eq_true (List.all_eq_true.mp h u hu)
theorem ok_seg {x : Str} (h : isSegF x = true) : OkS x := by
  unfold isSegF isWordF at h
  simp only [Bool.and_eq_true] at h
  exact ok_sub (only_sub h.1.2.2) ok_ssg
theorem word_of {x y : Str} (h : ∀ u ∈ TL.tl x, u ∈ TL.tl y) (h1 : 1 ≤ x.length) (h2 : x.length ≤ 12) : isWordF y x = true := by
  unfold isWordF
  rw [decide_eq_true h1, decide_eq_true h2, has_only h]
  rfl
theorem Same.of_fr {a : Addr} {H H1 H2 : Hp} (h : H a = none) (s : Same H H1) (f : Fr a H1 H2) : Same H H2 := fun b o e => f b o (ne_of_none e h) (s b o e)
theorem def_ne {K : PySem.W.Frag} {mg : Str → Option Value} {x y : Str} {st st' : Stmt} {f f' : Addr} {fd fd' : FuncData} (D : C8.Def K mg x st f fd) (D' : C8.Def K mg y st' f' fd') (h : x ≠ y) : f ≠ f' := by
  intro e
  subst e
  obtain ⟨oc, od, dV, kV, doc, pm, an, cdv, ct, osl, rfl, lk, _⟩ := D.fn.ex
  obtain ⟨oc', od', dV', kV', doc', pm', an', cdv', ct', osl', rfl, lk', _⟩ := D'.fn.ex
  rw [lk] at lk'
  have e1 := Option.some.inj lk'
  injection e1 with e1 e2 e3 e4
  injection e3 with e3
  exact h (congrArg FuncData.name e3)
end Fk
namespace Fk
open PySem PySem.Spec PyProof.Rows L2
theorem plain_lt {c : Nat} (h : (decide (c = 10) || plainC c) = true) : c < 1114112 := by
  rcases Bool.or_eq_true_iff.mp h with h | h
  · have := of_decide_eq_true h
    omega
  · unfold plainC at h
    have h2 := (Bool.and_eq_true_iff.mp h).2
    have h3 : ¬ ([126] < [c]) := fun z => by
      rw [decide_eq_true z] at h2
      exact absurd h2 (by decide)
    have h4 : ¬ 126 < c := fun z => h3 (List.Lex.rel z)
    omega
theorem ok_text {x : Str} (h : isTextF x = true) : OkS x := fun u hu => plain_lt (List.all_eq_true.mp (Bool.and_eq_true_iff.mp h).2 u hu)
end Fk

set_option maxHeartbeats 4000000
/-! strip(signs), isascii, replace, isprintable: what they say of the words; a def that begins with a token out. -/
namespace Fk
open PySem PySem.Spec PyProof.Rows L2
section
variable {X : Cx} {a b o : Expr} {rest : List Expr} {ta tb t to : TE} {pos : Pos}
theorem pet_one {op} (h : PET X a t) : PET X (.BoolOp op [a] pos) t := fun pins s σ H Q h0 I hw => BoolOp_one (h pins s σ H Q h0 I hw)
theorem pet_and (ha : PE X a ta) (hb : PET X (.BoolOp .And (b :: rest) pos) tb) : PET X (.BoolOp .And (a :: b :: rest) pos) (tAndV ta tb) := by
  intro pins s σ H Q h0 I h
  refine BoolOp_and (wpAny_mono (PySem.wpAny_toks (ha.run pins s σ H _ I h)) (fun v s1 q => ?_) fun _ _ z => z.2)
  obtain ⟨hk, x, H1, I1, r1, q1⟩ := q
  obtain ⟨c, rfl, q1⟩ := q1
  cases r1
  refine wpAny_truthy_bool ?_
  cases c with
  | true => exact hb pins s1 σ H1 Q (by omega) I1 q1
  | false => exact ⟨.bl false, H1, I1, rfl, q1⟩
theorem pet_bm0 {T id name : String} {apos cpos : Pos} {r : V → List V → Hp → VK → Prop} (pa : PlainAttrs T) (slot : Slot T name id) (hty : typeOf (.builtin id) = pure (.type "method_descriptor")) (hm : MtR X id r) (ho : PET X o to)
    (hbase : attributeBase o name X.env (eval o X.env) = eval o X.env := by rfl) (hline : (apos.endLine == cpos.line) = true := by rfl) : PET X (.Call (.Attribute o name apos) [] [] cpos) (tBM0 X.K T r to) := by
  intro pins s σ H Q h0 I h
  refine wpAny_Call_method0_late hbase hline (thn (ho pins s σ H _ h0 I h) fun v s1 ⟨x, H1, I1, r1, ty, q1⟩ => ?_)
  obtain ⟨h1, h2⟩ := tyV_is I1 r1 ty
  exact ⟨T, id, pa, slot, hty, h1, h2, Calls.callWith_builtin rfl (PySem.evalArgs_none (hm pins s1 σ H1 x [] v [] Q I1 r1 .nil q1))⟩
end
section
variable {P : Program} {w : World} {K : PySem.W.Frag} {mg : Str → Option Value} {base : Heap}
/-- a def whose parameters are no cells: a token is out when its body begins -/
theorem cal_ofT {x : Str} {st : Stmt} {N ps : List Str} {k : Nat} {sp : Sp} (D : IsDef K mg x st) (S : FnScope N ps (C8.fnScope st))
    (hnc : ∀ y ∈ (C8.fnScope st).names, y.2 ≠ .cell) (hps : 1 ≤ ps.length)
    (hb : ∀ (kV doc pm : Value) (an : Option Addr) (cdv ct : Value) (us : List Value), us.length = ps.length → bindArgs (PySem.W.fnOf x x (C8.fnArgs st) (C8.fnBody st) (C8.fnScope st) .none kV doc pm an cdv ct) ⟨us, []⟩ = pure (ps.zip us))
    (len : ∀ vs H Q E, sp vs H Q E → vs.length = ps.length)
    (hbody : ∀ (f : Addr) (cdv : Value) (A : Around) (outer : List Env) (s : Shared) (H : Hp) (vs : List V) (Q : VK) (E : XK), Room k (A.deeper (envOfC x (C8.fnScope st) s.heap.objs.size f cdv)) → sp vs H Q E →
      ∃ t, PSsT (cxOf C8.CX0 P w K mg base N x (C8.fnScope st) f cdv A outer s H E) (C8.fnBody st) t ∧ t { nx := fun _ H' => Q .non H', rt := Q } (start N vs) H) : C8.Cal P w K mg base (k + 1) x sp [] := by
  obtain ⟨f, fd, D, df⟩ := D
  obtain ⟨oc, od, dV, kV, doc, pm, an, cdv, ct, osl, rfl, lk, hcd⟩ := D.fn.ex
  have e : dV = .none := df
  subst e
  exact ⟨f, _, ps, [], fn_ofT lk hcd S hnc hps len (hbody f cdv), D.mgf, D.kp, .all (hb kV doc pm an cdv ct), .nil⟩
end

/-! ### what strip leaves -/
theorem tw_all {p : Nat → Bool} {l : List Nat} (h : ∀ c ∈ l, p c = true) : l.takeWhile p = l := by
  induction l with
  | nil => rfl
  | cons c r ih =>
    rw [List.takeWhile_cons, h c List.mem_cons_self, if_pos rfl, ih fun d hd => h d (List.mem_cons_of_mem _ hd)]
theorem tw_short {p : Nat → Bool} {l : List Nat} {c : Nat} (h : p c = false) : ((l ++ [c]).takeWhile p).length ≤ l.length := by
  induction l with
  | nil => simp [List.takeWhile_cons, h]
  | cons d r ih =>
    rw [List.cons_append, List.takeWhile_cons]
    cases hd : p d with
    | true => simpa using ih
    | false => simp
theorem dw_head {p : Nat → Bool} : ∀ {l : List Nat}, (∃ c ∈ l, p c = false) → ∃ c r, l.drop (l.takeWhile p).length = c :: r ∧ p c = false ∧ (l.takeWhile p).length + r.length + 1 = l.length
  | [], h => by
    obtain ⟨c, hc, _⟩ := h
    exact (List.not_mem_nil hc).elim
  | d :: r, h => by
    cases hd : p d with
    | false => exact ⟨d, r, by simp [List.takeWhile_cons, hd], hd, by simp [List.takeWhile_cons, hd]⟩
    | true =>
      have h' : ∃ c ∈ r, p c = false := by
        obtain ⟨c, hc, q⟩ := h
        rcases List.mem_cons.mp hc with rfl | hc
        · rw [hd] at q
          cases q
        · exact ⟨c, hc, q⟩
      obtain ⟨c, r', e1, e2, e3⟩ := dw_head h'
      refine ⟨c, r', ?_, e2, ?_⟩
      · rw [List.takeWhile_cons, hd, if_pos rfl, List.length_cons, List.drop_succ_cons, e1]
      · rw [List.takeWhile_cons, hd, if_pos rfl, List.length_cons, List.length_cons]
        omega
theorem strip_tl (g : Nat → Bool) (x : Str) : TL.tl (Txt.stripBy g true true x) = ((TL.tl x).drop ((TL.tl x).takeWhile g).length).take (x.length - (((TL.tl x).drop ((TL.tl x).takeWhile g).length).reverse.takeWhile g).length - ((TL.tl x).takeWhile g).length) := by
  rw [PySem.W.stripBy_eq]
  exact StrLaws.strSub_toList x _ _
theorem strip_none (x y : Str) : decide (V.str (Txt.stripChars x y) = V.str "") = hasOnly x y := by
  have e0 : TL.tl ("" : Str) = [] := by decide +kernel
  have hg : ∀ c, y.cps.contains c = decide (c ∈ TL.tl y) := fun c => by
    rw [Bool.eq_iff_iff]
    simp [TL.tl]
  have key : (Txt.stripChars x y = ("" : Str)) ↔ hasOnly x y = true := by
    have et := strip_tl (fun c => y.cps.contains c) x
    constructor
    · intro h
      refine Bool.not_eq_false _ ▸ fun hf => ?_
      have hx : ∃ c ∈ TL.tl x, y.cps.contains c = false := by
        refine Classical.byContradiction fun z => ?_
        have : hasOnly x y = true := by
          unfold hasOnly
          refine List.all_eq_true.mpr fun c hc => ?_
          rw [← hg]
          cases q : y.cps.contains c with
          | true => rfl
          | false => exact absurd ⟨c, hc, q⟩ z
        rw [this] at hf
        cases hf
      obtain ⟨c, r, e1, e2, e3⟩ := dw_head (p := fun c => y.cps.contains c) hx
      have h' : Txt.stripBy (fun c => y.cps.contains c) true true x = ("" : Str) := h
      rw [h', e0, e1] at et
      have hs := tw_short (p := fun c => y.cps.contains c) (l := r.reverse) e2
      rw [List.length_reverse, ← List.reverse_cons] at hs
      rw [← TL.len_tl] at e3
      have hp : ∃ m, x.length - (((c :: r).reverse.takeWhile fun c => y.cps.contains c)).length - ((TL.tl x).takeWhile fun c => y.cps.contains c).length = m + 1 := ⟨x.length - (((c :: r).reverse.takeWhile fun c => y.cps.contains c)).length - ((TL.tl x).takeWhile fun c => y.cps.contains c).length - 1, by omega⟩
      obtain ⟨m, hm⟩ := hp
      rw [hm, List.take_succ_cons] at et
      cases et
    · intro h
      have hx : ∀ c ∈ TL.tl x, y.cps.contains c = true := fun c hc => by
        rw [hg]
        unfold hasOnly at h
        exact List.all_eq_true.mp h c hc
      apply TL.ext_tl
      rw [e0]
      refine Eq.trans et ?_
      rw [tw_all hx, List.drop_length, List.take_nil]
  rw [Bool.eq_iff_iff, decide_eq_true_iff, ← key]
  exact ⟨fun h => V.str.inj h, fun h => by rw [h]⟩

/-! ### texts of plain signs -/
theorem plain_of {c : Nat} (h : c < 128) : plainC c = Unicode.isPrintable c := by
  have : ∀ c < 128, plainC c = Unicode.isPrintable c := by decide +kernel
  exact this c h
theorem plain_far {c : Nat} (h : ¬ c < 128) : plainC c = false := by
  have h2 : [126] < [c] := List.Lex.rel (by omega)
  unfold plainC
  rw [decide_eq_true h2]
  simp
theorem repl_one (k : Nat) : ∀ l : List Nat, StrLaws.replL [k] [] l = l.filter fun c => !decide (c = k)
  | [] => by rw [StrLaws.replL_nil]; rfl
  | c :: r => by
    by_cases h : c = k
    · rw [StrLaws.replL_hit (by simp) (by simp [h])]
      rw [List.filter_cons, h]
      simp [repl_one k r]
    · rw [StrLaws.replL_miss (by simp [h]), repl_one k r, List.filter_cons]
      simp [h]
def plainT (x : Str) : Bool := Txt.isascii x && Txt.isprintable (Txt.replace x "\n" "")
theorem plain_text (x : Str) : plainT x = (TL.tl x).all fun c => decide (c = 10) || plainC c := by
  have e10 : ("\n" : Str).cps.toList = [10] := by decide +kernel
  have e00 : ("" : Str).cps.toList = [] := by decide +kernel
  have hr : (Txt.replace x "\n" "").cps.toList = (TL.tl x).filter fun c => !decide (c = 10) := by
    rw [StrLaws.replace_list (by decide +kernel), e10, e00, repl_one]
  unfold plainT Txt.isascii Txt.isprintable
  rw [← Array.all_toList, ← Array.all_toList, hr]
  show ((TL.tl x).all _ && _) = _
  induction TL.tl x with
  | nil => rfl
  | cons c r ih =>
    rw [List.all_cons, List.all_cons, ← ih, List.filter_cons]
    by_cases h1 : c < 128
    · rw [plain_of h1]
      by_cases h2 : c = 10
      · simp [h1, h2]
      · simp [h1, h2]
        cases Unicode.isPrintable c <;> simp
    · rw [plain_far h1]
      have h2 : ¬ c = 10 := by omega
      simp [h1, h2]
end Fk

set_option maxHeartbeats 4000000
/-! An error of an own class as a value: made with keywords or without, its base any whose making is the plain one. -/
namespace Fk
open PySem PySem.Spec L2
open Builtin
section
variable {prog : Program} {w : World} {A : Around} {R : Result → Shared → Prop} {h : Heap} {g : Array GenState} {d : Drawn} {t : Nat} {os : OsState}
variable {nm q : Str} {C N : Addr} {bs bm bmB : List Value} {hdct : Bool} {sn : List Str} {sub : List Value} {ab : Bool} {col : Option Bool} {dd : Option Addr} {k0 k1 k2 k3 k5 : Option Value} {B newId initId : String} {kws : List (Str × Value)}
/-- what the class's own list of bases must say -/
structure BmOk (B : String) (bm : List Value) : Prop where
  b : bm.contains (.type B) = true
  a : bm.contains (.type "AttributeError") = false
  n : bm.contains (.type "NameError") = false
theorem BmOk.b' (o : BmOk B bm) : (Value.ref C :: bm).contains (.type B) = true := by
  have := o.b
  simp only [List.contains_cons, this, Bool.or_true]
theorem BmOk.a' (o : BmOk B bm) : (Value.ref C :: bm).contains (.type "AttributeError") = false := by
  have := o.a
  rw [List.contains_cons, this] <;> rfl
theorem BmOk.n' (o : BmOk B bm) : (Value.ref C :: bm).contains (.type "NameError") = false := by
  have := o.n
  rw [List.contains_cons, this] <;> rfl
theorem xcheck_new (F : ExcBaseFacts B newId initId bmB) (o : BmOk B bm) {rest : List Value} {M : Model} {E : Value → Shared → Prop} {Q : Unit → Shared → Prop} (hC : h.get? C = some (excClassObj nm q C N bs bm hdct sn sub ab col dd k0 k1 k2 k3 k5 newId))
    (hq : Q () ⟨h, g, d, t, os⟩) : wpAny M A (checkBuiltinCall newId ⟨.ref C :: rest, kws⟩) Q E ⟨h, g, d, t, os⟩ := by
  have z1 := o.b' (C := C)
  have z2 := F.noStar
  simp only [checkBuiltinCall, F.newKind, F.newSplit, F.newRow]
  repeat (first
    | refine wpAny_loadPart_at hC ?_
    | (refine wpAny_isSubtype_exc hC ?_; rw [z1])
    | refine wpAny_staticBase_exc hC ?_
    | refine wpAny_madeBy_exc hC ?_
    | simp only [bne_self_eq_false, Bool.false_eq_true, if_false]
    | wp_step)
  exact hq
theorem xnew (F : ExcBaseFacts B newId initId bmB) (o : BmOk B bm) {rest : List Value} (hC : h.get? C = some (excClassObj nm q C N bs bm hdct sn sub ab col dd k0 k1 k2 k3 k5 newId)) (hrest : rest.length ≤ sizeLine)
    (hq : R (.ok (.ret (.ref (h.objs.size + 1)))) ⟨(h.push (W.kdv_tup rest)).push (PySem.HandSPX.excO C h.objs.size), g, d, t, os⟩) :
    codeAny (model prog w) A (.builtin newId ⟨.ref C :: rest, kws⟩) R ⟨h, g, d, t, os⟩ := by
  have z0 := F.ends
  have z1 := o.b' (C := C)
  have z2 := o.a' (C := C)
  have z3 := o.n' (C := C)
  refine codeAny_builtinAt F.entry ?_
  unfold Builtin.«BaseException.__new__»
  refine wpAt_bind ?_
  show wpAt _ _ _ (stack >>= _) _ _ _
  refine wpAt_bind (wpAt_stack fun p below => wpAt_of_wpAny ?_)
  wp_walk
  refine wpAt_of_wpAny ?_
  rw [F.owner]
  repeat (first
    | with_reducible refine wpAny_madeHere_exc F.canon hC ?_
    | with_reducible refine wpAny_loadPart_at hC ?_
    | (with_reducible refine wpAny_isSubtype_exc hC ?_; first | rw [z1] | rw [z2] | rw [z3])
    | wp_step)
  show R _ _
  rw [Heap.size_push]
  exact hq
theorem xtype_call (F : ExcBaseFacts B newId initId bmB) (o : BmOk B bm) {rest : List Value} {fI : Addr} {Q : Fin → Shared → Prop} {E : Value → Shared → Prop} (hC : h.get? C = some (excClassObj nm q C N bs bm hdct sn sub ab col dd k0 k1 k2 k3 k5 newId))
    (hi : W.Looks (model prog w) h (typeLookup (.ref C) "__init__") (some (.ref fI))) (hb : ∀ self, W.Looks (model prog w) h (bindSpecial (.ref fI) self) (.ref fI, [self])) (hrest : rest.length ≤ sizeLine)
    (hq : codeAny (model prog w) A (.call (.ref fI) ⟨.ref (h.objs.size + 1) :: rest, kws⟩) (fun r s' => match r with | .ok (.ret v) => v = .none ∧ Q (.done (.ret (.ref (h.objs.size + 1)))) s' | .ok _ => False | .error e => E e s')
      ⟨(h.push (W.kdv_tup rest)).push (PySem.HandSPX.excO C h.objs.size), g, d, t, os⟩) :
    wpAny (model prog w) A (Builtin.«type.__call__» ⟨.ref C :: rest, kws⟩) Q E ⟨h, g, d, t, os⟩ := by
  repeat (first
    | with_reducible refine wpAny_loadPart_at hC ?_
    | with_reducible refine wpAny_madeBy_exc hC ?_
    | wp_step)
  refine codeAny_call_builtin_code (Code.quiet_builtin _ F.quiet) (xcheck_new F o hC ?_)
  refine xnew F o hC hrest ?_
  show wpAny _ _ _ _ _ _
  have kk : ∀ b u, h.get? b = some u → ((h.push (W.kdv_tup rest)).push (PySem.HandSPX.excO C h.objs.size)).get? b = some u := fun b u e => Heap.get?_push_of_some _ (Heap.get?_push_of_some _ e)
  have c1 := kk _ _ hC
  have gt : ((h.push (W.kdv_tup rest)).push (PySem.HandSPX.excO C h.objs.size)).get? (h.objs.size + 1) = some (PySem.HandSPX.excO C h.objs.size) := by heap_get
  have zC : (Value.ref C :: bm).contains (.ref C) = true := by
    rw [List.contains_cons, beq_self_eq_true, Bool.true_or]
  have j1 := hi.keeps kk
  have j2 := (hb (.ref (h.objs.size + 1))).keeps kk
  unfold isInstance
  repeat (first
    | with_reducible refine wpAny_loadPart_at gt ?_
    | (with_reducible refine wpAny_isSubtype_exc c1 ?_; rw [zC])
    | wp_step)
  show wpAny _ _ (typeLookup (.ref C) _) _ _ _
  refine j1.at (wpAny_holding (wpAny_bind (j2.at (wpAny_bind (wpAny_call (codeAny_mono hq fun r s' z => ?_))))))
  rcases r with e | (v | _ | _ | _) <;> first | exact z | exact z.elim | skip
  obtain ⟨rfl, z⟩ := z
  first
    | exact wpAny_pure (wpAny_pure z)
    | (wp_walk; exact z)

theorem xcall (F : ExcBaseFacts B newId initId bmB) (o : BmOk B bm) {rest : List Value} {fI : Addr} (hC : h.get? C = some (excClassObj nm q C N bs bm hdct sn sub ab col dd k0 k1 k2 k3 k5 newId))
    (hi : W.Looks (model prog w) h (typeLookup (.ref C) "__init__") (some (.ref fI))) (hb : ∀ self, W.Looks (model prog w) h (bindSpecial (.ref fI) self) (.ref fI, [self])) (hrest : rest.length ≤ sizeLine)
    (hq : codeAny (model prog w) (A.under (.builtin "type.__call__" ⟨.ref C :: rest, kws⟩)) (.call (.ref fI) ⟨.ref (h.objs.size + 1) :: rest, kws⟩) (W.InitBack (h.objs.size + 1) R) ⟨(h.push (W.kdv_tup rest)).push (PySem.HandSPX.excO C h.objs.size), g, d, t, os⟩) :
    codeAny (model prog w) A (.call (.ref C) ⟨rest, kws⟩) R ⟨h, g, d, t, os⟩ := by
  have z1 := tc_lookup
  have z2 := tc_bind (.ref C)
  have zT : (⟨h, g, d, t, os⟩ : Shared).TypeIs (.ref C) "type" := ⟨_, hC, rfl⟩
  refine codeAny_of_tree ?_
  show wpAny _ _ (callAny (.ref C) _) _ _ _
  repeat (any_goals (first
    | assumption
    | with_reducible refine wpAny_loadPart_at hC ?_
    | wp_step))
  refine ⟨rfl, codeAny_call_builtin_at (Code.quiet_builtin _ (by decide +kernel)) entry_typeCall (wpAny_check_type_call_sub hC (xtype_call F o hC hi hb hrest (codeAny_mono hq fun r s' z => ?_)))⟩
  rcases r with e | (v | _ | _ | _) <;> exact z

open Builtin.ObjectAttr in
theorem xosa {K : W.Frag} {name : Str} {tk : Tok} {v : Value} {x C : Addr} {fv : Array Value} {cd : ClassData} (XK : K.In h) (hx : h.get? x = some { cls := .ref C, data := .fields fv }) (hcd : W.clsIn K C = some cd) (hne : cd.mro.isEmpty = false)
    (hob : cd.mro.contains (.type "object") = true) (hps : refuseLoop (.ref x) "__setattr__" cd.mro = pure ()) (hh : cd.hasDict = true) (ha : W.findIn K (.ref C) name = some none)
    (hq : ∀ h' tk' dx, (∀ b u, b ≠ x → h.get? b = some u → h'.get? b = some u) → h.objs.size ≤ dx → dx ≠ x → h'.get? x = some { cls := .ref C, dict := some dx, data := .fields fv } → h'.Ns1 dx (fun y => if y = name then some v else none) → R (.ok (.ret .none)) ⟨h', g, d, tk', os⟩) :
    codeAny (model prog w) A (.call (.builtin "object.__setattr__") ⟨[.ref x, .str name tk, v], []⟩) R ⟨h, g, d, t, os⟩ := by
  have iT : W.InstAt h x { cls := .ref C, data := .fields fv } C none := ⟨hx, rfl, rfl, trivial⟩
  have sF := PySem.F.store_object
  have nx : x ≠ h.objs.size := Nat.ne_of_lt (Heap.lt_size hx)
  have isO : W.Looks (model prog w) h (isInstance (.ref x) (.type "object")) true := by
    refine iT.type.andThen (W.looks_mroIn XK ?_)
    unfold W.mroIn
    rw [hcd, Option.bind_some, if_neg (by rw [hne]; decide), hob]
  refine codeAny_call_builtin sF.slot.plain sF.entry (@W.check_slot (model prog w) _ _ ⟨h, g, d, t, os⟩ "object.__setattr__" "object" "__setattr__" (.ref x)
    [.str name tk, v] [] _ sF.kind sF.split isO (sF.args (.ref x) (.str name tk) v) ?_)
  have y1 : W.Looks (model prog w) h (mroOf (.ref C)) cd.mro := (W.looks_clsIn XK hcd).andThen .now
  have y2 : W.Looks (model prog w) h (storeTaker? none) none := .now
  have y3 : W.Looks (model prog w) h (classData C) cd := W.looks_clsIn XK hcd
  rw [W.osa_eq, refuse_eq]
  refine wpAny_bind (wpAny_bind (iT.type.at (wpAny_bind (y1.at ?_))))
  rw [hps]
  refine wpAny_pure (wpAny_bind (iT.type.at (wpAny_bind ((W.looks_findIn XK ha).at (wpAny_bind (y2.at ?_))))))
  show wpAny _ _ (storeInOwnDict (.ref x) (.ref C) (.str name tk) name v false) _ _ _
  obtain ⟨z1, z2, z3, z4, z5, hd, z6, z7, z8, z9, z10⟩ := cd
  dsimp only at hh
  subst hh
  unfold storeInOwnDict ownDictForStores
  repeat (first
    | with_reducible refine PySem.HandSPX.store_in_new ?_ ?_
    | with_reducible refine wpAny_loadPart_at hx ?_
    | with_reducible refine y3.at ?_
    | wp_step)
  · exact ⟨_, #[], _, (Heap.get?_update_ne _ _ _ _ nx.symm).trans (Heap.get?_push_at rfl rfl), rfl, fun e he => absurd he (by simp), fun _ => rfl⟩
  · intro h' tk' hn' hs
    have hx' : (h.push { cls := .type "dict", data := .dict #[] }).get? x = some { cls := .ref C, data := .fields fv } := Heap.get?_push_of_some _ hx
    refine hq h' tk' h.objs.size (fun b u hb hu => ?_) (Nat.le_refl _) nx.symm ?_ hn'
    · exact (hs.2 b (Nat.ne_of_lt (Heap.lt_size hu))).trans ((Heap.get?_update_ne _ _ _ _ hb).trans (Heap.get?_push_of_some _ hu))
    · exact (hs.2 x nx).trans (Heap.get?_update_self _ hx' rfl)
end
end Fk

set_option maxHeartbeats 4000000
namespace Fk
open PySem PySem.Spec L2
/-- what the written part says of an error's class, whose __init__ stands at fI -/
structure XC (K : PySem.W.Frag) (C fI : Addr) : Prop where
  cls : ∃ (B newId initId : String) (bmB : List Value) (nm q : Str) (N : Addr) (bs bm : List Value) (sn : List Str) (sub : List Value) (ab : Bool) (col : Option Bool) (dd : Option Addr) (k0 k1 k2 k3 k5 : Option Value),
    ExcBaseFacts B newId initId bmB ∧ BmOk B bm ∧ (∀ self, refuseLoop self "__setattr__" bm = pure ()) ∧ bm.contains (.type "object") = true ∧ K.lookup C = some (excClassObj nm q C N bs bm true sn sub ab col dd k0 k1 k2 k3 k5 newId)
  sa : PySem.W.findIn K (.ref C) "__setattr__" = some (some (.builtin "object.__setattr__"))
  kC : PySem.W.keepIn K (.ref C) = true
  iC : PySem.W.findIn K (.ref C) "__init__" = some (some (.ref fI))
  tI : PySem.W.typeIn K (.ref fI) = some (.type "function")
  ga : PySem.W.findIn K (.ref C) "__getattribute__" = some (some (.builtin "BaseException.__getattribute__"))
  gg : PySem.W.findIn K (.ref C) "__getattr__" = some none
  su : PySem.W.subIn K (.ref C) (.type "BaseException") = some true
  hd : PySem.W.hasDictIn K C = true
  ha : PySem.W.findIn K (.ref C) "__class__" = some (some (.builtin "object.__class__"))
  hn : PySem.W.specialIn K (.builtin "object.__class__") "__get__" = some (some (.builtin "getset_descriptor.__get__"))
  ht : PySem.W.takesIn K (.builtin "object.__class__") = some true
  hm : PySem.W.mroIn K C (.type "object") = some true
section
variable {X : Cx} {CX : CXT} {k : Nat} {fI C : Addr} {fd : FuncData} {ps : List Str} {sp : Sp}
theorem run_mkv {pins : List (Addr × Obj)} {σ : L2.St} {H : Hp} {s : Shared} {Q : VK} {us vals : List Value} {kz : List (Str × Value)} {vvs : List V} (T : XC X.K C fI) (F1 : FnOk X.prog X.w X.K X.mg X.base CX k fI fd ps sp) (hr : Room (k + 1) X.A)
    (hx : Passes CX X (fun _ _ _ => False)) (I : Inv X pins σ H s) (rv : Vals vvs vals) (hus : us.length ≤ 1000) (hbind : ∀ (s' : Shared) (self : Value), X.K.In s'.heap → BindsTo s' fd ⟨self :: us, kz⟩ (ps.zip (self :: vals)))
    (h : ∀ a, H a = none → sp (.ref a :: vvs) (upd H a (exo a C none)) (fun v H2 => v = .non ∧ Q (.ref a) H2) (fun _ _ _ => False)) :
    wpAny (model X.prog X.w) X.A (call (.ref C) us kz) (EP X pins σ Q) X.xe s := by
  obtain ⟨B, newId, initId, bmB, nm, q, N, bs, bm, sn, sub, ab, col, dd, k0, k1, k2, k3, k5, FB, ok, _, _, hC⟩ := T.cls
  obtain ⟨hp, g, dr, tk, os⟩ := s
  have hsz : hp.objs.size ≤ hp.objs.size + 1 := Nat.le_succ _
  have hq := h (hp.objs.size + 1) (I.hok.fresh hsz)
  have gt : ((hp.push (PySem.W.kdv_tup us)).push (PySem.HandSPX.excO C hp.objs.size)).get? (hp.objs.size + 1) = some (PySem.HandSPX.excO C hp.objs.size) := by heap_get
  have I2 : Inv X pins σ (upd H (hp.objs.size + 1) (exo (hp.objs.size + 1) C none)) ⟨(hp.push (PySem.W.kdv_tup us)).push (PySem.HandSPX.excO C hp.objs.size), g, dr, tk, os⟩ :=
    I.laid (t' := tk) (a := hp.objs.size + 1) (o := exo (hp.objs.size + 1) C none) (fun b u e => Heap.get?_push_of_some _ (Heap.get?_push_of_some _ e)) hsz (exo_ok gt)
  have r2 : Vals (V.ref (hp.objs.size + 1) :: vvs) (Value.ref (hp.objs.size + 1) :: vals) := .cons rfl rv
  have hz : us.length ≤ sizeLine := Nat.le_trans hus (by decide)
  refine wpAny_call (xcall FB ok (I.kIn _ _ hC) (PySem.W.looks_findIn I.kIn T.iC) (fun self => PySem.W.bind_fn I.kIn self T.tI) hz
    (codeAny_mono (F1.run _ X.stack _ _ ⟨Value.ref (hp.objs.size + 1) :: us, kz⟩ _ _ _ (fun _ _ _ => False) (hr.make C us kz) (I2.env0.make C us kz) (hbind _ _ I2.kIn) r2 hq) fun r s' z => ?_))
  cases r with
  | error e => exact hx pins σ _ _ e s' I2 z
  | ok fl =>
    cases fl with
    | ret u =>
      obtain ⟨v, H', I3, rv', ev, q3⟩ := I2.after z
      subst ev
      exact ⟨rv', ⟨V.ref (hp.objs.size + 1), H', I3, rfl, q3⟩⟩
    | next => exact z.elim
    | brk => exact z.elim
    | cont => exact z.elim
variable {x : Str} {p p' pos : Pos} {e o : Expr} {es : List Expr} {kws : List Keyword} {t tk : TA} {ds : List Value} {dvs : List V} {ks : List Str} {te to : TE} {f : Str}
/-- C(e, ..) as a value: an error's object stands at a, then __init__ -/
def tMkV (C : Addr) (sp : Sp) (dvs : List V) (t : TA) : TE := fun σ H Q => t σ H fun vs H1 => vs.length ≤ 1000 ∧ ∀ a, H1 a = none → sp (.ref a :: (vs ++ dvs)) (upd H1 a (exo a C none)) (fun v H2 => v = .non ∧ Q (.ref a) H2) (fun _ _ _ => False)
theorem pe_mkv (T : XC X.K C fI) (F1 : FnOk X.prog X.w X.K X.mg X.base CX k fI fd ps sp) (hr : Room (k + 1) X.A) (hb : Binds X.K fd ps ds) (hd : Vals dvs ds) (hx : Passes CX X (fun _ _ _ => False)) (hg : Gl X x) (hm : X.mg x = some (.ref C)) (ha : PA X (e :: es) t)
    (hdb : (x == ("__debug__" : Str)) = false := by decide) (he : starEach (e :: es) X.env = (false, eval e X.env) :: starEach es X.env := by rfl) (hpl : (backTo pos (starEach es X.env)).any (·.1) = false := by rfl) :
    PE X (.Call (.Name x p) (e :: es) [] pos) (tMkV C sp dvs t) := by
  refine ⟨fun pins s σ H Q I h => ?_⟩
  refine wpAny_Call_Name_kw (ld_glob I hg hm ?_ hdb)
  refine PySem.W.callWith_K (h₀ := X.base) I.ok.mod.kin T.kC (thn (ha.run pos pins s σ H _ I h) fun us s1 ⟨vs, H1, I1, r1, hz, q1⟩ => ⟨I1.kIn, ?_⟩) he hpl
  have q0 := q1 _ (I1.hok.fresh (Nat.le_refl _))
  have l0 := F1.len _ _ _ _ q0
  have l1 := (r1.append hd).length
  rw [List.length_cons] at l0
  exact run_mkv (us := us) (kz := []) T F1 hr hx I1 (r1.append hd) (by rw [← r1.length]; exact hz) (fun s' self X1 => hb s' (self :: us) X1 (by rw [List.cons_append, List.length_cons, ← l1]; exact l0)) q1
theorem pe_mkv0 (T : XC X.K C fI) (F1 : FnOk X.prog X.w X.K X.mg X.base CX k fI fd ps sp) (hr : Room (k + 1) X.A) (hb : Binds X.K fd ps ds) (hd : Vals dvs ds) (hx : Passes CX X (fun _ _ _ => False)) (hg : Gl X x) (hm : X.mg x = some (.ref C))
    (hdb : (x == ("__debug__" : Str)) = false := by decide) : PE X (.Call (.Name x p) [] [] pos) (tMkV C sp dvs tNil) := by
  refine ⟨fun pins s σ H Q I h => ?_⟩
  obtain ⟨_, q1⟩ := h
  refine wpAny_Call_Name_kw (ld_glob I hg hm ?_ hdb)
  refine PySem.W.callWith_K0 I.kIn T.kC ?_
  have q0 := q1 _ (I.hok.fresh (Nat.le_refl _))
  have l0 := F1.len _ _ _ _ q0
  rw [List.length_cons] at l0
  exact run_mkv (us := []) (kz := []) T F1 hr hx I hd (Nat.zero_le _) (fun s' self X1 => hb s' [self] X1 (by rw [List.singleton_append, List.length_cons, ← hd.length]; exact l0)) q1
/-- C(k = e, ..) as a value -/
def tMkVK (C : Addr) (n : Nat) (sp : Sp) (t : TA) : TE := fun σ H Q => t σ H fun zs H1 => zs.length = n ∧ ∀ a, H1 a = none → sp (.ref a :: zs) (upd H1 a (exo a C none)) (fun v H2 => v = .non ∧ Q (.ref a) H2) (fun _ _ _ => False)
theorem pe_mkvK (T : XC X.K C fI) (F1 : FnOk X.prog X.w X.K X.mg X.base CX k fI fd ps sp) (hr : Room (k + 1) X.A) (hb : ∀ (s : Shared) (self : Value) (ws : List Value), X.K.In s.heap → ws.length = ks.length → BindsTo s fd ⟨[self], ks.zip ws⟩ (ps.zip (self :: ws))) (hx : Passes CX X (fun _ _ _ => False))
    (hg : Gl X x) (hm : X.mg x = some (.ref C)) (hkw : PK X kws tk) (hall : (backToKw pos (keywordEach kws X.env)).all (·.1.isSome) = true := by rfl) (hks : (backToKw pos (keywordEach kws X.env)).filterMap (·.1) = ks := by rfl) (hdb : (x == ("__debug__" : Str)) = false := by decide)
    (hpl : ((backTo pos (starEach [] X.env)).any (·.1) || (backToKw pos (keywordEach kws X.env)).any (·.1.isNone)) = false := by rfl) : PE X (.Call (.Name x p) [] kws pos) (tMkVK C ks.length sp tk) := by
  refine ⟨fun pins s σ H Q I h => ?_⟩
  refine wpAny_Call_Name_kw (ld_glob I hg hm ?_ hdb)
  refine PySem.W.callWith_KW0 (h₀ := X.base) I.ok.mod.kin T.kC hall ?_ hpl
  refine thn (hkw.run pos pins s σ H _ I h) fun ws s2 ⟨zs, H2, I2, rz, l2, q2⟩ => ⟨I2.kIn, ?_⟩
  rw [hks]
  exact run_mkv (us := []) T F1 hr hx I2 rz (Nat.zero_le _) (fun s' self X1 => hb s' self ws X1 (by rw [← rz.length]; exact l2)) q2

theorem inst_v {H : Hp} {h : Heap} {P : Program} {w : World} {a d : Addr} {fs : List (Str × V)} (hok : HOk P w H h) (ea : H a = some (exo a C (some d))) (ed : H d = some (exd d fs)) :
    ∃ (ox od : Obj) (mA : Str → Option Value), PySem.W.InstAt h a ox C (some od) ∧ h.get? d = some od ∧ h.Ns1 d mA ∧ ∀ g, RelO (fs.lookup g) (mA g) := by
  obtain ⟨t1, ho⟩ := exo_at hok ea
  obtain ⟨mA, hns, rel⟩ := exd_at hok ed
  obtain ⟨od, es', ep, h1, h2, h3⟩ := id hns
  exact ⟨_, od, mA, ⟨ho, rfl, rfl, h1⟩, h1, hns, rel⟩
/-- e.f, e an error's value -/
def tFv (K : PySem.W.Frag) (f : Str) (te : TE) : TE := fun σ H Q => te σ H fun x H1 => ∃ (a C fI d : Addr) (fs : List (Str × V)) (v : V), x = .ref a ∧ XC K C fI ∧ PySem.W.findIn K (.ref C) f = some none ∧ H1 a = some (exo a C (some d)) ∧ H1 d = some (exd d fs) ∧ fs.lookup f = some v ∧ Q v H1
theorem pe_fv (he : PE X e te) (hb : attributeBase e f X.env (eval e X.env) = eval e X.env := by rfl) : PE X (.Attribute e f pos) (tFv X.K f te) := by
  refine ⟨fun pins s σ H Q I h => ?_⟩
  refine attr_of hb (thn (he.run pins s σ H _ I h) fun u s1 hh => ?_)
  obtain ⟨x, H1, I1, rx, a, C, fI, d, fs, v, ex, T, hno, ea, ed, l, q⟩ := hh
  subst ex
  obtain rfl : u = Value.ref a := rx
  obtain ⟨ox, od, mA, J, hod, hns, rel⟩ := inst_v I1.hok ea ed
  obtain ⟨od', ho', hl'⟩ := lookIn_ns hns
  rw [hod] at ho'
  cases ho'
  obtain ⟨u, hu, ru⟩ := RelO.some_of (v := v) (o := mA f) (by rw [← l]; exact rel f)
  exact PySem.HandSPX.exc_get I1.kIn J T.ga T.gg T.su (PySem.W.findObj_own T.hd hno rfl (by rw [hl', hu])) (handed_of ru) ⟨v, H1, I1.tok _, ru, q⟩
theorem kit_v {K : PySem.W.Frag} {a : Addr} {od : Option Obj} {ox : Obj} (T : XC K C fI) : PySem.W.KitX K (.ref a) (.ref C) (fun h => PySem.W.InstAt h a ox C od) := by
  refine PySem.W.kitx_exc ?_ T.ga T.gg T.su T.ha T.hn T.ht T.hm
  obtain ⟨B, newId, initId, bmB, nm, q, N, bs, bm, sn, sub, ab, col, dd, k0, k1, k2, k3, k5, FB, ok, _, _, hC⟩ := T.cls
  unfold PySem.W.clsIn
  rw [hC]
  rfl
/-- isinstance(e, c), e an error's value -/
def rIsV (K : PySem.W.Frag) : List V → Hp → VK → Prop := fun xs H Q => ∃ (a C fI d : Addr) (fs : List (Str × V)) (c : V) (u : Value) (b : Bool), xs = [.ref a, c] ∧ ClsV c u ∧ XC K C fI ∧ H a = some (exo a C (some d)) ∧ H d = some (exd d fs) ∧ PySem.W.kitOne K (.ref C) u = some b ∧ Q (.bl b) H
theorem call_isv : CallR X (.builtin "isinstance") (rIsV X.K) := by
  intro pins s σ H xs us Q I r h
  obtain ⟨a, C, fI, d, fs, c, u, b, rfl, kc, T, ea, ed, e, q⟩ := h
  obtain ⟨u1, u2, rfl, r1, r2⟩ := vals2 r
  have e2 := kc.eq r2
  subst e2
  obtain rfl : u1 = Value.ref a := r1
  obtain ⟨ox, od, mA, J, hod, hns, rel⟩ := inst_v I.hok ea ed
  exact PySem.W.kia_one (kit_v T) I.kIn J e (fun z => nomatch z) fun tk => ⟨.bl b, H, I.tok tk, rfl, q⟩
/-- isinstance(e, (c, ..)), e the error that the suite holds -/
def rIsS (K : PySem.W.Frag) (a : Addr) (cls : Value) (d : Option Addr) : List V → Hp → VK → Prop := fun xs H Q => ∃ (C fI tp dd : Addr) (fs : List (Str × V)) (cs : List V) (us : List Value) (b : Bool), xs = [.ref a, .ref tp] ∧ cls = .ref C ∧ d = some dd ∧ XC K C fI ∧ H dd = some (.xd fs) ∧
  H tp = some (.tup cs) ∧ Paired ClsV cs us ∧ PySem.W.kitAny K (.ref C) us = some b ∧ Q (.bl b) H
theorem call_isS {a : Addr} {oe : Obj} {cls : Value} {d : Option Addr} {pn : List (Addr × Obj)} (hz : Zc cls d oe) (hf : ∃ vs, oe.data = .fields vs) : CallR (X.suite a ((a, oe) :: pn)) (.builtin "isinstance") (rIsS X.K a cls d) := by
  intro pins s σ H xs us Q I r h
  obtain ⟨C, fI, tp, dd, fs, cs, ws, b, rfl, rfl, rfl, T, ed, hT, kc, e, q⟩ := h
  obtain ⟨u1, u2, rfl, r1, r2⟩ := vals2 r
  obtain rfl : u1 = Value.ref a := r1
  cases (show u2 = Value.ref tp from r2)
  obtain ⟨hget, _⟩ := I.pin (a, oe) (List.mem_append_left _ List.mem_cons_self)
  obtain ⟨vs, hv⟩ := hf
  obtain ⟨mA, hns, rel⟩ := (show ObjOk X.prog X.w H s.heap dd (.xd fs) from I.hok dd _ ed)
  obtain ⟨od, ho, hl⟩ := lookIn_ns hns
  have J : PySem.W.InstAt s.heap a oe C (some od) := ⟨hget, hz.1, by unfold PySem.W.notCls; rw [hv] <;> rfl, by rw [hz.2]; exact ho⟩
  obtain ⟨_, its, rv, o, h1, h2, n, h3⟩ := (show ObjOk X.prog X.w H s.heap tp (.tup cs) from I.hok tp _ hT)
  have e3 := ClsV.all kc rv
  subst e3
  obtain ⟨oc, od', dt, sl⟩ := o
  simp only at h2 h3
  subst h2 h3
  exact PySem.W.kia_tup (kit_v T) I.kIn J h1 e (fun z => nomatch z) fun tk => ⟨.bl b, H, I.tok tk, rfl, q⟩
theorem xost {pins : List (Addr × Obj)} {σ : L2.St} {H : Hp} {s : Shared} {a : Addr} {y : V} {u : Value} {Q : Unit → Shared → Prop} {E : Value → Shared → Prop} {A : Around} (T : XC X.K C fI) (I : Inv X pins σ H s) (ea : H a = some (exo a C none))
    (hno : PySem.W.findIn X.K (.ref C) f = some none) (ry : RelV y u)
    (h : ∀ dx s', H dx = none → dx ≠ a → Inv X pins σ (upd (upd H dx (exd dx [(f, y)])) a (exo a C (some dx))) s' → Q () s') : wpAny (model X.prog X.w) A (setAttr (.ref a) f u) Q E s := by
  obtain ⟨B, newId, initId, bmB, nm, q, N, bs, bm, sn, sub, ab, col, dd, k0, k1, k2, k3, k5, FB, ok, hps, hob, hC⟩ := T.cls
  have hcl : PySem.W.clsIn X.K C = some { name := nm, bases := bs, mro := .ref C :: bm, ns := N, qualname := q, hasDict := true, slotNames := sn, subclasses := sub, abstract := ab, collection := col, hasDel := false } := by
    unfold PySem.W.clsIn
    rw [hC]
  obtain ⟨t1, ho⟩ := exo_at I.hok ea
  obtain ⟨hp, g, d, t, os⟩ := s
  refine PySem.W.set_plain I.kIn (ox := { cls := .ref C, dict := none, data := .fields #[.ref t1, .none, .none, .none, .bool false, .none] }) (od := none) ⟨ho, rfl, rfl, trivial⟩ T.sa ?_
  refine xosa I.kIn ho hcl rfl (by rw [List.contains_cons, hob, Bool.or_true]) (by rw [refuseLoop_ref]; exact hps _) rfl hno (fun h' tk' dx kp dn dne hx hn => ?_)
  have zd : H dx = none := I.hok.fresh dn
  have nd : ∀ {b : Addr} {o : Obj}, hp.get? b = some o → b ≠ dx := fun {b o} w => Nat.ne_of_lt (Nat.lt_of_lt_of_le (Heap.lt_size w) dn)
  have na : ∀ {b : Addr}, H b = none → b ≠ a := fun {b} n z => by
    rw [z, ea] at n
    cases n
  have U : Un X.fs [] H (upd (upd H dx (exd dx [(f, y)])) a (exo a C (some dx))) hp h' := by
    refine ⟨fun b o w n _ _ => kp b o (na n) w, fun b o w n _ _ => ⟨o.slots, kp b o (na n) w⟩, fun b o w n _ => ?_, fun b o w _ => ?_, fun b xs w => ?_, fun b o v w => ?_, fun b ps w => ⟨#[], ?_⟩⟩
    · rw [upd_ne (na n), upd_ne (nd w)]
      exact n
    · by_cases hb : b = a
      · rw [hb]
        exact ⟨_, hx⟩
      · exact ⟨o, kp b o hb w⟩
    · rw [upd_ne (at_ne ea w exo_tup), upd_ne (ne_of_none w zd)]
      exact w
    · rw [upd_ne (at_ne ea w exo_frz), upd_ne (ne_of_none w zd)]
      exact w
    · rw [upd_ne (at_ne ea w exo_tbl), upd_ne (ne_of_none w zd), w]
      simp
  refine h dx _ zd dne (I.un (t' := tk') U fun b o w => ?_)
  by_cases hb : b = a
  · rw [hb, upd_same] at w
    cases w
    rw [hb]
    exact exo_ok hx
  rw [upd_ne hb] at w
  by_cases hd : b = dx
  · rw [hd, upd_same] at w
    cases w
    rw [hd]
    exact exd_ok hn (relO_put (fs := []) ry fun g => True.intro)
  rw [upd_ne hd] at w
  refine (I.hok b o w).stay (fun c v hc z => kp c v ?_ z) (fun c hc => ?_) (fun c xs hc => ?_)
  · rcases hc with hc | hc
    · rw [hc]
      exact hb
    · exact at_ne ea hc exo_own
  · rw [upd_ne (at_ne ea hc exo_own), upd_ne (ne_of_none hc zd)]
    exact hc
  · rw [upd_ne (at_ne ea hc exo_tup), upd_ne (ne_of_none hc zd)]
    exact hc
/-- self.f = e, self an error that has no field yet -/
def tOsv (K : PySem.W.Frag) (f : Str) (to te : TE) : TS := fun D σ H => te σ H fun y H1 => to σ H1 fun x H2 => ∃ a C fI : Addr, x = .ref a ∧ XC K C fI ∧ PySem.W.findIn K (.ref C) f = some none ∧ H2 a = some (exo a C none) ∧
  ∀ dx, H2 dx = none → dx ≠ a → D.nx σ (upd (upd H2 dx (exd dx [(f, y)])) a (exo a C (some dx)))
theorem ps_osv (ho : PE X o to) (he : PE X e te) (hs : swapsWith e (some (.Attribute o f p')) pos.line X.env = pure false := by rfl) : PS X (.Assign [.Attribute o f p'] e pos) (tOsv X.K f to te) := by
  refine ⟨fun pins s σ H D I h => ?_⟩
  refine plainObj_wpAny_Assign_Attribute (thn (he.run pins s σ H _ I h) fun v s1 ⟨y, H1, I1, r1, q1⟩ => thn (ho.run pins s1 σ H1 _ I1 q1) fun u s2 ⟨x, H2, I2, r2, a, C, fI, ex, T, hno, ea, q⟩ => ?_) hs
  subst ex
  obtain rfl : u = Value.ref a := r2
  exact xost T I2 ea hno r1 fun dx s' n ne J => ⟨σ, _, J, q dx n ne⟩
end
end Fk

set_option maxHeartbeats 4000000
/-! What is known of an error's class by its entry in the written part. -/
namespace Fk
open PySem PySem.Spec L2
def VE : List Value := [.type "ValueError", .type "Exception", .type "BaseException", .type "object"]
def KE : List Value := [.type "KeyError", .type "LookupError", .type "Exception", .type "BaseException", .type "object"]
structure CF (K : PySem.W.Frag) (nm : Str) (newId : String) (bm : List Value) (C : Addr) : Prop where
  x : ∃ (q : Str) (N : Addr) (bs : List Value) (sn : List Str) (sub : List Value) (ab : Bool) (col : Option Bool) (dd : Option Addr) (k0 k1 k2 k3 k5 : Option Value), K.lookup C = some (excClassObj nm q C N bs bm true sn sub ab col dd k0 k1 k2 k3 k5 newId)
section
variable {K : PySem.W.Frag} {nm nm' : Str} {newId newId' : String} {bm bm' : List Value} {C C' : Addr}
theorem CF.sub (c : CF K nm newId bm C) (u : Value) : PySem.W.subIn K (.ref C) u = some ((Value.ref C :: bm).contains u) := by
  obtain ⟨q, N, bs, sn, sub, ab, col, dd, k0, k1, k2, k3, k5, e⟩ := c.x
  show PySem.W.mroIn K C u = _
  unfold PySem.W.mroIn PySem.W.clsIn
  rw [e]
  rfl
theorem CF.mro (c : CF K nm newId bm C) (u : Value) : PySem.W.mroIn K C u = some ((Value.ref C :: bm).contains u) := c.sub u
theorem CF.typ (c : CF K nm newId bm C) : PySem.W.typeIn K (.ref C) = some (.type "type") := by
  obtain ⟨q, N, bs, sn, sub, ab, col, dd, k0, k1, k2, k3, k5, e⟩ := c.x
  show (K.lookup C).map (·.cls) = _
  rw [e]
  rfl
theorem CF.hd (c : CF K nm newId bm C) : PySem.W.hasDictIn K C = true := by
  obtain ⟨q, N, bs, sn, sub, ab, col, dd, k0, k1, k2, k3, k5, e⟩ := c.x
  unfold PySem.W.hasDictIn PySem.W.clsIn
  rw [e]
  rfl
theorem CF.isc (c : CF K nm newId bm C) : (PySem.W.clsIn K C).isSome = true := by
  obtain ⟨q, N, bs, sn, sub, ab, col, dd, k0, k1, k2, k3, k5, e⟩ := c.x
  unfold PySem.W.clsIn
  rw [e]
  rfl
theorem CF.kit (c : CF K nm newId bm C) (c' : CF K nm' newId' bm' C') : PySem.W.kitOne K (.ref C) (.ref C') = some ((Value.ref C :: bm).contains (.ref C')) := by
  unfold PySem.W.kitOne
  by_cases h : C = C'
  · subst h
    have e : (Value.ref C == .ref C) = true := beq_self_eq_true _
    rw [if_pos e, List.contains_cons, e, Bool.true_or]
  · have e : ¬ (Value.ref C == .ref C') = true := fun z => by
      have := eq_of_beq z
      cases this
      exact h rfl
    have t : ((PySem.W.clsIn K C').isSome && PySem.W.typeIn K (.ref C') == some (.type "type")) = true := by
      rw [c'.isc, c'.typ] <;> rfl
    rw [if_neg e]
    show (if ((PySem.W.clsIn K C').isSome && PySem.W.typeIn K (.ref C') == some (.type "type")) = true then PySem.W.subIn K (.ref C) (.ref C') else none) = _
    rw [if_pos t]
    exact c.sub _
theorem CF.kitT (c : CF K nm newId bm C) {n : String} (h : PySem.W.kitMeta n = true) : PySem.W.kitOne K (.ref C) (.type n) = some ((Value.ref C :: bm).contains (.type n)) := by
  unfold PySem.W.kitOne
  have e : ¬ (Value.ref C == .type n) = true := fun z => by
    have := eq_of_beq z
    cases this
  rw [if_neg e]
  show (if PySem.W.kitMeta n = true then PySem.W.subIn K (.ref C) (.type n) else none) = _
  rw [if_pos h]
  exact c.sub _
theorem CF.name (c : CF K nm newId bm C) (c' : CF K nm' newId' bm' C) : nm = nm' := by
  obtain ⟨q, N, bs, sn, sub, ab, col, dd, k0, k1, k2, k3, k5, e⟩ := c.x
  obtain ⟨q', N', bs', sn', sub', ab', col', dd', k0', k1', k2', k3', k5', e'⟩ := c'.x
  rw [e] at e'
  have z := Option.some.inj e'
  injection z with z1 z2 z3 z4
  injection z3 with z5
  injection z5
theorem CF.oex (c : CF K nm "ValueError.__new__" bm C) (h : PySem.HandSPX.refsVE bm = true) (sa : PySem.W.findIn K (.ref C) "__setattr__" = some (some (.builtin "object.__setattr__"))) (kC : PySem.W.keepIn K (.ref C) = true) (hb : bm.contains (.type "BaseException") = true) : OexC K C := by
  obtain ⟨q, N, bs, sn, sub, ab, col, dd, k0, k1, k2, k3, k5, e⟩ := id c.x
  refine { cls := ⟨nm, q, N, bs, bm, sn, sub, ab, col, dd, k0, k1, k2, k3, k5, e, h⟩, sa := sa, exC := ?_, tyC := c.typ, kC := kC }
  rw [c.sub, List.contains_cons, hb, Bool.or_true]
theorem CF.exm (c : CF K nm newId bm C) (c' : CF K nm' newId' bm' C') (hb : bm'.contains (.type "BaseException") = true) {b : Bool} (e : (Value.ref C :: bm).contains (.ref C') = b) : PySem.W.exmOne K (.ref C) (.ref C') = some b := by
  refine PySem.W.exm_ref ?_ c'.hd c'.typ ((c.sub _).trans (congrArg some e))
  rw [c'.sub, List.contains_cons, hb, Bool.or_true]
theorem CF.xc (c : CF K nm newId bm C) {B initId : String} {bmB : List Value} {fI : Addr} (FB : ExcBaseFacts B newId initId bmB) (ok : BmOk B bm) (ps : ∀ self, refuseLoop self "__setattr__" bm = pure ()) (ob : bm.contains (.type "object") = true) (hb : bm.contains (.type "BaseException") = true)
    (sa : PySem.W.findIn K (.ref C) "__setattr__" = some (some (.builtin "object.__setattr__"))) (kC : PySem.W.keepIn K (.ref C) = true) (iC : PySem.W.findIn K (.ref C) "__init__" = some (some (.ref fI))) (tI : PySem.W.typeIn K (.ref fI) = some (.type "function"))
    (ga : PySem.W.findIn K (.ref C) "__getattribute__" = some (some (.builtin "BaseException.__getattribute__"))) (gg : PySem.W.findIn K (.ref C) "__getattr__" = some none) (ha : PySem.W.findIn K (.ref C) "__class__" = some (some (.builtin "object.__class__")))
    (hn : PySem.W.specialIn K (.builtin "object.__class__") "__get__" = some (some (.builtin "getset_descriptor.__get__"))) (ht : PySem.W.takesIn K (.builtin "object.__class__") = some true) : XC K C fI := by
  obtain ⟨q, N, bs, sn, sub, ab, col, dd, k0, k1, k2, k3, k5, e⟩ := id c.x
  refine { cls := ⟨B, newId, initId, bmB, nm, q, N, bs, bm, sn, sub, ab, col, dd, k0, k1, k2, k3, k5, FB, ok, ps, ob, e⟩, sa := sa, kC := kC, iC := iC, tI := tI, ga := ga, gg := gg, su := ?_, hd := c.hd, ha := ha, hn := hn, ht := ht, hm := ?_ }
  · rw [c.sub, List.contains_cons, hb, Bool.or_true]
  · rw [c.mro, List.contains_cons, ob, Bool.or_true]
end
theorem ve_ok : BmOk "ValueError" VE := ⟨by decide +kernel, by decide +kernel, by decide +kernel⟩
theorem ke_ok : BmOk "LookupError" KE := ⟨by decide +kernel, by decide +kernel, by decide +kernel⟩
theorem rve_ok (c : Addr) : BmOk "ValueError" (.ref c :: VE) := ⟨ve_ok.b', ve_ok.a', ve_ok.n'⟩
theorem ve_pass (self : Value) : refuseLoop self "__setattr__" VE = pure () := PySem.F.store_ValueError.passes self
theorem rve_pass (c : Addr) (self : Value) : refuseLoop self "__setattr__" (.ref c :: VE) = pure () := by
  rw [refuseLoop_ref]
  exact ve_pass self
theorem ke_pass (self : Value) : refuseLoop self "__setattr__" KE = pure () := by
  kernel_rfl
end Fk

set_option maxHeartbeats 4000000
/-! Operators of an own class: ==, !=, +, unary -. -/
namespace Fk
open PySem PySem.Spec PyProof.Rows L2
/-- nothing is let out where E0 is asked -/
def NoEx (CX : CXT) : Prop := ∀ outer H s u s', CX outer H s C8.E0 u s' → False
theorem noEx0 : NoEx C8.CX0 := fun _ _ _ _ _ h => h
theorem noExL {P : Program} {w : World} : NoEx (L2.CX P w) := fun outer H s u s' h => by
  obtain ⟨_, _, _, _, _, _, _, _, _, _, _, _, e⟩ := h
  exact e
/-- a method of an own class -/
structure OwnM (P : Program) (w : World) (K : PySem.W.Frag) (mg : Str → Option Value) (base : Heap) (CX : CXT) (k : Nat) (C : Addr) (m : Str) (sp : Sp) : Prop where
  ex : ∃ (f : Addr) (fd : FuncData) (ps : List Str), PySem.W.findIn K (.ref C) m = some (some (.ref f)) ∧ PySem.W.isFn K (.ref f) = true ∧ FnOk P w K mg base CX k f fd ps sp ∧ Binds K fd ps []
section
variable {X : Cx} {CX : CXT} {k : Nat} {C a dx : Addr} {sp : Sp} {fs : List (Str × V)} {y : V} {u tb : Value} {pins : List (Addr × Obj)} {σ : L2.St} {H : Hp} {s : Shared} {Q : VK}
/-- a def runs, somewhere below the body; it lets nothing out -/
theorem run_in {f : Addr} {fd : FuncData} {ps : List Str} {us : List Value} {vs : List V} {E' : Value → Shared → Prop} {A : Around} (F : FnOk X.prog X.w X.K X.mg X.base CX k f fd ps sp) (hr : Room k A) (hA : Env0 X.prog X.w X.K X.mg X.base A X.stack s H) (hb : Binds X.K fd ps []) (hx : NoEx CX)
    (I : Inv X pins σ H s) (r : Vals vs us) (h : sp vs H Q C8.E0) : wpAny (model X.prog X.w) A (call (.ref f) us) (EP X pins σ Q) E' s := by
  have hl : us.length = ps.length := by
    rw [← r.length]
    exact F.len _ _ _ _ h
  have b := hb s us I.kIn (by rw [List.append_nil]; exact hl)
  rw [List.append_nil] at b
  refine wpAny_call (codeAny_mono (F.run A X.stack s H ⟨us, []⟩ us vs Q C8.E0 hr hA b r h) fun r s' hq => ?_)
  cases r with
  | error e => exact (hx _ _ _ _ _ hq).elim
  | ok fl =>
    cases fl with
    | ret u => exact I.after hq
    | next => exact hq.elim
    | brk => exact hq.elim
    | cont => exact hq.elim
/-- x == y, x an own object -/
def rOwnEq (K : PySem.W.Frag) (C : Addr) (sp : Sp) : R2 := fun x y H Q => ∃ (a dx : Addr) (fs : List (Str × V)) (tb : Value), x = .ref a ∧ H a = some (.ins C dx fs) ∧ TyX K H y tb ∧ PySem.W.notFirst K C tb = true ∧ sp [x, y] H (fun v H' => ∃ b, v = .bl b ∧ Q (.bl b) H') C8.E0
theorem op_ownEq (M : OwnM X.prog X.w X.K X.mg X.base CX k C "__eq__" sp) (hr : Room k X.A) (hx : NoEx CX) : OpR X (compareOp .Eq) (rOwnEq X.K C sp) := by
  intro pins s σ H x y v u Q I rx ry h
  obtain ⟨a, dx, fs, tb, rfl, ha, ty, hn, q⟩ := h
  obtain ⟨f, fd, ps, hs, hf, F, hb⟩ := M.ex
  cases (show v = Value.ref a from rx)
  obtain ⟨mA, J, _⟩ := ins_get I.hok ha
  obtain ⟨od, J, _⟩ := J.look
  obtain ⟨m, hF⟩ := I.fr
  obtain ⟨P', Z, p, _⟩ := kit_of I ry ty
  show wpAny (model X.prog X.w) X.A (richCompare .Eq (.ref a) u) (EP X pins σ Q) X.xe s
  refine PySem.W.cmp_K (op := .Eq) hr.units0 hF I.ok.mod.kin J (Z.ty _ _ I.kIn p) hn hs hf (wpAny_mono (run_in F hr I.env0 hb hx I (show Vals [V.ref a, y] [Value.ref a, u] from .cons rfl (.cons ry .nil)) q) (fun v s' z => ?_) fun _ _ x => x)
  obtain ⟨x, H', I', rv, b, rfl, q'⟩ := z
  cases (show v = Value.bool b from rv)
  exact ⟨.bl b, H', I', rfl, q'⟩
/-- x != y by object.__ne__, which asks x's own == -/
def rOwnNe (K : PySem.W.Frag) (C : Addr) (sp : Sp) : R2 := fun x y H Q => ∃ (a dx : Addr) (fs : List (Str × V)) (tb : Value), x = .ref a ∧ H a = some (.ins C dx fs) ∧ TyX K H y tb ∧ PySem.W.notFirst K C tb = true ∧ sp [x, y] H (fun v H' => ∃ b, v = .bl b ∧ Q (.bl (!b)) H') C8.E0
theorem op_ownNe (M : OwnM X.prog X.w X.K X.mg X.base CX k C "__eq__" sp) (hr : Room (k + 1) X.A) (hx : NoEx CX) (hne : PySem.W.findIn X.K (.ref C) "__ne__" = some (some (.builtin "object.__ne__"))) (hob : PySem.W.mroIn X.K C (.type "object") = some true) :
    OpR X (compareOp .NotEq) (rOwnNe X.K C sp) := by
  intro pins s σ H x y v u Q I rx ry h
  obtain ⟨a, dx, fs, tb, rfl, ha, ty, hn, q⟩ := h
  obtain ⟨f, fd, ps, hs, hf, F, hb⟩ := M.ex
  cases (show v = Value.ref a from rx)
  obtain ⟨mA, J, _⟩ := ins_get I.hok ha
  obtain ⟨od, J, _⟩ := J.look
  obtain ⟨P', Z, p, _⟩ := kit_of I ry ty
  have hbT := Z.ty (model X.prog X.w) s.heap I.kIn p
  have X0 := I.kIn
  have one : wpAny (model X.prog X.w) X.A (tryCompare (.ref a) "__ne__" u) (fun r s' => ∃ v, r = some v ∧ EP X pins σ Q v s') X.xe s := by
    unfold tryCompare
    have sp : PySem.W.Looks (model X.prog X.w) s.heap (specialOf (.ref a) "__ne__") (some (.builtin "object.__ne__")) := J.type.andThen (PySem.W.looks_findIn X0 hne)
    have iv : PySem.W.Looks (model X.prog X.w) s.heap (isInstance (.ref a) (.type "object")) true := J.type.andThen (PySem.W.looks_mroIn X0 hob)
    refine wpAny_bind (NtL.csib (E := X.xe) sp (PySem.F.cmp_object.ne.bind _) ?_)
    refine wpAny_call (codeAny_call_builtin PySem.F.cmp_object.ne.plain PySem.F.cmpEntry_ne (PySem.W.check_slot PySem.F.cmpKind_ne PySem.F.cmpSplit_ne iv (PySem.F.cmpArgs_ne _ _) ?_))
    have hu : X.A.in1.units < cLine := hr.in1.units0
    unfold Builtin.«object.__ne__»
    repeat (first
      | with_reducible refine wpAny_cRoomFor hu ?_
      | (refine wpAny_bind (m := callSpecialIfBound? (.ref a) (Str.ofString "__eq__") [u]) (PySem.W.ifBound_K X0 J hs hf (wpAny_mono (run_in (E' := fun _ _ => False) F hr.in1 I.env0.in1 hb hx I (show Vals [V.ref a, y] [Value.ref a, u] from .cons rfl (.cons ry .nil)) q) (fun v s' z => ?_) fun _ _ x => x.elim)))
      | wp_step)
    obtain ⟨x, H', I', rv, b, rfl, q'⟩ := z
    cases (show v = Value.bool b from rv)
    show wpAny _ _ (truthy (.bool b) >>= _) _ _ _
    refine wpAny_bind (wpAny_truthy_bool ?_)
    exact wpAny_pure (wpAny_pure ⟨_, rfl, .bl (!b), H', I', rfl, q'⟩)
  show wpAny (model X.prog X.w) X.A (richCompare .NotEq (.ref a) u) (EP X pins σ Q) X.xe s
  unfold richCompare
  simp only [oneThing_ref]
  refine wpAny_holding (wpAny_bind (wpAny_cRoomFor hr.units0 ?_))
  refine wpAny_bind (J.type.here (wpAny_bind (hbT.here ?_)))
  split
  · rename_i z
    have e : PySem.W.subIn X.K tb (.ref C) = some false := by
      rcases Bool.or_eq_true_iff.mp hn with e | e
      · rw [beq_iff_eq.mp e] at z
        simp at z
      · exact beq_iff_eq.mp e
    refine wpAny_bind ((PySem.W.looks_subIn X0 e).here ?_)
    simp only [Bool.false_eq_true, if_false]
    refine wpAny_bind (wpAny_mono one (fun r s' z => ?_) fun _ _ e => e)
    obtain ⟨v, rfl, hq⟩ := z
    exact wpAny_pure hq
  · refine wpAny_bind (wpAny_pure ?_)
    simp only [Bool.false_eq_true, if_false]
    refine wpAny_bind (wpAny_mono one (fun r s' z => ?_) fun _ _ e => e)
    obtain ⟨v, rfl, hq⟩ := z
    exact wpAny_pure hq
/-- -x -/
def rOwnNeg (C : Addr) (sp : Sp) : V → Hp → VK → Prop := fun x H Q => ∃ (a dx : Addr) (fs : List (Str × V)), x = .ref a ∧ H a = some (.ins C dx fs) ∧ sp [x] H Q C8.E0
theorem un_ownNeg (M : OwnM X.prog X.w X.K X.mg X.base CX k C "__neg__" sp) (hr : Room k X.A) (hx : NoEx CX) : UnR X (unaryOp .USub) (rOwnNeg C sp) := by
  intro pins s σ H x v Q I rx h
  obtain ⟨a, dx, fs, rfl, ha, q⟩ := h
  obtain ⟨f, fd, ps, hs, hf, F, hb⟩ := M.ex
  cases (show v = Value.ref a from rx)
  obtain ⟨mA, J, _⟩ := ins_get I.hok ha
  obtain ⟨od, J, _⟩ := J.look
  obtain ⟨m, hF⟩ := I.fr
  exact PySem.W.ksp_neg hF I.ok.mod.kin J hs hf (run_in F hr I.env0 hb hx I (show Vals [V.ref a] [Value.ref a] from .cons rfl .nil) q)
end
end Fk
namespace PySem.W
open PySem PySem.Spec PyProof.Rows
section
variable {prog : Program} {w : World} {A : Around} {E : Value → Shared → Prop} {s : Shared} {K : Frag} {x C L f : Addr} {h₀ : Heap} {m : Str → Option Value} {ox : Obj} {od : Option Obj} {nm T : String}
theorem fk_binT {op : Operator} {b : Value} {fo ro rc : Option Value} {Q : Value → Shared → Prop} (F : Fr h₀ L s.heap m) (X₀ : K.In h₀) (I : InstAt s.heap x ox C od) (hb : Looks (model prog w) s.heap (typeOf b) (.type T)) (hc : selfFirst K C = true)
    (hs : findIn K (.ref C) (PySem.dunder op.info.2) = some (some (.ref f))) (hf : isFn K (.ref f) = true) (hr : findIn K (.ref C) (dunderR op.info.2) = some rc) (hp : rc = none ∨ ∃ g : Addr, rc = some (.ref g))
    (h1 : findIn K (.type T) (PySem.dunder op.info.2) = some fo) (h2 : findIn K (.type T) (dunderR op.info.2) = some ro) (hsub : subIn K (.type T) (.ref C) = some false)
    (h : wpAny (model prog w) A (call (.ref f) [.ref x, b]) (CmpBack Q) E s) : wpAny (model prog w) A (binaryOp op (.ref x) b) Q E s := by
  have X := X₀.keeps F.keep
  obtain ⟨cd, rest, hcd, hm⟩ := ksp_first hc
  rcases hi : op.info with ⟨sym, nm'⟩
  rw [hi] at hs hr h1 h2
  dsimp only at hs hr h1 h2
  have one := ksp_try X I hs hf h
  obtain ⟨hh, g, d, tt, os⟩ := s
  have L1 : Looks (model prog w) hh (typeOf (.ref x)) (.ref C) := I.type
  have L2 : Looks (model prog w) hh (typeOf b) (.type T) := hb
  have L3 : Looks (model prog w) hh (fillsNumberSlot (.ref C) nm') true := fills_K X hcd hm hs
  have L4 : Looks (model prog w) hh (fillsNumberSlot (.type T) nm') ((fo.isSome && !isSeqSlot fo) || (ro.isSome && !isSeqSlot ro)) := ksp_fillsT X h1 h2
  have L5 : Looks (model prog w) hh (isSubtype (.type T) (.ref C)) false := looks_subIn X hsub
  have L6 : Looks (model prog w) hh (numberSlotInPython (.ref C) nm') true := ksp_inPy X hs hr hp
  have L7 : Looks (model prog w) hh (numberSlotInPython (.type T) nm') false := Looks.of_pure rfl
  have L8 : Looks (model prog w) hh (typeLookup (.type T) (dunderR nm')) ro := looks_findIn X h2
  generalize ((fo.isSome && !isSeqSlot fo) || (ro.isSome && !isSeqSlot ro)) = right at L4
  have hne : (Value.ref C == Value.type T) = false := Bool.eq_false_iff.mpr fun q => by cases beq_iff_eq.mp q
  simp only [binaryOp, hi]
  refine wpAny_holding (wpAny_bind ?_)
  unfold binaryOp1
  refine wpAny_bind (L1.at (wpAny_bind (L2.at (wpAny_bind (L3.at ?_)))))
  simp only [hne, Bool.false_eq_true, if_false]
  cases right with
  | false =>
    ksp_lk
    refine wpAny_mono one (fun r s' hr' => ?_) fun _ _ e => e
    obtain ⟨v, rfl, hq⟩ := hr'
    ksp_lk
    exact hq
  | true =>
    ksp_lk
    refine wpAny_mono one (fun r s' hr' => ?_) fun _ _ e => e
    obtain ⟨v, rfl, hq⟩ := hr'
    ksp_lk
    exact hq
end
end PySem.W
namespace Fk
open PySem PySem.Spec PyProof.Rows L2
/-- what is asked of a class for its + -/
structure AddF (K : PySem.W.Frag) (C : Addr) : Prop where
  first : PySem.W.selfFirst K C = true
  noR : PySem.W.findIn K (.ref C) "__radd__" = some none
/-- what may stand on the right of an own + -/
inductive RightOf (K : PySem.W.Frag) (H : Hp) (C : Addr) : V → Prop where
  | ins {b dy : Addr} {gs : List (Str × V)} (h : H b = some (.ins C dy gs)) : RightOf K H C (.ref b)
  | ty {y : V} {T : String} {fo ro : Option Value} (h : TyX K H y (.type T)) (h1 : PySem.W.findIn K (.type T) "__add__" = some fo) (h2 : PySem.W.findIn K (.type T) "__radd__" = some ro) (hs : PySem.W.subIn K (.type T) (.ref C) = some false) : RightOf K H C y
/-- x + y by x's own +: what may be let out is E, at the slots; the answer is an object -/
def tOwnAdd (K : PySem.W.Frag) (C : Addr) (sp : Sp) (E : L2.St → XK) (ta tb : TE) : TE := fun σ H Q => ta σ H fun x H1 => tb σ H1 fun y H2 => ∃ (a dx : Addr) (fs : List (Str × V)), x = .ref a ∧ H2 a = some (.ins C dx fs) ∧ RightOf K H2 C y ∧
  sp [x, y] H2 (fun v H' => ∃ b, v = .ref b ∧ Q v H') (E σ)
theorem pe_ownAdd {X : Cx} {CX : CXT} {k : Nat} {C : Addr} {sp : Sp} {E : L2.St → XK} {a b : Expr} {ta tb : TE} {pos : Pos} (M : OwnM X.prog X.w X.K X.mg X.base CX k C "__add__" sp) (T : AddF X.K C) (hr : Room k X.A) (hx : ∀ σ, PassesAt CX X σ (E σ)) (ha : PE X a ta) (hb : PE X b tb) :
    PE X (.BinOp a .Add b pos) (tOwnAdd X.K C sp E ta tb) := by
  refine ⟨fun pins s σ H Q I h => ?_⟩
  refine wpAny_BinOp (binT ha hb I h fun v u s2 x y H2 I2 rx ry q => ?_)
  obtain ⟨a, dx, fs, rfl, ea, ri, q⟩ := q
  obtain ⟨f, fd, ps, hs, hf, F, hb⟩ := M.ex
  cases (show v = Value.ref a from rx)
  obtain ⟨mA, J, _⟩ := ins_get I2.hok ea
  obtain ⟨od, J, _⟩ := J.look
  obtain ⟨m, hF⟩ := I2.fr
  have go : wpAny (model X.prog X.w) X.A (call (.ref f) [.ref a, u]) (PySem.W.CmpBack (EP X pins σ Q)) X.xe s2 := by
    refine wpAny_mono (run_fnS F hr hb (hx σ) I2 (show Vals [V.ref a, y] [Value.ref a, u] from .cons rfl (.cons ry .nil)) q) (fun v s' z => ?_) fun _ _ e => e
    obtain ⟨x, H', I', rv, b, rfl, q'⟩ := z
    cases (show v = Value.ref b from rv)
    exact ⟨.ref b, H', I', rfl, q'⟩
  cases ri with
  | @ins b dy gs eb =>
    cases (show u = Value.ref b from ry)
    obtain ⟨mB, J', _⟩ := ins_get I2.hok eb
    obtain ⟨od', J', _⟩ := J'.look
    exact PySem.W.binop_K (op := .Add) hF I2.ok.mod.kin J J'.type T.first hs hf go
  | @ty _ T' fo ro ty h1 h2 hsb =>
    obtain ⟨P', Z, p, _⟩ := kit_of I2 ry ty
    exact PySem.W.fk_binT (op := .Add) hF I2.ok.mod.kin J (Z.ty _ _ I2.kIn p) T.first hs hf T.noR (.inl rfl) h1 h2 hsb go
end Fk

set_option maxHeartbeats 4000000
/-! len, in, [] of an own class; methods that may raise, in a try and out of it; classes made. -/
namespace Fk
open PySem PySem.Spec PyProof.Rows L2
section
variable {X : Cx} {CX : CXT} {k : Nat} {C : Addr} {sp : Sp}
/-- len(x) -/
theorem call_ownLen (M : OwnM X.prog X.w X.K X.mg X.base CX k C "__len__" sp) (hr : Room (k + 1) X.A) (hx : NoEx CX) :
    CallR X (.builtin "len") (fun xs H Q => ∃ (a dx : Addr) (fs : List (Str × V)), xs = [.ref a] ∧ H a = some (.ins C dx fs) ∧ sp xs H (fun v H' => ∃ n : Nat, v = .int n ∧ n ≤ 1000000 ∧ Q v H') C8.E0) := by
  intro pins s σ H xs us Q I r h
  obtain ⟨a, dx, fs, rfl, ha, q⟩ := h
  obtain ⟨u, rfl, ru⟩ := vals1 r
  cases (show u = Value.ref a from ru)
  obtain ⟨f, fd, ps, hs, hf, F, hb⟩ := M.ex
  obtain ⟨mA, J, _⟩ := ins_get I.hok ha
  obtain ⟨od, J, _⟩ := J.look
  obtain ⟨m, hF⟩ := I.fr
  refine PySem.W.len_K hF I.ok.mod.kin J hs hf (wpAny_mono (run_in F hr.in1 I.env0.in1 hb hx I (show Vals [V.ref a] [Value.ref a] from .cons rfl .nil) q) (fun v s' z => ?_) fun _ _ x => x)
  obtain ⟨x, H', I', rv, n, rfl, hn, q'⟩ := z
  obtain ⟨t, rfl⟩ := (show ∃ t, v = Value.int n t from rv)
  exact ⟨⟨by omega, by omega⟩, .int n, H', I'.tok _, ⟨_, rfl⟩, q'⟩
/-- y in x, y not in x -/
def rOwnIn (C : Addr) (sp : Sp) : R2 := fun y x H Q => ∃ (a dx : Addr) (fs : List (Str × V)), x = .ref a ∧ H a = some (.ins C dx fs) ∧ sp [x, y] H (fun v H' => ∃ b, v = .bl b ∧ Q (.bl b) H') C8.E0
def rOwnNotIn (C : Addr) (sp : Sp) : R2 := fun y x H Q => ∃ (a dx : Addr) (fs : List (Str × V)), x = .ref a ∧ H a = some (.ins C dx fs) ∧ sp [x, y] H (fun v H' => ∃ b, v = .bl b ∧ Q (.bl (!b)) H') C8.E0
theorem op_ownIn (M : OwnM X.prog X.w X.K X.mg X.base CX k C "__contains__" sp) (hr : Room k X.A) (hx : NoEx CX) : OpR X (compareOp .In) (rOwnIn C sp) := by
  intro pins s σ H y x u v Q I ry rx h
  obtain ⟨a, dx, fs, rfl, ha, q⟩ := h
  cases (show v = Value.ref a from rx)
  obtain ⟨f, fd, ps, hs, hf, F, hb⟩ := M.ex
  obtain ⟨mA, J, _⟩ := ins_get I.hok ha
  obtain ⟨od, J, _⟩ := J.look
  obtain ⟨m, hF⟩ := I.fr
  refine PySem.W.in_K hF I.ok.mod.kin J hs hf (wpAny_mono (run_in F hr I.env0 hb hx I (show Vals [V.ref a, y] [Value.ref a, u] from .cons rfl (.cons ry .nil)) q) (fun v s' z => ?_) fun _ _ x => x)
  obtain ⟨x, H', I', rv, b, rfl, q'⟩ := z
  cases (show v = Value.bool b from rv)
  exact wpAny_truthy_bool ⟨.bl b, H', I', rfl, q'⟩
theorem op_ownNotIn (M : OwnM X.prog X.w X.K X.mg X.base CX k C "__contains__" sp) (hr : Room k X.A) (hx : NoEx CX) : OpR X (compareOp .NotIn) (rOwnNotIn C sp) := by
  intro pins s σ H y x u v Q I ry rx h
  obtain ⟨a, dx, fs, rfl, ha, q⟩ := h
  cases (show v = Value.ref a from rx)
  obtain ⟨f, fd, ps, hs, hf, F, hb⟩ := M.ex
  obtain ⟨mA, J, _⟩ := ins_get I.hok ha
  obtain ⟨od, J, _⟩ := J.look
  obtain ⟨m, hF⟩ := I.fr
  refine PySem.W.notIn_K hF I.ok.mod.kin J hs hf (wpAny_mono (run_in F hr I.env0 hb hx I (show Vals [V.ref a, y] [Value.ref a, u] from .cons rfl (.cons ry .nil)) q) (fun v s' z => ?_) fun _ _ x => x)
  obtain ⟨x, H', I', rv, b, rfl, q'⟩ := z
  cases (show v = Value.bool b from rv)
  exact wpAny_truthy_bool ⟨.bl (!b), H', I', rfl, q'⟩
end
/-- a method of an own class with its defaults -/
structure MetX (P : Program) (w : World) (K : PySem.W.Frag) (mg : Str → Option Value) (base : Heap) (CX : CXT) (k : Nat) (C : Addr) (m : Str) (sp : Sp) (dvs : List V) : Prop where
  ex : ∃ (f : Addr) (fd : FuncData) (ps : List Str) (ds : List Value), Cls K C ∧ Meth K C m f ∧ FnOk P w K mg base CX k f fd ps sp ∧ Binds K fd ps ds ∧ Vals dvs ds
/-- a class that may be made -/
structure MakX (P : Program) (w : World) (K : PySem.W.Frag) (mg : Str → Option Value) (base : Heap) (CX : CXT) (k : Nat) (x : Str) (C : Addr) (sp : Sp) (dvs : List V) : Prop where
  ex : ∃ (f : Addr) (fd : FuncData) (ps : List Str) (ds : List Value), Mk K C f ∧ FnOk P w K mg base CX k f fd ps sp ∧ mg x = some (.ref C) ∧ Binds K fd ps ds ∧ Vals dvs ds
/-- a def that may raise -/
structure CalX (P : Program) (w : World) (K : PySem.W.Frag) (mg : Str → Option Value) (base : Heap) (CX : CXT) (k : Nat) (x : Str) (sp : Sp) (dvs : List V) : Prop where
  ex : ∃ (f : Addr) (fd : FuncData) (ps : List Str) (ds : List Value), FnOk P w K mg base CX k f fd ps sp ∧ mg x = some (.ref f) ∧ PySem.W.keepIn K (.ref f) = true ∧ Binds K fd ps ds ∧ Vals dvs ds
section
variable {X : Cx} {CX : CXT} {k j : Nat} {C : Addr} {sp : Sp} {dvs : List V} {m x : Str} {E : L2.St → XK} {o e : Expr} {es : List Expr} {ta : TE} {t : TA} {p pos apos : Pos}
theorem run_at {pins : List (Addr × Obj)} {σ : L2.St} {H : Hp} {s : Shared} {Q : VK} {f : Addr} {fd : FuncData} {ps : List Str} {us ds : List Value} {vs : List V} (F : FnOk X.prog X.w X.K X.mg X.base CX k f fd ps sp) (hr : Room k X.A) (hb : Binds X.K fd ps ds) (hd : Vals dvs ds) (hx : PassesAt CX X σ (E σ))
    (I : Inv X pins σ H s) (r : Vals vs us) (h : sp (vs ++ dvs) H Q (E σ)) : wpAny (model X.prog X.w) X.A (call (.ref f) us) (EP X pins σ Q) X.xe s := by
  have r2 : Vals (vs ++ dvs) (us ++ ds) := r.append hd
  have hl : (us ++ ds).length = ps.length := by
    rw [← r2.length]
    exact F.len _ _ _ _ h
  refine wpAny_call (codeAny_mono (F.run X.A X.stack s H ⟨us, []⟩ (us ++ ds) (vs ++ dvs) Q (E σ) hr I.env0 (hb s us I.kIn hl) r2 h) fun r s' hq => ?_)
  cases r with
  | error e => exact hx pins H s e s' I hq
  | ok fl =>
    cases fl with
    | ret u => exact I.after hq
    | next => exact hq.elim
    | brk => exact hq.elim
    | cont => exact hq.elim
/-- o.m(e, ..) -/
def tMx (C : Addr) (m : Str) (sp : Sp) (dvs : List V) (E : L2.St → XK) (ta : TE) (t : TA) : TE := fun σ H Q => ta σ H fun x H1 => ∃ (a dx : Addr) (fs : List (Str × V)), x = .ref a ∧ H1 a = some (.ins C dx fs) ∧ fs.lookup m = none ∧ t σ H1 fun vs H2 => sp (.ref a :: (vs ++ dvs)) H2 Q (E σ)
theorem pe_mx {pl : Sem Bool} (c : MetX X.prog X.w X.K X.mg X.base CX k C m sp dvs) (hr : Room j X.A) (hk : k ≤ j) (hx : ∀ σ, PassesAt CX X σ (E σ)) (he : PE X o ta) (ha : PA X (e :: es) t)
    (hst : starEach (e :: es) X.env = (false, eval e X.env) :: starEach es X.env := by rfl) (hpl : (backTo pos (starEach es X.env)).any (·.1) = false := by rfl)
    (ht : eval (.Call (.Attribute o m apos) (e :: es) [] pos) X.env = (do
      let ov ← eval o X.env
      standAt apos.atName
      let (f, first) ← holding [ov] (getMethod ov m pl)
      callWith pos f first (backTo pos (starEach (e :: es) X.env)) (backToKw pos (keywordEach [] X.env))) := by rfl) :
    PE X (.Call (.Attribute o m apos) (e :: es) [] pos) (tMx C m sp dvs E ta t) := by
  obtain ⟨f, fd, ps, ds, cl, hm, F, b, d⟩ := c.ex
  refine ⟨fun pins s σ H Q I h => ?_⟩
  refine PySem.W.methodCall_KW (pl := pl) (thn (he.run pins s σ H _ I h) fun u s1 ⟨x, H1, I1, rx, a, dx, fs, ex, ea, l, q⟩ => ?_) ht
  subst ex
  obtain rfl : u = Value.ref a := rx
  refine getmeth_ok I1 ea cl hm l ?_
  refine PySem.W.callWith_K (first := [.ref a]) (h₀ := X.base) I.ok.mod.kin hm.kp (thn (ha.run pos pins s1 σ H1 _ I1 q) fun us s2 ⟨vs, H2, I2, r, q2⟩ => ⟨I2.kIn, ?_⟩) hst hpl
  exact run_at (us := .ref a :: us) (vs := .ref a :: vs) F (hr.mono hk) b d (hx σ) I2 (.cons rfl r) q2
theorem pe_mx0 {pl : Sem Bool} (c : MetX X.prog X.w X.K X.mg X.base CX k C m sp dvs) (hr : Room j X.A) (hk : k ≤ j) (hx : ∀ σ, PassesAt CX X σ (E σ)) (he : PE X o ta)
    (ht : eval (.Call (.Attribute o m apos) [] [] pos) X.env = (do
      let ov ← eval o X.env
      standAt apos.atName
      let (f, first) ← holding [ov] (getMethod ov m pl)
      callWith pos f first (backTo pos (starEach [] X.env)) (backToKw pos (keywordEach [] X.env))) := by rfl) :
    PE X (.Call (.Attribute o m apos) [] [] pos) (tMx C m sp dvs E ta tNil) := by
  obtain ⟨f, fd, ps, ds, cl, hm, F, b, d⟩ := c.ex
  refine ⟨fun pins s σ H Q I h => ?_⟩
  refine PySem.W.methodCall_KW (pl := pl) (thn (he.run pins s σ H _ I h) fun u s1 ⟨x, H1, I1, rx, a, dx, fs, ex, ea, l, q⟩ => ?_) ht
  subst ex
  obtain rfl : u = Value.ref a := rx
  refine getmeth_ok I1 ea cl hm l ?_
  exact PySem.W.callWith_K0 (first := [.ref a]) I1.kIn hm.kp (run_at (us := [.ref a]) (vs := [.ref a]) F (hr.mono hk) b d (hx σ) I1 (.cons rfl .nil) q)
/-- a def by its name -/
def tCx (sp : Sp) (dvs : List V) (E : L2.St → XK) (t : TA) : TE := fun σ H Q => t σ H fun vs H1 => sp (vs ++ dvs) H1 Q (E σ)
theorem pe_cx (c : CalX X.prog X.w X.K X.mg X.base CX k x sp dvs) (hr : Room j X.A) (hk : k ≤ j) (hx : ∀ σ, PassesAt CX X σ (E σ)) (hg : Gl X x) (ha : PA X (e :: es) t)
    (hdb : (x == ("__debug__" : Str)) = false := by decide) (he : starEach (e :: es) X.env = (false, eval e X.env) :: starEach es X.env := by rfl) (hpl : (backTo pos (starEach es X.env)).any (·.1) = false := by rfl) :
    PE X (.Call (.Name x p) (e :: es) [] pos) (tCx sp dvs E t) := by
  obtain ⟨f, fd, ps, ds, F, hm, kp, b, d⟩ := c.ex
  refine ⟨fun pins s σ H Q I h => ?_⟩
  refine wpAny_Call_Name_kw (ld_glob I hg hm ?_ hdb)
  refine PySem.W.callWith_K (h₀ := X.base) I.ok.mod.kin kp (thn (ha.run pos pins s σ H _ I h) fun us s1 ⟨vs, H1, I1, r, q⟩ => ⟨I1.kIn, ?_⟩) he hpl
  exact run_at F (hr.mono hk) b d (hx σ) I1 r q
end
end Fk

set_option maxHeartbeats 4000000
/-! x != y of objects of one class without an own ==: whether they are two. -/
namespace Fk
open PySem PySem.Spec PyProof.Rows L2
structure PlainEq (K : PySem.W.Frag) (C : Addr) : Prop where
  ne : PySem.W.findIn K (.ref C) "__ne__" = some (some (.builtin "object.__ne__"))
  eq : PySem.W.findIn K (.ref C) "__eq__" = some (some (.builtin "object.__eq__"))
  ob : PySem.W.mroIn K C (.type "object") = some true
def rIdNe (C : Addr) : R2 := fun x y H Q => ∃ (a b dx dy : Addr) (fs gs : List (Str × V)), x = .ref a ∧ y = .ref b ∧ H a = some (.ins C dx fs) ∧ H b = some (.ins C dy gs) ∧ Q (.bl (!decide (a = b))) H
section
variable {X : Cx} {C : Addr}
theorem idEq {pins : List (Addr × Obj)} {σ : L2.St} {H : Hp} {s : Shared} {A : Around} {E : Value → Shared → Prop} {a b dx dy : Addr} {fs gs : List (Str × V)} {Q : Option Value → Shared → Prop} (T : PlainEq X.K C) (I : Inv X pins σ H s) (ha : H a = some (.ins C dx fs)) (hb : H b = some (.ins C dy gs))
    (h : Q (some (if a = b then .bool true else .notImplemented)) s) : wpAny (model X.prog X.w) A (callSpecialIfBound? (.ref a) "__eq__" [.ref b]) Q E s := by
  obtain ⟨mA, J, _⟩ := ins_get I.hok ha
  obtain ⟨od, J, _⟩ := J.look
  obtain ⟨mB, J', _⟩ := ins_get I.hok hb
  obtain ⟨od', J', _⟩ := J'.look
  have sp : PySem.W.Looks (model X.prog X.w) s.heap (specialOf (.ref a) "__eq__") (some (.builtin "object.__eq__")) := J.type.andThen (PySem.W.looks_findIn I.kIn T.eq)
  have iv : PySem.W.Looks (model X.prog X.w) s.heap (isInstance (.ref a) (.type "object")) true := J.type.andThen (PySem.W.looks_mroIn I.kIn T.ob)
  refine NtL.csib (E := E) sp (PySem.F.cmp_object.eq.bind _) ?_
  refine wpAny_call (codeAny_call_builtin PySem.F.cmp_object.eq.plain PySem.F.cmpEntry_eq (PySem.W.check_slot PySem.F.cmpKind_eq PySem.F.cmpSplit_eq iv (PySem.F.cmpArgs_eq _ _) ?_))
  by_cases e : a = b
  · subst e
    rw [if_pos rfl] at h
    exact objEq_entry_same h
  · rw [if_neg e] at h
    exact objEq_entry_other e J.at_ J'.at_ (by rw [J.cls]; intro z; cases z) h
theorem idNe {pins : List (Addr × Obj)} {σ : L2.St} {H : Hp} {s : Shared} {A : Around} {E : Value → Shared → Prop} {a b dx dy : Addr} {fs gs : List (Str × V)} {Q : Option Value → Shared → Prop} (T : PlainEq X.K C) (hu : A.units + 1 < cLine) (I : Inv X pins σ H s) (ha : H a = some (.ins C dx fs)) (hb : H b = some (.ins C dy gs))
    (h : Q (if a = b then some (.bool false) else none) s) : wpAny (model X.prog X.w) A (tryCompare (.ref a) "__ne__" (.ref b)) Q E s := by
  obtain ⟨mA, J, _⟩ := ins_get I.hok ha
  obtain ⟨od, J, _⟩ := J.look
  have sp : PySem.W.Looks (model X.prog X.w) s.heap (specialOf (.ref a) "__ne__") (some (.builtin "object.__ne__")) := J.type.andThen (PySem.W.looks_findIn I.kIn T.ne)
  have iv : PySem.W.Looks (model X.prog X.w) s.heap (isInstance (.ref a) (.type "object")) true := J.type.andThen (PySem.W.looks_mroIn I.kIn T.ob)
  have hu' : A.in1.units < cLine := hu
  unfold tryCompare
  refine wpAny_bind (NtL.csib (E := E) sp (PySem.F.cmp_object.ne.bind _) ?_)
  refine wpAny_call (codeAny_call_builtin PySem.F.cmp_object.ne.plain PySem.F.cmpEntry_ne (PySem.W.check_slot PySem.F.cmpKind_ne PySem.F.cmpSplit_ne iv (PySem.F.cmpArgs_ne _ _) ?_))
  unfold Builtin.«object.__ne__»
  repeat (first
    | with_reducible refine wpAny_cRoomFor hu' ?_
    | (refine wpAny_bind (m := callSpecialIfBound? (.ref a) (Str.ofString "__eq__") [.ref b]) (idEq T I ha hb ?_))
    | wp_step)
  by_cases e : a = b
  · rw [if_pos e] at h ⊢
    show wpAny _ _ (truthy (.bool true) >>= _) _ _ _
    refine wpAny_bind (wpAny_truthy_bool ?_)
    exact wpAny_pure (wpAny_pure h)
  · rw [if_neg e] at h ⊢
    exact wpAny_pure (wpAny_pure h)
theorem op_idNe (T : PlainEq X.K C) (hu : X.A.units + 1 < cLine) : OpR X (compareOp .NotEq) (rIdNe C) := by
  intro pins s σ H x y v u Q I rx ry h
  obtain ⟨a, b, dx, dy, fs, gs, rfl, rfl, ha, hb, q⟩ := h
  cases (show v = Value.ref a from rx)
  cases (show u = Value.ref b from ry)
  obtain ⟨mA, J, _⟩ := ins_get I.hok ha
  obtain ⟨od, J, _⟩ := J.look
  obtain ⟨mB, J', _⟩ := ins_get I.hok hb
  obtain ⟨od', J', _⟩ := J'.look
  show wpAny (model X.prog X.w) X.A (richCompare .NotEq (.ref a) (.ref b)) (EP X pins σ Q) X.xe s
  unfold richCompare
  simp only [oneThing_ref]
  refine wpAny_holding (wpAny_bind (wpAny_cRoomFor (by omega) ?_))
  refine wpAny_bind (J.type.here (wpAny_bind (J'.type.here ?_)))
  simp only [bne_self_eq_false, Bool.false_eq_true, if_false]
  refine wpAny_bind (wpAny_pure ?_)
  simp only [Bool.false_eq_true, if_false]
  refine wpAny_bind (idNe (E := X.xe) T hu I ha hb ?_)
  by_cases e : a = b
  · rw [if_pos e]
    exact wpAny_pure ⟨.bl false, H, I, rfl, by simpa [e] using q⟩
  · rw [if_neg e]
    simp only [Bool.not_false, if_true]
    refine wpAny_bind (idNe (E := X.xe) T hu I hb ha ?_)
    rw [if_neg (fun z => e z.symm)]
    refine wpAny_bind (m := isSame (.ref a) (.ref b)) (wpAny_isSame_ref_other e J.at_ J'.at_ (by rw [J.cls]; intro z; cases z) ?_)
    exact wpAny_pure ⟨.bl true, H, I, rfl, by simpa [e] using q⟩
end
end Fk

set_option maxHeartbeats 4000000
/-! dict(d); a displayed dict of ** alone. -/
namespace Fk
open PySem PySem.Spec PyProof.Rows L2
theorem call_dictC {X : Cx} : CallR X (.type "dict") (fun xs H Q => ∃ a kvs, xs = [.ref a] ∧ Rd H a (.dK kvs) ∧ ∀ p, H p = none → Q (.ref p) (upd H p (.dK kvs))) := by
  intro pins s σ H xs us Q I r h
  obtain ⟨a, kvs, rfl, e, q⟩ := h
  obtain ⟨u, rfl, ru⟩ := vals1 r
  cases (show u = Value.ref a from ru)
  exact d_copyOf I e fun p s' hp I' => ⟨.ref p, _, I', rfl, q p hp⟩
section
variable {prog : Program} {w : World} {K : Type} [DecidableEq K] {knd : KeyKind prog w K} {A : Around} {E : Value → Shared → Prop} {s : Shared}
theorem wpAny_dictPut {d : Addr} {kvs : List (K × Value)} {k : K} {key v : Value} {Q : Unit → Shared → Prop} (hkey : knd.is k key = true) (hm : s.heap.DictOf knd d kvs)
    (hQ : ∀ h', h'.DictOf knd d (stored kvs k v) → Heap.SameBut d s.heap h' → Q () { s with heap := h' }) (hsz : kvs.length ≤ sizeLine) :
    wpAny (model prog w) A (dictPut d (knd.hash k) key v) Q E s := by
  obtain ⟨o, es, ep, ho, hc, hd, hk, hp, hn⟩ := hm
  have hes : es.size ≤ sizeLine := by
    have e1 := hp.length
    have e2 : es.toList.length = es.size := by simp
    omega
  unfold dictPut
  try with_reducible refine wpAny_holding ?_
  refine wpAny_bind (wpAny_dictFind_of hkey ho hd hk ?_)
  have hidx : (es.findIdx? fun e => knd.is k e.key) = kvs.findIdx? fun kv => decide (kv.1 = k) := by
    rw [← hp.findIdx k]; obtain ⟨l⟩ := es; simp
  cases hi : es.findIdx? fun e => knd.is k e.key with
  | some i =>
    refine (wpAny_updateDict ho hd (hQ _ ⟨_, _, ep, Heap.get?_update_self _ ho (Obj.isFreed_of_dict (Obj.data_mapDict hd _)),
      hc.mapDict _, Obj.data_mapDict hd _, hk.modify _ _, ?_, ?_⟩ (Heap.SameBut.update ..)))
    · rw [stored, if_pos (any_of_findIdx_some (hidx ▸ hi))]
      have hl : (es.toList.findIdx? fun e => knd.is k e.key) = some i := by rw [← hi]; obtain ⟨l⟩ := es; simp
      have := hp.modify hn hl v
      obtain ⟨l⟩ := es
      simpa using this
    · rw [stored, if_pos (any_of_findIdx_some (hidx ▸ hi)), keys_map_store]; exact hn
  | none =>
    have hnot : k ∉ kvs.map (·.1) := not_mem_of_findIdx_none (hidx ▸ hi)
    have hany : ¬ (kvs.any fun kv => decide (kv.1 = k)) = true := by
      rw [List.any_eq_true]; rintro ⟨kv, hkv, he⟩
      exact hnot (List.mem_map.mpr ⟨kv, hkv, of_decide_eq_true he⟩)
    refine (wpAny_updateDictKeys (hz := hes) ho hd (hQ _ ⟨_, _, ep + 1, Heap.get?_update_self _ ho (Obj.isFreed_of_dict (Obj.data_mapDictKeys hd _)),
      hc.mapDictKeys _, Obj.data_mapDictKeys hd _, hk.push hkey _, ?_, ?_⟩ (Heap.SameBut.update ..)))
    · rw [stored, if_neg hany]
      have := hp.append hkey (knd.hash k) v
      obtain ⟨l⟩ := es
      simpa using this
    · rw [stored, if_neg hany, List.map_append, List.nodup_append]
      refine ⟨hn, by simp, ?_⟩
      intro a ha b hb
      simp only [List.map_cons, List.map_nil, List.mem_singleton] at hb
      subst hb
      exact fun e => hnot (e ▸ ha)
theorem dict_iter : typeLookup (.type "dict") "__iter__" = pure (some (.builtin "dict.__iter__")) := by rw [typeLookup_type, builtinLookup_eq_fast]; kernel_rfl
theorem wpAny_mergeMapping {d o : Addr} {kvs more : List (K × Value)} {Q : Unit → Shared → Prop} (hkr : ∀ (k : K) (a : Addr), knd.is k (.ref a) = false) (hdo : d ≠ o) (hoS : (o == sysModules) = false)
    (hd : s.heap.DictOf knd d kvs) (ho : s.heap.DictOf knd o more)
    (hQ : ∀ h', h'.DictOf knd d (merged kvs more) → h'.DictOf knd o more → Heap.SameBut d s.heap h' → Q () { s with heap := h' })
    (hsz : kvs.length + more.length ≤ sizeLine) :
    wpAny (model prog w) A (mergeMapping d (.ref o) false) Q E s := by
  obtain ⟨od, esd, epd, hod, hcd, hdd, hkd, hpd, hnd⟩ := id hd
  obtain ⟨oo, eso, epo, hoo, hco, hdo', hko, hpo, hno⟩ := id ho
  have hlen : more.length = eso.size := by rw [← hpo.length]; simp
  have loop : wpAny (model prog w) A (do
      let epoch ← dictEpoch o
      forIn (List.range eso.size) PUnit.unit fun i (_ : PUnit) => (do
          let l' ← dictEntries o
          match l'[i]? with
            | some e => do
              holding [e.key, e.val] (dictPut d e.hash e.key e.val)
              let ep' ← dictEpoch o
              if (ep' != epoch) = true then do
                  (unsupported "dict.changed-during-merge" : Sem PUnit)
                  pure (ForInStep.yield PUnit.unit)
                else pure (ForInStep.yield PUnit.unit)
            | _ => do
              (unsupported "dict.changed-during-merge" : Sem PUnit)
              pure (ForInStep.yield PUnit.unit) : Sem (ForInStep PUnit))
      pure ()) Q E s := by
    refine wpAny_bind (wpAny_dictEpoch hoo hdo' ?_)
    refine wpAny_bind ?_
    refine wpAny_forIn_list _
      (fun rest _ s' => ∃ h' i, s' = { s with heap := h' } ∧ rest = (List.range eso.size).drop i ∧ i ≤ eso.size ∧ h'.DictOf knd d (merged kvs (more.take i)) ∧ h'.get? o = some oo ∧ Heap.SameBut d s.heap h')
      _ ?_ ?_ _ _ ⟨s.heap, 0, rfl, rfl, Nat.zero_le _, by simpa [merged] using hd, hoo, Heap.SameBut.refl _ _⟩
    · rintro x rest b s' ⟨h', i, rfl, hr, hi, hd', hoo', hs'⟩
      have hlt : i < eso.size := by
        rcases Nat.lt_or_ge i eso.size with h | h
        · exact h
        · rw [List.drop_of_length_le (by rw [List.length_range]; exact h)] at hr; cases hr
      have hlt' : i < (List.range eso.size).length := by rw [List.length_range]; exact hlt
      rw [List.drop_eq_getElem_cons hlt', List.getElem_range] at hr
      injection hr with h1 hrest
      subst h1
      refine wpAny_bind (wpAny_dictEntries hoo' hdo' ?_)
      rw [Array.getElem?_eq_getElem hlt]
      obtain ⟨kv, hkv⟩ : ∃ kv, more[x]? = some kv := ⟨more[x]'(by rw [hlen]; exact hlt), List.getElem?_eq_getElem _⟩
      obtain ⟨k, v⟩ := kv
      obtain ⟨hkey, hval⟩ := hpo.get? (e := eso[x]) (by simp [hlt]) hkv
      obtain ⟨k', hkey', hhash⟩ := hko eso[x] (Array.getElem_mem hlt)
      obtain rfl : k' = k := knd.inj _ _ _ hkey' hkey
      show wpAny _ _ (holding [eso[x].key, eso[x].val] (dictPut d eso[x].hash eso[x].key eso[x].val) >>= _) _ _ _
      rw [hhash, hval]
      have hmx : (merged kvs (more.take x)).length ≤ sizeLine := by
        have e1 := merged_length_le kvs (more.take x)
        have e2 : (more.take x).length ≤ more.length := by rw [List.length_take]; omega
        omega
      refine wpAny_bind (wpAny_holding (wpAny_dictPut (hsz := hmx) hkey hd' fun h'' hd'' hs'' => ?_))
      have hoo'' : h''.get? o = some oo := (hs''.2 o (Ne.symm hdo)).trans hoo'
      refine wpAny_bind (wpAny_dictEpoch hoo'' hdo' ?_)
      rw [if_neg (by simp)]
      exact wpAny_pure ⟨h'', x + 1, rfl, hrest, hlt, by rw [merged_take_succ kvs more x (k', v) hkv]; exact hd'', hoo'', hs'.trans hs''⟩
    · rintro b s' ⟨h', i, rfl, hr, hi, hd', hoo', hs'⟩
      have hin : i = eso.size := by
        rcases Nat.lt_or_ge i eso.size with h | h
        · have hlt' : i < (List.range eso.size).length := by rw [List.length_range]; exact h
          rw [List.drop_eq_getElem_cons hlt'] at hr; exact nomatch hr
        · exact Nat.le_antisymm hi h
      refine wpAny_pure (hQ h' ?_ ⟨oo, eso, epo, hoo', hco, hdo', hko, hpo, hno⟩ hs')
      rw [hin, ← hlen, List.take_length] at hd'; exact hd'
  have loop2 : wpAny (model prog w) A (dictEntries o >>= fun l => (do
      let epoch ← dictEpoch o
      forIn (List.range l.size) PUnit.unit fun i (_ : PUnit) => (do
          let l' ← dictEntries o
          match l'[i]? with
            | some e => do
              holding [e.key, e.val] (dictPut d e.hash e.key e.val)
              let ep' ← dictEpoch o
              if (ep' != epoch) = true then do
                  (unsupported "dict.changed-during-merge" : Sem PUnit)
                  pure (ForInStep.yield PUnit.unit)
                else pure (ForInStep.yield PUnit.unit)
            | _ => do
              (unsupported "dict.changed-during-merge" : Sem PUnit)
              pure (ForInStep.yield PUnit.unit) : Sem (ForInStep PUnit))
      pure ())) Q E s := wpAny_bind (wpAny_dictEntries hoo hdo' loop)
  unfold mergeMapping
  refine wpAny_bind (m := isInstance (.ref o) (.type "dict")) (wpAny_isInstance ho.typeIs isSubtype_dict_dict ?_)
  simp only [if_true]
  refine wpAny_bind (m := specialOf (.ref o) "__iter__") (wpAny_specialOf ho.typeIs dict_iter ?_)
  rw [show ((some (Value.builtin "dict.__iter__") == some (Value.builtin "dict.__iter__")) = true) from beq_self_eq_true _]
  first | rw [if_neg (by rw [hoS]; exact Bool.false_ne_true)] | (refine wpAny_ite ?_; rw [if_neg (by rw [hoS]; exact Bool.false_ne_true)]) | (refine wpAny_pure ?_; rw [if_neg (by rw [hoS]; exact Bool.false_ne_true)])
  refine wpAny_bind (wpAny_dictEntries hod hdd ?_)
  split
  · refine wpAny_bind (wpAny_dictEntries hoo hdo' ?_)
    refine wpAny_bind ?_
    rw [← Array.forIn_toList]
    refine wpAny_forIn_list _ (fun rest _ s' => s' = s ∧ ∀ e ∈ rest, e ∈ eso.toList) _ ?_ ?_ _ _ ⟨rfl, fun e he => he⟩
    · rintro e rest b s' ⟨rfl, hr⟩
      obtain ⟨k, hk, _⟩ := hko e (Array.mem_toList_iff.mp (hr e List.mem_cons_self))
      have hrest : ∀ e' ∈ rest, e' ∈ eso.toList := fun e' he' => hr e' (List.mem_cons_of_mem _ he')
      cases hkey : e.key with
      | ref a =>
        rw [hkey, hkr] at hk
        cases hk
      | _ => exact wpAny_pure ⟨rfl, hrest⟩
    · rintro b s' ⟨rfl, _⟩
      exact loop2
  · exact loop2
end
end Fk

set_option maxHeartbeats 4000000
namespace Fk
open PySem PySem.Spec PyProof.Rows L2
section
variable {prog : Program} {w : World} {K : Type} [DecidableEq K] {knd : KeyKind prog w K} {A : Around} {E : Value → Shared → Prop} {s : Shared} {Q : Value → Shared → Prop}
theorem wp_stars {items : List (Option (Sem Value) × Sem Value)} (hkr : ∀ (k : K) (a : Addr), knd.is k (.ref a) = false) (hn : ∀ x ∈ items, x.1 = none) (hne : items ≠ []) (R : List (Option (Sem Value) × Sem Value) → Addr → Shared → Prop)
    (h0 : R items s.heap.objs.size { s with heap := s.heap.push { cls := .type "dict", data := .dict #[] } })
    (hs : ∀ x rest p s1, R (x :: rest) p s1 → wpAny (model prog w) A x.2 (fun m s2 => ∃ (a : Addr) (kvs more : List (K × Value)), m = .ref a ∧ p ≠ a ∧ (a == sysModules) = false ∧ s2.heap.DictOf knd p kvs ∧ s2.heap.DictOf knd a more ∧ kvs.length + more.length ≤ sizeLine ∧
      ∀ h', h'.DictOf knd p (merged kvs more) → h'.DictOf knd a more → Heap.SameBut p s2.heap h' → R rest p { s2 with heap := h' }) E s1)
    (hd : ∀ p s1, R [] p s1 → Q (.ref p) s1) : wpAny (model prog w) A (dictDisplay items) Q E s := by
  unfold dictDisplay
  dsimp only
  have turn : ∀ (x : Option (Sem Value) × Sem Value) (rest : List (Option (Sem Value) × Sem Value)) (p : Addr) (s1 : Shared) {Q' : ForInStep (Option Addr × List (Sem Value × Sem Value)) → Shared → Prop}, R (x :: rest) p s1 → (∀ s2, R rest p s2 → Q' (.yield (some p, [])) s2) →
      wpAny (model prog w) A (do
        let m ← holding [Value.ref p] x.2
        (((holding [Value.ref p, m] (mergeMapping p m false)).onRaise fun y => do
                    let _ ← holding [Value.ref p, m, y] (runValue (Code.builtin "proto.let_go" { }))
                    pure ()).tryCatch
                fun e => do
                let b ← isInstance e (Value.type "AttributeError")
                if b = true then do
                    rule "dict.display.not-a-mapping"
                    let n ← typeNameOf m
                    raiseErrorMade "TypeError"
                        (toString "'" ++ toString n ++ toString "' object is not a mapping")
                    throw e
                  else throw e).onRaise
            fun y => do
            let _ ← holding [Value.ref p, y] (runValue (Code.builtin "proto.let_go" { }))
            pure ()
        pure (ForInStep.yield (some p, ([] : List (Sem Value × Sem Value))))) Q' E s1 := by
    intro x rest p s1 Q' hr hq
    refine wpAny_bind (wpAny_holding (wpAny_mono (hs x rest p s1 hr) (fun m s2 q => ?_) fun _ _ e => e))
    obtain ⟨a, kvs, more, rfl, hpa, hoS, dp, da, hz, k⟩ := q
    refine wpAny_bind (wpAny_onRaise (wpAny_tryCatch (wpAny_onRaise (wpAny_holding (wpAny_mergeMapping hkr hpa hoS dp da (fun h' d1 d2 sb => ?_) hz)))))
    exact wpAny_pure (hq _ (k h' d1 d2 sb))
  refine wpAny_bind ?_
  refine wpAny_forIn_list _ (fun rest b s' => b.2 = [] ∧ (∀ x ∈ rest, x.1 = none) ∧ ((b.1 = none ∧ s' = s ∧ rest = items) ∨ ∃ p, b.1 = some p ∧ R rest p s')) _ ?_ ?_ _ _ ⟨rfl, hn, .inl ⟨rfl, rfl, rfl⟩⟩
  · rintro ⟨k, v⟩ rest ⟨main, run⟩ s' ⟨hb, hk, h⟩
    have hk0 : k = none := hk (k, v) List.mem_cons_self
    have hkr' : ∀ x ∈ rest, x.1 = none := fun x hx => hk x (List.mem_cons_of_mem _ hx)
    subst hk0
    dsimp only at hb h
    subst hb
    rcases h with ⟨rfl, rfl, rfl⟩ | ⟨p, rfl, hr⟩
    · refine wpAny_bind (wpAny_pure ?_)
      dsimp only
      refine wpAny_bind (wpAny_alloc ?_)
      exact turn (none, v) rest _ _ h0 fun s2 q => ⟨rfl, hkr', .inr ⟨_, rfl, q⟩⟩
    · refine wpAny_bind (wpAny_pure ?_)
      dsimp only
      refine wpAny_bind (wpAny_pure ?_)
      exact turn (none, v) rest p s' hr fun s2 q => ⟨rfl, hkr', .inr ⟨_, rfl, q⟩⟩
  · rintro ⟨main, run⟩ s' ⟨hb, _, h⟩
    dsimp only at hb h
    subst hb
    rcases h with ⟨_, _, e⟩ | ⟨p, rfl, hr⟩
    · exact (hne e.symm).elim
    · refine wpAny_bind (wpAny_pure ?_)
      exact wpAny_pure (hd p s' hr)
end
/-- the dict at p takes the dicts in turn -/
def goStars : List TE → Addr → TE
  | [], p => fun _ H Q => Q (.ref p) H
  | t :: ts, p => fun σ H Q => t σ H fun x H1 => ∃ (a : Addr) (kvs more : List (Key × V)), x = .ref a ∧ p ≠ a ∧ H1 p = some (.dK kvs) ∧ H1 a = some (.dK more) ∧ kvs.length + more.length ≤ sizeLine ∧ goStars ts p σ (upd H1 p (.dK (mergeK kvs more))) Q
def tStars (ts : List TE) : TE := fun σ H Q => ∀ p, H p = none → goStars ts p σ (upd H p (.dK [])) Q
theorem mix_noref {P : Program} {w : World} (k : Key) (a : Addr) : (mixKind P w).is k (.ref a) = false := by
  cases k <;> rfl
/-- {**e1, **e2, ..} -/
inductive StE (X : Cx) : List Expr → List TE → Prop where
  | nil : StE X [] []
  | cons {e : Expr} {es : List Expr} {t : TE} {ts : List TE} (h : PE X e t) (hs : StE X es ts) : StE X (e :: es) (t :: ts)
theorem pe_stars {X : Cx} {keys : List (Option Expr)} {values : List Expr} {pos : Pos} {ts : List TE} (h : StE X values ts) (hv : values ≠ []) (hk : keys = values.map fun _ => none) : PE X (.Dict keys values pos) (tStars ts) := by
  refine ⟨fun pins s σ H Q I q => ?_⟩
  have hn := I.hok.fresh (Nat.le_refl s.heap.objs.size)
  have I1 := I.laid (a := s.heap.objs.size) (o := .dK []) (h' := s.heap.push { cls := .type "dict", data := .dict #[] }) (t' := s.toks) (fun _ _ q => Heap.get?_push_of_some _ q) (Nat.le_refl _) (dk_empty s.heap I.big)
  rw [arm_eval_Dict]
  subst hk
  refine wpAny_bind (wpAny_standAt ?_)
  have hz : ∀ vs : List Expr, (evalEachOpt (vs.map fun _ => (none : Option Expr)) X.env).zip ((evalEach vs X.env).map fun v => do let x ← v; standAt pos; pure x) = vs.map fun e => ((none : Option (Sem Value)), (do let x ← eval e X.env; standAt pos; pure x : Sem Value)) := by
    intro vs
    induction vs with
    | nil => rfl
    | cons e r ih =>
      show ((none : Option (Sem Value)), (do let x ← eval e X.env; standAt pos; pure x : Sem Value)) :: _ = _
      rw [List.map_cons]
      congr 1
  rw [hz]
  refine wp_stars (knd := mixKind X.prog X.w) mix_noref (fun x hx => ?_) ?_ (fun rest p s' => ∃ es us H', rest = es.map (fun e => ((none : Option (Sem Value)), (do let x ← eval e X.env; standAt pos; pure x : Sem Value))) ∧ StE X es us ∧ Inv X pins σ H' s' ∧ goStars us p σ H' Q) ⟨values, ts, _, rfl, h, I1, q _ hn⟩ ?_ ?_
  · obtain ⟨e, _, rfl⟩ := List.mem_map.mp hx
    rfl
  · intro z
    exact hv (List.map_eq_nil_iff.mp z)
  · rintro x rest p s1 ⟨es, us, H', er, hs, I', g⟩
    cases hs with
    | nil => cases er
    | @cons e es t us he hs =>
      rw [List.map_cons] at er
      injection er with e1 e2
      subst e1
      subst e2
      refine wpAny_bind (wpAny_mono (he.run pins s1 σ H' _ I' g) (fun v s2 z => ?_) fun _ _ x => x)
      obtain ⟨y, H2, I2, ry, a, kvs, more, rfl, hpa, hp, ha, hz2, g2⟩ := z
      cases (show v = Value.ref a from ry)
      refine wpAny_bind (wpAny_standAt (wpAny_pure ?_))
      obtain ⟨z1, hd1, vs1, r1, d1⟩ := dk_of I2.hok hp
      obtain ⟨z2, hd2, vs2, r2, d2⟩ := dk_of I2.hok ha
      refine ⟨a, vs1, vs2, rfl, hpa, hd2, d1, d2, by rw [← r1.length, ← r2.length]; exact hz2, fun h' e1 e2 sb => ⟨es, us, _, rfl, hs, ?_, g2⟩⟩
      have he : ∃ q, h'.get? p = some q := let ⟨q, _, _, hq, _⟩ := e1; ⟨q, hq⟩
      refine d_write I2 (by rw [hp]; exact True.intro) sb he (dk_new ?_ hd1 (r2.merge r1) e1)
      have := length_mergeK more kvs
      omega
  · rintro p s1 ⟨es, us, H', er, hs, I', g⟩
    cases hs with
    | nil => exact ⟨.ref p, H', I', rfl, g⟩
    | cons => cases er
end Fk

set_option maxHeartbeats 4000000
/-! dicts of data: what they hold, == and != of them; repr. -/
namespace Fk
open PySem PySem.Spec PyProof.Rows L2
/-- a dict's entries are these data -/
def DD (K : PySem.W.Frag) (H : Hp) (kvs : List (Key × V)) (ds : List (Key × PyData)) : Prop := Paired (fun p q => p.1 = q.1 ∧ Dp K H p.2 q.2) kvs ds
def DatAt (K : PySem.W.Frag) (H : Hp) (a : Addr) (ds : List (Key × PyData)) : Prop := ∃ kvs, H a = some (.dK kvs) ∧ DD K H kvs ds
def valD (ds : List (Key × PyData)) (k : Key) : Option PyData := (ds.find? fun p => decide (p.1 = k)).map (·.2)
theorem valD_pos {p : Key × PyData} {r : List (Key × PyData)} {k : Key} (e : p.1 = k) : valD (p :: r) k = some p.2 := by simp [valD, List.find?_cons, e]
theorem valD_neg {p : Key × PyData} {r : List (Key × PyData)} {k : Key} (e : ¬ p.1 = k) : valD (p :: r) k = valD r k := by simp [valD, List.find?_cons, e]
def hitD (es : List (Key × PyData)) (p : Key × PyData) : Bool := match valD es p.1 with
  | none => false
  | some e => PyData.eqv p.2 e
def eqvDict (ds es : List (Key × PyData)) : Bool := decide (ds.length = es.length) && ds.all (hitD es)
def shapedAll (ds : List (Key × PyData)) : Prop := ∀ p ∈ ds, SeqAt.shaped p.2 = true
theorem DD.val {K : PySem.W.Frag} {H : Hp} {kvs : List (Key × V)} {ds : List (Key × PyData)} (h : DD K H kvs ds) (k : Key) : (valV kvs k = none ∧ valD ds k = none) ∨ ∃ v d, valV kvs k = some v ∧ valD ds k = some d ∧ Dp K H v d := by
  unfold DD at h
  induction h with
  | nil => exact .inl ⟨rfl, rfl⟩
  | @cons p q ps qs h t ih =>
    obtain ⟨h1, h2⟩ := h
    by_cases e : p.1 = k
    · exact .inr ⟨p.2, q.2, valV_pos e, valD_pos (h1 ▸ e), h2⟩
    · rw [valV_neg e, valD_neg (h1 ▸ e)]
      exact ih
theorem DD.len {K : PySem.W.Frag} {H : Hp} {kvs : List (Key × V)} {ds : List (Key × PyData)} (h : DD K H kvs ds) : kvs.length = ds.length := Paired.length h
mutual
theorem dp_same {K : PySem.W.Frag} {H H' : Hp} (f : Same H H') : ∀ {v : V} {d : PyData}, Dp K H v d → Dp K H' v d
  | _, _, .non => .non
  | _, _, .bl b => .bl b
  | _, _, .int i => .int i
  | _, _, .str x => .str x
  | _, _, .lst hs ha => .lst (by
      rcases hs with (h | ⟨o, h⟩) | h
      · exact .inl (.inl (f _ _ h))
      · exact .inl (.inr ⟨o, f _ _ h⟩)
      · exact .inr h) (dpAll_same f ha)
  | _, _, .tup hs ha => .tup (by
      rcases hs with (h | ⟨o, h⟩) | h
      · exact .inl (.inl (f _ _ h))
      · exact .inl (.inr ⟨o, f _ _ h⟩)
      · exact .inr h) (dpAll_same f ha)
theorem dpAll_same {K : PySem.W.Frag} {H H' : Hp} (f : Same H H') : ∀ {vs : List V} {ds : List PyData}, DpAll K H vs ds → DpAll K H' vs ds
  | _, _, .nil => .nil
  | _, _, .cons h t => .cons (dp_same f h) (dpAll_same f t)
end
theorem DD.same {K : PySem.W.Frag} {H H' : Hp} {kvs : List (Key × V)} {ds : List (Key × PyData)} (h : DD K H kvs ds) (f : Same H H') : DD K H' kvs ds := by
  unfold DD at h ⊢
  induction h with
  | nil => exact .nil
  | cons h t ih => exact .cons ⟨h.1, dp_same f h.2⟩ ih
theorem DatAt.same {K : PySem.W.Frag} {H H' : Hp} {a : Addr} {ds : List (Key × PyData)} (h : DatAt K H a ds) (f : Same H H') : DatAt K H' a ds := by
  obtain ⟨kvs, e, d⟩ := h
  exact ⟨kvs, f _ _ e, d.same f⟩
theorem room66 {k : Nat} {A : Around} (r : Room k A) : A.units + 66 < cLine := by
  have := r.un
  omega
section
variable {X : Cx}
theorem hits_data {pins : List (Addr × Obj)} {σ : L2.St} {H : Hp} {s : Shared} {A : Around} (I : Inv X pins σ H s) (hu : A.units + 64 < cLine) {ls : List (Key × V)} {es : List (Key × PyData)} {vb : List (Key × Value)} (rb : KV ls vb) (hb : DD X.K H ls es) (se : shapedAll es) {ks : List (Key × V)} {ds : List (Key × PyData)} {va : List (Key × Value)}
    (ra : KV ks va) (hd : DD X.K H ks ds) (sd : shapedAll ds) : PySem.W.KeqHits A s vb va (ds.all (hitD es)) := by
  unfold KV at ra
  unfold DD at hd
  induction ra generalizing ds with
  | nil =>
    cases hd
    exact .nil
  | @cons p q ps qs h t ih =>
    cases hd with
    | @cons _ d _ ds hd1 hds =>
      obtain ⟨h1, h2⟩ := h
      obtain ⟨e1, e2⟩ := hd1
      obtain ⟨key, v⟩ := q
      have h1' : p.1 = key := h1
      have tl := ih hds (fun x hx => sd x (List.mem_cons_of_mem _ hx))
      rw [List.all_cons]
      rcases hb.val key with ⟨n1, n2⟩ | ⟨y, e, v1, v2, dy⟩
      · have : hitD es d = false := by
          unfold hitD
          rw [← e1, h1', n2]
        rw [this, Bool.false_and]
        refine .miss ?_
        have rr : RelO none (valueAt vb key) := by rw [← n1]; exact rb.val key
        cases z : valueAt vb key with
        | none => rfl
        | some u =>
          rw [z] at rr
          cases rr
      · have : hitD es d = PyData.eqv d.2 e := by
          unfold hitD
          rw [← e1, h1', v2]
        rw [this]
        have rr : RelO (some y) (valueAt vb key) := by rw [← v1]; exact rb.val key
        obtain ⟨u, hy, ry⟩ := rr.some_of
        obtain ⟨as, r1⟩ := Dp.reads I d.2 p.2 v e2 h2
        obtain ⟨bs, r2⟩ := Dp.reads I e y u dy ry
        have s1 := sd d List.mem_cons_self
        have s2 : SeqAt.shaped e = true := by
          unfold valD at v2
          cases z : es.find? (fun p => decide (p.1 = key)) with
          | none => rw [z] at v2; cases v2
          | some w =>
            rw [z] at v2
            cases v2
            exact se _ (List.mem_of_find?_eq_some z)
        exact .hit hy (SeqAt.eqAt_reads d.2 e A s v u as bs r1 r2 (SeqAt.canLay_of_shaped s1) (SeqAt.canLay_of_shaped s2) (SeqAt.room_of_shaped s1 hu)) tl
/-- d == e of dicts of data -/
def rEqDD (K : PySem.W.Frag) : R2 := fun x y H Q => ∃ a b ds es, x = .ref a ∧ y = .ref b ∧ DatAt K H a ds ∧ DatAt K H b es ∧ shapedAll ds ∧ shapedAll es ∧ Q (.bl (eqvDict ds es)) H
def rNeDD (K : PySem.W.Frag) : R2 := fun x y H Q => ∃ a b ds es, x = .ref a ∧ y = .ref b ∧ DatAt K H a ds ∧ DatAt K H b es ∧ shapedAll ds ∧ shapedAll es ∧ Q (.bl (!eqvDict ds es)) H
theorem op_eqDD (hu : X.A.units + 66 < cLine) : OpR X (compareOp .Eq) (rEqDD X.K) := by
  intro pins s σ H x y v u Q I rx ry h
  obtain ⟨a, b, ds, es, rfl, rfl, ⟨ks, ea, da⟩, ⟨ls, eb, db⟩, sd, se, q⟩ := h
  obtain rfl : v = Value.ref a := rx
  obtain rfl : u = Value.ref b := ry
  obtain ⟨_, ya, va, ra, dda⟩ := (show ObjOk X.prog X.w H s.heap a (.dK ks) from I.hok a _ ea)
  obtain ⟨_, yb, vb, rb, ddb⟩ := (show ObjOk X.prog X.w H s.heap b (.dK ls) from I.hok b _ eb)
  have e : (va.length == vb.length && ds.all (hitD es)) = eqvDict ds es := by
    unfold eqvDict
    rw [← ra.length, ← rb.length, da.len, db.len]
    rfl
  refine PySem.W.keq_eq (knd := mixKind X.prog X.w) (r := ds.all (hitD es)) ya yb dda ddb (by omega) (fun _ => hits_data I ?_ rb db se ra da sd) ?_
  · show X.A.units + 1 + 64 < cLine
    omega
  · rw [e]
    exact ⟨.bl _, H, I, rfl, q⟩
theorem op_neDD (hu : X.A.units + 66 < cLine) : OpR X (compareOp .NotEq) (rNeDD X.K) := by
  intro pins s σ H x y v u Q I rx ry h
  obtain ⟨a, b, ds, es, rfl, rfl, ⟨ks, ea, da⟩, ⟨ls, eb, db⟩, sd, se, q⟩ := h
  obtain rfl : v = Value.ref a := rx
  obtain rfl : u = Value.ref b := ry
  obtain ⟨_, ya, va, ra, dda⟩ := (show ObjOk X.prog X.w H s.heap a (.dK ks) from I.hok a _ ea)
  obtain ⟨_, yb, vb, rb, ddb⟩ := (show ObjOk X.prog X.w H s.heap b (.dK ls) from I.hok b _ eb)
  have e : (va.length == vb.length && ds.all (hitD es)) = eqvDict ds es := by
    unfold eqvDict
    rw [← ra.length, ← rb.length, da.len, db.len]
    rfl
  refine PySem.W.keq_ne (knd := mixKind X.prog X.w) (r := ds.all (hitD es)) ya yb dda ddb (by omega) (fun _ => hits_data I ?_ rb db se ra da sd) ?_
  · show X.A.units + 1 + 64 < cLine
    omega
  · rw [e]
    exact ⟨.bl _, H, I, rfl, q⟩
end
end Fk

set_option maxHeartbeats 4000000
/-! Walks and comprehensions by an invariant, over lists, tuples, dicts; a raise within a locked walk; frames. -/
namespace Fk
open PySem PySem.Spec PyProof.Rows L2
/-! ### frames -/
/-- all that was tracked is as it was, but what stands at L -/
def FrL (L : List Addr) (H H' : Hp) : Prop := ∀ b o, b ∉ L → H b = some o → H' b = some o
theorem FrL.refl (L : List Addr) (H : Hp) : FrL L H H := fun _ _ _ h => h
theorem FrL.trans {L : List Addr} {H H1 H2 : Hp} (x : FrL L H H1) (y : FrL L H1 H2) : FrL L H H2 := fun b o n h => y b o n (x b o n h)
theorem FrL.mono {L M : List Addr} {H H' : Hp} (x : FrL L H H') (h : ∀ a ∈ L, a ∈ M) : FrL M H H' := fun b o n e => x b o (fun z => n (h b z)) e
theorem FrL.at {L : List Addr} {a : Addr} {H : Hp} {o : HO} (h : a ∈ L) : FrL L H (upd H a o) := fun b u n e => by
  have z : b ≠ a := fun z => n (by rw [z]; exact h)
  rw [upd_ne z]
  exact e
theorem FrL.same {L : List Addr} {H H' : Hp} (h : Same H H') : FrL L H H' := fun b o _ e => h b o e
theorem FrL.to {H H' : Hp} (h : FrL [] H H') : Same H H' := fun b o e => h b o (fun z => nomatch z) e
theorem FrL.of {a : Addr} {H H' : Hp} (h : Fr a H H') : FrL [a] H H' := fun b o n e => h b o (fun z => n (z ▸ List.mem_singleton_self a)) e
theorem FrL.new {L : List Addr} {p : Addr} {H : Hp} {o : HO} (h : H p = none) : FrL L H (upd H p o) := FrL.same (same_new h)
/-! ### what is yielded -/
theorem yields_keys {d : Addr} {o : Obj} {kvs : List (Key × V)} : Yields (Itk d o kvs) (kvs.map fun p => kV p.1) (fun H => H d = some (.frz o (.dK kvs))) where
  go := fun k H g h => ⟨g, by rw [List.length_map] at h; exact h⟩
  stop := fun H g => ⟨g, by rw [List.length_map]; exact Nat.le_refl _⟩
  yld := fun k H x H' _ g h => by
    obtain ⟨e, key, v, hk, hx⟩ := h
    refine ⟨e, ?_⟩
    rw [List.getElem?_map, hk, hx]
    rfl
theorem yields_tup {K : PySem.W.Frag} {a : Addr} {xs : List V} : Yields (Itt K a) xs (fun H => SqT K H a xs) where
  go := fun k H g h => ⟨xs, xs[k], g, List.getElem?_eq_getElem h⟩
  stop := fun H g => ⟨xs, g, Nat.le_refl _⟩
  yld := fun k H x H' _ g h => ⟨h.1, h.2 xs g⟩
/-! ### comprehensions -/
theorem lcG {J : It} {items : List V} {G : Hp → Prop} {H1 : Hp} {D : Addr} {σ : L2.St} {vs : List Nat} {g : TG} {tt : TT} {te : TE} {Q : Hp → Prop} (Y : Yields J items G) (I : Nat → List V → Hp → Prop)
    (hG : ∀ k acc H, I k acc H → H D = some (.lst acc) → G H) (h0 : I 0 [] (upd H1 D (.lst [])))
    (hs : ∀ k acc H x, I k acc H → H D = some (.lst acc) → items[k]? = some x → acc.length ≤ k → k < 1000000 → g x (wipe σ vs) H fun σ2 H2 => wipe σ2 vs = wipe σ vs ∧ tt σ2 H2 fun b H3 =>
      if b = true then te σ2 H3 fun y H4 => ∃ acc, H4 D = some (.lst acc) ∧ acc.length < sizeLine ∧ LcN I D (k + 1) (upd H4 D (.lst (acc ++ [y]))) else LcN I D (k + 1) H3)
    (hl : items.length ≤ 1000000) (hd : ∀ acc H, I items.length acc H → H D = some (.lst acc) → acc.length ≤ items.length → Q H) :
    ∃ W : Nat → Nat → Hp → Prop, (∃ m, W 0 m (upd H1 D (.lst []))) ∧ ∀ k m H, W k m H →
      (J.stop k H ∧ Q H) ∨ (J.go k H ∧ ∃ Nx : Hp → Prop, (∀ H', Nx H' → ∃ m', m' < m ∧ W (k + 1) m' H') ∧ ∀ x H', J.yld k H x H' → g x (wipe σ vs) H' fun σ2 H2 => wipe σ2 vs = wipe σ vs ∧ tt σ2 H2 fun b H3 =>
        if b = true then te σ2 H3 fun y H4 => ∃ acc, H4 D = some (.lst acc) ∧ acc.length < sizeLine ∧ Nx (upd H4 D (.lst (acc ++ [y]))) else Nx H3) := by
  refine ⟨fun k m H => m = items.length - k ∧ k ≤ items.length ∧ LcN I D k H, ⟨items.length, by omega, Nat.zero_le _, [], upd_same, Nat.zero_le _, h0⟩, ?_⟩
  rintro k m H ⟨rfl, hk, acc, hD, hacc, hI⟩
  by_cases hlt : k < items.length
  · refine .inr ⟨Y.go k H (hG _ _ _ hI hD) hlt, LcN I D (k + 1), fun H' q => ⟨items.length - (k + 1), by omega, rfl, hlt, q⟩, fun x H' y => ?_⟩
    obtain ⟨rfl, hx⟩ := Y.yld k H x H' hlt (hG _ _ _ hI hD) y
    exact hs k acc _ x hI hD hx hacc (by omega)
  · have e : k = items.length := by omega
    subst e
    exact .inl ⟨Y.stop H (hG _ _ _ hI hD), hd acc H hI hD hacc⟩
/-- behind k turns of a dict's comprehension -/
def DcN (I : Nat → List (Key × V) → Hp → Prop) (D : Addr) (k : Nat) (H : Hp) : Prop := ∃ kvs, H D = some (.dK kvs) ∧ kvs.length ≤ k ∧ I k kvs H
theorem dc_take {I : Nat → List (Key × V) → Hp → Prop} {D : Addr} {k : Nat} {H5 : Hp} {key : Key} {z : V} {kvs : List (Key × V)} (h : H5 D = some (.dK kvs)) (l : kvs.length ≤ k) (hk : k < 1000000) (q : I (k + 1) (putK kvs key z) (upd H5 D (.dK (putK kvs key z)))) :
    ∃ kvs k', (kV key) = kV k' ∧ H5 D = some (.dK kvs) ∧ kvs.length < sizeLine ∧ DcN I D (k + 1) (upd H5 D (.dK (putK kvs k' z))) :=
  ⟨kvs, key, rfl, h, small_lt (by omega), _, upd_same, by have := length_putK kvs key z; omega, q⟩
theorem dc_skip {I : Nat → List (Key × V) → Hp → Prop} {D : Addr} {k : Nat} {H5 : Hp} {kvs : List (Key × V)} (h : H5 D = some (.dK kvs)) (l : kvs.length ≤ k) (q : I (k + 1) kvs H5) : DcN I D (k + 1) H5 := ⟨kvs, h, by omega, q⟩
theorem dcG {J : It} {items : List V} {G : Hp → Prop} {H1 : Hp} {D : Addr} {σ : L2.St} {vs : List Nat} {g : TG} {tt : TT} {tk tv : TE} {Q : Hp → Prop} (Y : Yields J items G) (I : Nat → List (Key × V) → Hp → Prop)
    (hG : ∀ k kvs H, I k kvs H → H D = some (.dK kvs) → G H) (h0 : I 0 [] (upd H1 D (.dK [])))
    (hs : ∀ k kvs H x, I k kvs H → H D = some (.dK kvs) → items[k]? = some x → kvs.length ≤ k → k < 1000000 → g x (wipe σ vs) H fun σ2 H2 => wipe σ2 vs = wipe σ vs ∧ tt σ2 H2 fun b H3 =>
      if b = true then tk σ2 H3 fun y H4 => tv σ2 H4 fun z H5 => ∃ kvs key, y = kV key ∧ H5 D = some (.dK kvs) ∧ kvs.length < sizeLine ∧ DcN I D (k + 1) (upd H5 D (.dK (putK kvs key z))) else DcN I D (k + 1) H3)
    (hl : items.length ≤ 1000000) (hd : ∀ kvs H, I items.length kvs H → H D = some (.dK kvs) → kvs.length ≤ items.length → Q H) :
    ∃ W : Nat → Nat → Hp → Prop, (∃ m, W 0 m (upd H1 D (.dK []))) ∧ ∀ k m H, W k m H →
      (J.stop k H ∧ Q H) ∨ (J.go k H ∧ ∃ Nx : Hp → Prop, (∀ H', Nx H' → ∃ m', m' < m ∧ W (k + 1) m' H') ∧ ∀ x H', J.yld k H x H' → g x (wipe σ vs) H' fun σ2 H2 => wipe σ2 vs = wipe σ vs ∧ tt σ2 H2 fun b H3 =>
        if b = true then tk σ2 H3 fun y H4 => tv σ2 H4 fun z H5 => ∃ kvs key, y = kV key ∧ H5 D = some (.dK kvs) ∧ kvs.length < sizeLine ∧ Nx (upd H5 D (.dK (putK kvs key z))) else Nx H3) := by
  refine ⟨fun k m H => m = items.length - k ∧ k ≤ items.length ∧ DcN I D k H, ⟨items.length, by omega, Nat.zero_le _, [], upd_same, Nat.zero_le _, h0⟩, ?_⟩
  rintro k m H ⟨rfl, hk, kvs, hD, hacc, hI⟩
  by_cases hlt : k < items.length
  · refine .inr ⟨Y.go k H (hG _ _ _ hI hD) hlt, DcN I D (k + 1), fun H' q => ⟨items.length - (k + 1), by omega, rfl, hlt, q⟩, fun x H' y => ?_⟩
    obtain ⟨rfl, hx⟩ := Y.yld k H x H' hlt (hG _ _ _ hI hD) y
    exact hs k kvs _ x hI hD hx hacc (by omega)
  · have e : k = items.length := by omega
    subst e
    exact .inl ⟨Y.stop H (hG _ _ _ hI hD), hd kvs H hI hD hacc⟩
/-! ### walks -/
theorem forG {J : It} {items : List V} {G : Hp → Prop} {g : TG} {tb : TS} {D : Ends} {σ : L2.St} {H : Hp} (Y : Yields J items G) (Pv : Nat → L2.St → Hp → Prop) (h0 : Pv 0 σ H) (hG : ∀ i σ H, Pv i σ H → G H)
    (hs : ∀ i x σ H, items[i]? = some x → Pv i σ H → g x σ H fun σ2 H2 => tb { D with nx := Pv (i + 1), ct := Pv (i + 1), bk := D.nx } σ2 H2) (hd : ∀ σ H, Pv items.length σ H → D.nx σ H) :
    ∃ W : Nat → Nat → L2.St → Hp → Prop, (∃ m, W 0 m σ H) ∧ ∀ i m σ H, W i m σ H →
      (J.stop i H ∧ D.nx σ H) ∨ (J.go i H ∧ ∃ N : L2.St → Hp → Prop, (∀ σ' H', N σ' H' → ∃ m', m' < m ∧ W (i + 1) m' σ' H') ∧ ∀ x H', J.yld i H x H' → g x σ H' fun σ2 H2 => tb { D with nx := N, ct := N, bk := D.nx } σ2 H2) := by
  refine ⟨fun i m σ H => m = items.length - i ∧ i ≤ items.length ∧ Pv i σ H, ⟨items.length, by omega, Nat.zero_le _, h0⟩, ?_⟩
  rintro i m σ H ⟨rfl, hi, p⟩
  by_cases hlt : i < items.length
  · refine .inr ⟨Y.go i H (hG _ _ _ p) hlt, Pv (i + 1), fun σ' H' p' => ⟨items.length - (i + 1), by omega, rfl, hlt, p'⟩, fun x H' y => ?_⟩
    obtain ⟨rfl, hx⟩ := Y.yld i H x H' hlt (hG _ _ _ p) y
    exact hs i x σ _ hx p
  · have e : i = items.length := by omega
    subst e
    exact .inl ⟨Y.stop H (hG _ _ _ p), hd σ H p⟩
/-! ### a raise within a locked walk -/
/-- what is let out of a locked walk, told of the heap with the lock off -/
def wLock (X : Cx) (W : WX) : WX := fun cls dd σ H => ∃ (d : Addr) (od : Obj) (u : HO), H d = some (.frz od u) ∧ (∀ o' u', X.H_0 d ≠ some (.frz o' u')) ∧ W cls dd σ (upd H d u)
theorem takes_lock {X : Cx} {W : WX} (tk : Takes X W) : Takes X (wLock X W) := by
  rintro v s' ⟨a, B, sI, pins, σ, H, cls, dd, e, I, nb, up, sky, na, os, ag, d, od, u, hd, hn, w⟩
  refine tk v s' ⟨a, B, sI, pins, σ, upd H d u, cls, dd, e, I.unlock hd hn, nb, up, sky, ?_, os, ag, w⟩
  rw [upd_ne (fun z => by rw [z, hd] at na; cases na)]
  exact na
end Fk

set_option maxHeartbeats 4000000
/-! A dict's comprehension that is given a name; tables with texts as keys; texts in order. -/
namespace Fk
open PySem PySem.Spec PyProof.Rows L2
section
variable {X : Cx}
theorem sw_trueD {kx vx : Expr} {gs : List Comprehension} {scope : Scope} {pos py : Pos} {y : Str} {l : Nat} {env : Env} (hk : env.scope.kind = .function) (hy : env.scope.names.lookup y = some .local) (hl : (py.line == pos.line) = true)
    (ha : (scope.names.any fun (n, k) => n == y && (k == .local || k == .cell)) = false) : swapsWith (.DictComp kx vx gs scope pos) (some (.Name y py)) l env = pure true := by
  have ky : env.kindOf y = some .local := hy
  have hb : env.blockKind = .function := by unfold Env.blockKind; rw [hk]; rfl
  unfold swapsWith
  simp only [hb, ky, ha, Expr.pos, hl]
  rfl
/-- name = {k: v for ..} on one line, the name a local -/
theorem ps_setDc {i : Nat} {y : Str} {py : Pos} {kx vx tg iter : Expr} {ifs : List Expr} {scope : Scope} {own : List (Str × Nat)} {pos spos : Pos} {wi : TI} {g : TG} {tt : TT} {tk tv : TE} (hc : X.calm = true) (hN : X.N.Nodup) (hy : X.N[i]? = some y) (hyl : X.env.scope.names.lookup y = some .local)
    (hsw : swapsWith (.DictComp kx vx [⟨tg, iter, ifs, 0⟩] scope pos) (some (.Name y py)) spos.line X.env = pure true) (hi : PI X tg iter wi) (ok : BlkOk X.N X.env.scope scope own)
    (hg : ∀ (s : Shared) (H : Hp) (C : Addr) (cl : List (Str × Addr)) (fp : List Addr), PG (X.blk s H scope (compEnvC scope cl C X.env) fp) tg g) (ht : ∀ (s : Shared) (H : Hp) (C : Addr) (cl : List (Str × Addr)) (fp : List Addr), PTs (X.blk s H scope (compEnvC scope cl C X.env) fp) ifs tt)
    (hk : ∀ (s : Shared) (H : Hp) (C : Addr) (cl : List (Str × Addr)) (fp : List Addr), PE (X.blk s H scope (compEnvC scope cl C X.env) fp) kx tk)
    (he : ∀ (s : Shared) (H : Hp) (C : Addr) (cl : List (Str × Addr)) (fp : List Addr), PE (X.blk s H scope (compEnvC scope cl C X.env) fp) vx tv) (hs : ∀ x, foldedSetIterable iter X.env x = pure x := by intro _; rfl) :
    PS X (.Assign [.Name y py] (.DictComp kx vx [⟨tg, iter, ifs, 0⟩] scope pos) spos) (tAsg (tDc wi g tt tk tv (own.map (·.2))) (gName i)) := by
  refine ⟨fun pins s σ H D I h => ?_⟩
  rw [exec_Assign_Name_used _ _ _ _ hsw]
  refine wpAny_bind (wpAny_standAt (wpAny_bind ?_))
  show wpAny _ X.A (do let _ ← comprehension (.DictComp kx vx [⟨tg, iter, ifs, 0⟩] scope pos) scope X.env (firstIterPos [⟨tg, iter, ifs, 0⟩] pos) newDict false (eval iter X.env) (some (assign (.Name y py) X.env))) _ _ s
  have h : tDc wi g tt tk tv (own.map (·.2)) σ H (fun x H1 => gName i x σ H1 D.nx) := h
  refine wpAny_bind (thn (dc_core (Qf := fun _ s' => SP X pins D .next s') hc hN I hi ok hg ht hk he hs h fun L C s' m H' I' q hn f => ?_) fun _ s' hq => wpAny_pure (wpAny_pure hq))
  show wpAny _ _ (assign (.Name y py) X.env (.ref L)) _ _ _
  refine wpAny_assign_Name (store_ok2 (v := V.ref L) I' hN hy (.inl hyl) rfl (fun s2 I2 ⟨a, sb, ha⟩ => ?_) (.inr hyl))
  obtain ⟨f0, f1, f2, f3, f4, f5⟩ := f
  have haC : C ≠ a := by
    rcases ha with z | z
    · rw [z]; exact f1
    · exact fun e => f4 y a z e.symm
  refine ⟨m, hn.sameBut sb haC, fun h3 sb3 => ?_⟩
  exact ⟨_, H', I2.turned (t' := s2.toks) (fun b o hb e => (sb3.2 b hb).trans e) f0 f1 f3 f4 f5, q⟩
end
/-! ### tables with texts as keys -/
abbrev Tab := List (Str × V)
def kT (t : Tab) : List (Key × V) := t.map fun p => (.inr p.1, p.2)
theorem valV_kT (t : Tab) (x : Str) : valV (kT t) (.inr x) = valV t x := by
  induction t with
  | nil => rfl
  | cons p r ih =>
    show valV ((.inr p.1, p.2) :: kT r) (.inr x) = _
    by_cases h : p.1 = x
    · rw [valV_pos (show (Sum.inr p.1 : Key) = .inr x by rw [h]), valV_pos h]
    · rw [valV_neg (fun e => h (Sum.inr.inj e)), valV_neg h, ih]
theorem any_kT (t : Tab) (x : Str) : ((kT t).any fun kv => decide (kv.1 = .inr x)) = t.any fun kv => decide (kv.1 = x) := by
  rw [valV_any, valV_any, valV_kT]
theorem putK_kT (t : Tab) (x : Str) (v : V) : putK (kT t) (.inr x) v = kT (putK t x v) := by
  unfold putK
  rw [any_kT]
  split
  · unfold kT
    rw [List.map_map, List.map_map]
    refine List.map_congr_left fun p _ => ?_
    show (if (Sum.inr p.1 : Key) = .inr x then _ else _) = _
    by_cases h : p.1 = x
    · rw [if_pos (by rw [h])]
      show _ = ((Sum.inr (if p.1 = x then (p.1, v) else p).1, (if p.1 = x then (p.1, v) else p).2) : Key × V)
      rw [if_pos h]
    · rw [if_neg (fun e => h (Sum.inr.inj e))]
      show _ = ((Sum.inr (if p.1 = x then (p.1, v) else p).1, (if p.1 = x then (p.1, v) else p).2) : Key × V)
      rw [if_neg h]
  · unfold kT
    rw [List.map_append]
    rfl
theorem dropK_kT (t : Tab) (x : Str) : dropK (kT t) (.inr x) = kT (dropK t x) := by
  unfold dropK kT
  rw [List.filter_map]
  congr 1
  refine List.filter_congr fun p _ => ?_
  show decide ((Sum.inr p.1 : Key) ≠ .inr x) = decide (p.1 ≠ x)
  exact decide_eq_decide.mpr ⟨fun n e => n (by rw [e]), fun n e => n (Sum.inr.inj e)⟩
theorem keys_kT (t : Tab) : (kT t).map (·.1) = (t.map (·.1)).map Sum.inr := by
  unfold kT
  rw [List.map_map, List.map_map]
  rfl
theorem kV_kT (t : Tab) : ((kT t).map fun p => kV p.1) = (t.map (·.1)).map V.str := by
  unfold kT
  rw [List.map_map, List.map_map]
  rfl
theorem len_kT (t : Tab) : (kT t).length = t.length := List.length_map ..
/-- what a[x] is -/
theorem dget_kT {H : Hp} {a : Addr} {t : Tab} (h : Rd H a (.dK (kT t))) (x : Str) : DGet H a (.str x) (valV t x) := .inl ⟨kT t, .inr x, h, rfl, (valV_kT t x).symm⟩
theorem valV_drop {κ : Type} [DecidableEq κ] (t : List (κ × V)) (x y : κ) : valV (dropK t x) y = if y = x then none else valV t y := by
  induction t with
  | nil => split <;> rfl
  | cons p r ih =>
    by_cases h : p.1 = x
    · rw [dropK_pos h, ih]
      by_cases e : y = x
      · rw [if_pos e, if_pos e]
      · rw [if_neg e, if_neg e, valV_neg (fun z => e (by rw [← z, h]))]
    · rw [dropK_neg h]
      by_cases e : p.1 = y
      · rw [valV_pos e, valV_pos e, if_neg (fun z => h (by rw [e, z]))]
      · rw [valV_neg e, valV_neg e, ih]
/-- no key twice -/
def Nd (t : Tab) : Prop := (t.map (·.1)).Nodup
theorem nd_put {t : Tab} (h : Nd t) (x : Str) (v : V) : Nd (putK t x v) := by
  cases e : valV t x with
  | none => exact nd_putK v h e
  | some u =>
    unfold Nd putK
    rw [if_pos (by rw [valV_any, e]; rfl), List.map_map]
    have : ((fun p : Str × V => p.1) ∘ fun kv : Str × V => if kv.1 = x then (kv.1, v) else kv) = fun p => p.1 := by
      funext p
      show (if p.1 = x then (p.1, v) else p).1 = p.1
      split <;> rfl
    rw [this]
    exact h
theorem nd_drop {t : Tab} (h : Nd t) (x : Str) : Nd (dropK t x) := nd_dropK h
theorem mem_val {t : Tab} {x : Str} : x ∈ t.map (·.1) ↔ (valV t x).isSome = true := by
  rw [← valV_any, List.any_eq_true]
  constructor
  · intro m
    obtain ⟨p, hp, e⟩ := List.mem_map.mp m
    exact ⟨p, hp, decide_eq_true e⟩
  · rintro ⟨p, hp, e⟩
    exact List.mem_map.mpr ⟨p, hp, of_decide_eq_true e⟩
/-- tables with the same keys -/
theorem keys_perm {t u : Tab} (ht : Nd t) (hu : Nd u) (h : ∀ x, (valV t x).isSome = (valV u x).isSome) : (t.map (·.1)).Perm (u.map (·.1)) :=
  (List.perm_ext_iff_of_nodup ht hu).mpr fun x => by rw [mem_val, mem_val, h]
/-! ### texts in order -/
def leS (a b : Str) : Prop := ¬ b.cps.toList < a.cps.toList
theorem leS_trans {a b c : Str} (h : leS a b) (k : leS b c) : leS a c := by
  unfold leS at *
  intro z
  exact h (List.lt_of_le_of_lt (List.not_lt.mp k) z)
theorem str_ext {a b : Str} (h : a.cps.toList = b.cps.toList) : a = b := by
  cases a; cases b
  congr 1
  exact Array.toList_inj.mp h
theorem leS_anti {a b : Str} (h : leS a b) (k : leS b a) : a = b := str_ext (List.le_antisymm (List.not_lt.mp h) (List.not_lt.mp k))
theorem rising_pw : ∀ (l : List Str) (p : Str), risingS p l = true → (p :: l).Pairwise leS
  | [], p, _ => List.pairwise_singleton _ _
  | x :: r, p, h => by
    have h : (!ltCps x.cps.toList p.cps.toList && risingS x r) = true := h
    obtain ⟨h1, h2⟩ := Bool.and_eq_true_iff.mp h
    have ih := rising_pw r x h2
    have px : leS p x := fun z => by
      rw [ltCps_eq, decide_eq_true z] at h1
      exact absurd h1 (by decide)
    refine List.pairwise_cons.mpr ⟨fun y hy => ?_, ih⟩
    rcases List.mem_cons.mp hy with e | hy
    · rw [e]
      exact px
    · exact leS_trans px ((List.pairwise_cons.mp ih).1 y hy)
theorem sorted_pw {l : List Str} (h : sortedS l = true) : l.Pairwise leS := by
  cases l with
  | nil => exact List.Pairwise.nil
  | cons x r => exact rising_pw r x h
theorem pw_uniq : ∀ {l m : List Str}, l.Pairwise leS → m.Pairwise leS → l.Perm m → l = m
  | [], m, _, _, p => (List.nil_perm.mp p).symm ▸ rfl
  | a :: r, [], _, _, p => absurd (List.perm_nil.mp p) (by simp)
  | a :: r, b :: s, h, k, p => by
    obtain ⟨h1, h2⟩ := List.pairwise_cons.mp h
    obtain ⟨k1, k2⟩ := List.pairwise_cons.mp k
    have e : a = b := by
      rcases List.mem_cons.mp (p.mem_iff.mp List.mem_cons_self) with z | z
      · exact z
      · rcases List.mem_cons.mp (p.mem_iff.mpr (List.mem_cons_self (a := b))) with y | y
        · exact y.symm
        · exact leS_anti (h1 b y) (k1 a z)
    subst e
    rw [pw_uniq h2 k2 ((List.perm_cons a).mp p)]
theorem sort_uniq {l m : List Str} (h : sortedS l = true) (k : sortedS m = true) (p : l.Perm m) : l = m := pw_uniq (sorted_pw h) (sorted_pw k) p
end Fk

set_option maxHeartbeats 4000000
/-! Statements that are never come to; methods with a keyword; methods that may raise. -/
namespace Fk
open PySem PySem.Spec PyProof.Rows L2
section
variable {X : Cx}
/-- what is never come to -/
theorem ps_never {st : Stmt} : PS X st (fun _ _ _ => False) := ⟨fun _ _ _ _ _ _ h => h.elim⟩
theorem pe_never {e : Expr} : PE X e (fun _ _ _ => False) := ⟨fun _ _ _ _ _ _ h => h.elim⟩
variable {k j : Nat} {C : Addr} {m : Str} {sp : Sp} {E : L2.St → XK} {o e : Expr} {es : List Expr} {kws : List Keyword} {ta : TE} {t tk : TA} {pos apos : Pos} {ks : List Str} {gV : List V → List V → List V}
/-- a method with these keywords -/
structure MetK (P : Program) (w : World) (K : PySem.W.Frag) (mg : Str → Option Value) (base : Heap) (k : Nat) (C : Addr) (m : Str) (sp : Sp) (ks : List Str) (gV : List V → List V → List V) : Prop where
  ex : ∃ (f : Addr) (fd : FuncData) (ps : List Str) (g : List Value → List Value → List Value), Cls K C ∧ Meth K C m f ∧ FnOk P w K mg base C8.CX0 k f fd ps sp ∧ KBinds K fd ps ks g gV
def tMeK (C : Addr) (m : Str) (sp : Sp) (gV : List V → List V → List V) (ta : TE) (t tk : TA) : TE := fun σ H Q => ta σ H fun x H1 => ∃ (a dx : Addr) (fs : List (Str × V)), x = .ref a ∧ H1 a = some (.ins C dx fs) ∧ fs.lookup m = none ∧
  t σ H1 fun vs H2 => tk σ H2 fun zs H3 => sp (gV (x :: vs) zs) H3 Q C8.E0
/-- o.m(e, .., k = v, ..) -/
theorem pe_mtK {pl : Sem Bool} (c : MetK X.prog X.w X.K X.mg X.base k C m sp ks gV) (hr : Room j X.A) (hk : k ≤ j) (he : PE X o ta) (ha : PA X (e :: es) t) (hkw : PK X kws tk)
    (hall : (backToKw pos (keywordEach kws X.env)).all (·.1.isSome) = true := by rfl) (hks : (backToKw pos (keywordEach kws X.env)).filterMap (·.1) = ks := by rfl)
    (hst : starEach (e :: es) X.env = (false, eval e X.env) :: starEach es X.env := by rfl) (hpl : ((backTo pos (starEach (e :: es) X.env)).any (·.1) || (backToKw pos (keywordEach kws X.env)).any (·.1.isNone)) = false := by rfl)
    (ht : eval (.Call (.Attribute o m apos) (e :: es) kws pos) X.env = (do
      let ov ← eval o X.env
      standAt apos.atName
      let (f, first) ← holding [ov] (getMethod ov m pl)
      callWith pos f first (backTo pos (starEach (e :: es) X.env)) (backToKw pos (keywordEach kws X.env))) := by rfl) :
    PE X (.Call (.Attribute o m apos) (e :: es) kws pos) (tMeK C m sp gV ta t tk) := by
  obtain ⟨f, fd, ps, g, cl, hm, F, b⟩ := c.ex
  refine ⟨fun pins s σ H Q I h => ?_⟩
  refine PySem.W.methodCall_KW (pl := pl) (thn (he.run pins s σ H _ I h) fun u s1 ⟨x, H1, I1, rx, a, dx, fs, ex, ea, l, q⟩ => ?_) ht
  subst ex
  obtain rfl : u = Value.ref a := rx
  refine getmeth_ok I1 ea cl hm l ?_
  refine PySem.W.callWith_KW (first := [.ref a]) (h₀ := X.base) I.ok.mod.kin hm.kp hall (thn (ha.run pos pins s1 σ H1 _ I1 q) fun us s2 ⟨vs, H2, I2, r, q2⟩ => ?_) hpl hst
  refine thn (hkw.run pos pins s2 σ H2 _ I2 q2) fun ws s3 ⟨zs, H3, I3, rz, q3⟩ => ⟨I3.kIn, ?_⟩
  rw [hks]
  exact run_fnk F (hr.mono hk) b C8.pass0 I3 (show Vals (.ref a :: vs) (.ref a :: us) from .cons rfl r) rz q3
end
section
variable {P : Program} {w : World} {K : PySem.W.Frag} {mg : Str → Option Value} {base : Heap}
/-- a method of the text as it stands behind the top, with no defaults -/
structure MDef (K : PySem.W.Frag) (C : Addr) (m qual : Str) (st : Stmt) : Prop where
  ex : ∃ (f : Addr) (fd : FuncData), C8.Fun K m qual st f fd ∧ Meth K C m f ∧ fd.defaults = .none
theorem met_of {m qual : Str} {C : Addr} {st : Stmt} {N ps : List Str} {k : Nat} {sp : Sp} (c : Cls K C) (D : MDef K C m qual st) (S : FnScope N ps (C8.fnScope st))
    (hb : ∀ (kV doc pm : Value) (an : Option Addr) (cdv ct : Value) (us : List Value), us.length = ps.length → bindArgs (PySem.W.fnOf m qual (C8.fnArgs st) (C8.fnBody st) (C8.fnScope st) .none kV doc pm an cdv ct) ⟨us, []⟩ = pure (ps.zip us))
    (len : ∀ vs H Q E, sp vs H Q E → vs.length = ps.length)
    (hbody : ∀ (f : Addr) (cdv : Value) (A : Around) (outer : List Env) (s : Shared) (H : Hp) (vs : List V) (Q : VK) (E : XK), Room k (A.deeper (envOfC qual (C8.fnScope st) s.heap.objs.size f cdv)) → sp vs H Q E →
      ∃ t, PSs (cxOf C8.CX0 P w K mg base N qual (C8.fnScope st) f cdv A outer s H E).nox (C8.fnBody st) t ∧ t { nx := fun _ H' => Q .non H', rt := Q } (start N vs) H) : C8.Met P w K mg base (k + 1) C m sp [] := by
  obtain ⟨f, fd, F, M, df⟩ := D.ex
  exact C8.met0 c M F (F.binds df hb) S len (hbody f)
/-- a method that may let errors out -/
theorem metX_of {m qual : Str} {C : Addr} {st : Stmt} {N ps : List Str} {k : Nat} {sp : Sp} (c : Cls K C) (D : MDef K C m qual st) (S : FnScope N ps (C8.fnScope st))
    (hb : ∀ (kV doc pm : Value) (an : Option Addr) (cdv ct : Value) (us : List Value), us.length = ps.length → bindArgs (PySem.W.fnOf m qual (C8.fnArgs st) (C8.fnBody st) (C8.fnScope st) .none kV doc pm an cdv ct) ⟨us, []⟩ = pure (ps.zip us))
    (len : ∀ vs H Q E, sp vs H Q E → vs.length = ps.length)
    (hbody : ∀ (f : Addr) (cdv : Value) (A : Around) (outer : List Env) (s : Shared) (H : Hp) (vs : List V) (Q : VK) (E : XK), Room k (A.deeper (envOfC qual (C8.fnScope st) s.heap.objs.size f cdv)) → sp vs H Q E →
      ∃ t, PSs (cxOf (L2.CX P w) P w K mg base N qual (C8.fnScope st) f cdv A outer s H E) (C8.fnBody st) t ∧ t { nx := fun _ H' => Q .non H', rt := Q } (start N vs) H) : MetX P w K mg base (L2.CX P w) (k + 1) C m sp [] := by
  obtain ⟨f, fd, F, M, df⟩ := D.ex
  obtain ⟨oc, od, dV, kV, doc, pm, an, cdv, ct, osl, rfl, lk, hcd⟩ := F.ex
  exact ⟨f, _, ps, [], c, M, fn_of lk hcd S len fun A outer s H vs Q E hr hsp => hbody f cdv A outer s H vs Q E hr hsp, F.binds df hb, .nil⟩
end
end Fk

set_option maxHeartbeats 4000000
/-! A comprehension with two fors that changes nothing; the prefixes of paths. -/
namespace Fk
open PySem PySem.Spec PyProof.Rows L2
theorem same_frl {D : Addr} {H1 H H' : Hp} (h : H1 D = none) (s : Same H1 H) (f : FrL [D] H H') : Same H1 H' := fun b o e => f b o (fun z => by
  rw [List.mem_singleton.mp z, h] at e
  cases e) (s b o e)
theorem lc2_pure {α β : Type} {J : It} {us : List α} {g : α → V} {h : β → V} {G : Hp → Prop} {H1 : Hp} {D : Addr} {σ : L2.St} {vs : List Nat} {i j : Nat} {wi1 : TI} {te : TE} {Q : Hp → Prop} (Y : Yields J (us.map g) G) (fs : α → List β) (f : α → β → V) (hD1 : H1 D = none) (hG : ∀ H, Same H1 H → G H)
    (e1 : ∀ x, wipe ((wipe σ vs).set i (some x)) vs = wipe σ vs)
    (e2 : ∀ x y, wipe ((wipe ((wipe σ vs).set i (some x)) [j]).set j (some y)) [j] = wipe ((wipe σ vs).set i (some x)) [j])
    (hw : ∀ H u, Same H1 H → H D ≠ none → u ∈ us → ∀ (R : It → Hp → Prop), (∀ J1 G1 H3, Yields J1 ((fs u).map h) G1 → Same H H3 → (∀ H', FrL [D] H3 H' → G1 H') → R J1 H3) → wi1 ((wipe σ vs).set i (some (g u))) H R)
    (he : ∀ H u w, Same H1 H → u ∈ us → w ∈ fs u → ∀ (R : VK), (∀ H3, Same H H3 → R (f u w) H3) → te ((wipe ((wipe σ vs).set i (some (g u))) [j]).set j (some (h w))) H R)
    (hl : (us.flatMap fs).length ≤ 1000000) (hd : ∀ H, Same H1 H → H D = some (.lst (us.flatMap fun u => (fs u).map (f u))) → Q H) :
    ∃ W : Nat → Nat → Hp → Prop, (∃ m, W 0 m (upd H1 D (.lst []))) ∧ ∀ k m H, W k m H →
      (J.stop k H ∧ Q H) ∨ (J.go k H ∧ ∃ Nx : Hp → Prop, (∀ H', Nx H' → ∃ m', m' < m ∧ W (k + 1) m' H') ∧ ∀ x H', J.yld k H x H' → gName i x (wipe σ vs) H' fun σ2 H2 => wipe σ2 vs = wipe σ vs ∧ tYes σ2 H2 fun b H3 =>
        if b = true then wi1 σ2 H3 fun J1 H4 => ∃ W1 : Nat → Nat → Hp → Prop, (∃ m, W1 0 m H4) ∧ ∀ k2 m2 H, W1 k2 m2 H →
          (J1.stop k2 H ∧ Nx H) ∨ (J1.go k2 H ∧ ∃ Nx1 : Hp → Prop, (∀ H', Nx1 H' → ∃ k', k' < m2 ∧ W1 (k2 + 1) k' H') ∧ ∀ x H', J1.yld k2 H x H' → gName j x (wipe σ2 [j]) H' fun σ3 H5 => wipe σ3 [j] = wipe σ2 [j] ∧ tYes σ3 H5 fun b H6 =>
            if b = true then te σ3 H6 fun y H7 => ∃ acc, H7 D = some (.lst acc) ∧ acc.length < sizeLine ∧ Nx1 (upd H7 D (.lst (acc ++ [y]))) else Nx1 H6)
        else Nx H3) := by
  refine ⟨fun k m H => m = us.length - k ∧ k ≤ us.length ∧ Same H1 H ∧ H D = some (.lst ((us.take k).flatMap fun u => (fs u).map (f u))), ⟨us.length, by omega, Nat.zero_le _, same_new hD1, upd_same⟩, ?_⟩
  rintro k m H ⟨rfl, hk, sm, hD⟩
  by_cases hlt : k < us.length
  · refine .inr ⟨Y.go k H (hG _ sm) (by rw [List.length_map]; exact hlt), fun H' => Same H1 H' ∧ H' D = some (.lst ((us.take (k + 1)).flatMap fun u => (fs u).map (f u))), fun H' q => ⟨us.length - (k + 1), by omega, rfl, hlt, q⟩, fun x H' y => ?_⟩
    obtain ⟨rfl, hx⟩ := Y.yld k H x H' (by rw [List.length_map]; exact hlt) (hG _ sm) y
    rw [List.getElem?_map, List.getElem?_eq_getElem hlt] at hx
    obtain rfl := Option.some.inj hx
    have hu : us[k] ∈ us := List.getElem_mem hlt
    refine ⟨e1 _, ?_⟩
    dsimp only [tYes]
    first | rw [if_pos (rfl : true = true)] | skip
    refine hw _ us[k] sm (by rw [hD]; exact fun z => nomatch z) hu _ fun J1 G1 H3 Y1 s3 hG1 => ?_
    have et : us.take (k + 1) = us.take k ++ [us[k]] := by rw [List.take_add_one, List.getElem?_eq_getElem hlt]; rfl
    have total : ((us.take k).flatMap fun u => (fs u).map (f u)).length + (fs us[k]).length ≤ 1000000 := by
      have e : us.flatMap fs = ((us.take (k + 1)) ++ us.drop (k + 1)).flatMap fs := by rw [List.take_append_drop]
      rw [e, List.flatMap_append, et, List.flatMap_append, List.length_append, List.length_append] at hl
      have e2 : ∀ l : List α, (l.flatMap fun u => (fs u).map (f u)).length = (l.flatMap fs).length := fun l => by
        induction l with
        | nil => rfl
        | cons a r ih => rw [List.flatMap_cons, List.flatMap_cons, List.length_append, List.length_append, ih, List.length_map]
      rw [e2]
      have : ([us[k]].flatMap fs).length = (fs us[k]).length := by simp
      omega
    refine ⟨fun k2 m2 H => m2 = (fs us[k]).length - k2 ∧ k2 ≤ (fs us[k]).length ∧ FrL [D] H3 H ∧ H D = some (.lst (((us.take k).flatMap fun u => (fs u).map (f u)) ++ ((fs us[k]).take k2).map (f us[k]))),
      ⟨(fs us[k]).length, by omega, Nat.zero_le _, FrL.refl _ _, by rw [List.take_zero, List.map_nil, List.append_nil]; exact s3 _ _ hD⟩, ?_⟩
    rintro k2 m2 H5 ⟨rfl, hk2, f5, hD5⟩
    by_cases hlt2 : k2 < (fs us[k]).length
    · refine .inr ⟨Y1.go k2 H5 (hG1 _ f5) (by rw [List.length_map]; exact hlt2), _, fun H' q => ⟨(fs us[k]).length - (k2 + 1), by omega, rfl, hlt2, q⟩, fun x H' y => ?_⟩
      obtain ⟨rfl, hx⟩ := Y1.yld k2 H5 x H' (by rw [List.length_map]; exact hlt2) (hG1 _ f5) y
      rw [List.getElem?_map, List.getElem?_eq_getElem hlt2] at hx
      obtain rfl := Option.some.inj hx
      refine ⟨e2 _ _, ?_⟩
      first | rw [if_pos (rfl : true = true)] | skip
      have s5 : Same H1 _ := same_frl hD1 (sm.trans s3) f5
      refine he _ us[k] (fs us[k])[k2] s5 hu (List.getElem_mem hlt2) _ fun H6 s6 => ?_
      refine ⟨_, s6 _ _ hD5, small_lt (by rw [List.length_append, List.length_map, List.length_take]; omega), FrL.trans (f5.trans (FrL.same s6)) (FrL.at (List.mem_singleton_self D)), ?_⟩
      rw [upd_same, List.take_add_one, List.getElem?_eq_getElem hlt2, List.append_assoc, List.map_append]
      rfl
    · have e : k2 = (fs us[k]).length := by omega
      subst e
      refine .inl ⟨by have := Y1.stop H5 (hG1 _ f5); rw [List.length_map] at this; exact this, same_frl hD1 (sm.trans s3) f5, ?_⟩
      rw [hD5, et, List.flatMap_append, List.take_length]
      simp
  · have e : k = us.length := by omega
    subst e
    refine .inl ⟨by have := Y.stop H (hG _ sm); rw [List.length_map] at this; exact this, hd _ sm ?_⟩
    rw [hD, List.take_length]
/-! ### prefixes -/
def prefixesF (x : Str) : List Str := (List.range ((segs x).length - 1)).map fun k => Txt.join "/" ((segs x).take (k + 1))
def haveF (ks : List Str) : Bool := ks.any fun x => (prefixesF x).any fun y => decide (y ∈ ks)
theorem have_perm {ks ls : List Str} (h : ks.Perm ls) : haveF ks = haveF ls := by
  have e : ∀ a b : List Str, a.Perm b → haveF a = true → haveF b = true := fun a b p z => by
    obtain ⟨x, hx, z⟩ := List.any_eq_true.mp z
    obtain ⟨y, hy, z⟩ := List.any_eq_true.mp z
    exact List.any_eq_true.mpr ⟨x, p.mem_iff.mp hx, List.any_eq_true.mpr ⟨y, hy, decide_eq_true (p.mem_iff.mp (of_decide_eq_true z))⟩⟩
  cases c : haveF ls with
  | true => exact e ls ks h.symm c
  | false => exact Bool.eq_false_iff.mpr fun z => by rw [e ks ls h z] at c; cases c
theorem pre_len (x : Str) (h : x.length ≤ 100000) : (prefixesF x).length ≤ 100000 := by
  unfold prefixesF
  rw [List.length_map, List.length_range]
  have := (segs_len x h).1
  omega
theorem any_flat {α β : Type} (us : List α) (fs : α → List β) (f : α → β → Bool) : (us.flatMap fun u => (fs u).map (f u)).any id = us.any fun u => (fs u).any (f u) := by
  induction us with
  | nil => rfl
  | cons a r ih => rw [List.flatMap_cons, List.any_append, ih, List.any_cons, List.any_map]; rfl
end Fk
namespace Fk
open PySem PySem.Spec PyProof.Rows L2
theorem segs_lens (x : Str) : (segs x).length ≤ x.length + 1 ∧ ∀ y ∈ segs x, y.length ≤ x.length := by
  have e := TL.split_spl x "/" (by decide +kernel) (TL.kind_ok (by decide +kernel))
  have e2 : ∀ l k acc, (TL.spl (TL.tl "/") k acc l).length ≤ l.length + 1 ∧ ∀ y ∈ TL.spl (TL.tl "/") k acc l, y.length ≤ acc.length + l.length := by
    intro l
    induction l with
    | nil => intro k acc; rw [TL.spl_nil]; exact ⟨Nat.le_refl _, fun y hy => by rw [List.mem_singleton.mp hy]; simp⟩
    | cons c r ih =>
      intro k acc
      cases k with
      | zero =>
        unfold TL.spl
        split
        · obtain ⟨i1, i2⟩ := ih ((TL.tl "/").length - 1) []
          refine ⟨by simp only [List.length_cons]; omega, fun y hy => ?_⟩
          rcases List.mem_cons.mp hy with rfl | hy
          · simp only [List.length_cons]; omega
          · have := i2 y hy
            simp only [List.length_cons, List.length_nil] at this ⊢
            omega
        · obtain ⟨i1, i2⟩ := ih 0 (acc ++ [c])
          refine ⟨by simp only [List.length_cons]; omega, fun y hy => ?_⟩
          have := i2 y hy
          simp only [List.length_cons, List.length_append, List.length_nil] at this ⊢
          omega
      | succ k =>
        obtain ⟨i1, i2⟩ := ih k acc
        unfold TL.spl
        refine ⟨by simp only [List.length_cons]; omega, fun y hy => ?_⟩
        have := i2 y hy
        simp only [List.length_cons] at this ⊢
        omega
  obtain ⟨i1, i2⟩ := e2 (TL.tl x) 0 []
  rw [← e] at i1 i2
  rw [List.length_map, ← TL.len_tl] at i1
  refine ⟨?_, fun y hy => ?_⟩
  · show (Txt.split x "/").length ≤ _
    omega
  · have := i2 (TL.tl y) (List.mem_map_of_mem hy)
    rw [← TL.len_tl, ← TL.len_tl] at this
    simp at this
    omega
theorem sum_most (n : Nat) : ∀ ps : List Str, (∀ p ∈ ps, p.length ≤ n) → (ps.map (·.length)).sum ≤ ps.length * n := by
  intro ps h
  induction ps with
  | nil => exact Nat.zero_le _
  | cons p r ih =>
    rw [List.map_cons, List.sum_cons, List.length_cons, Nat.succ_mul]
    have := ih fun q hq => h q (List.mem_cons_of_mem _ hq)
    have := h p List.mem_cons_self
    omega
theorem cut_front {α : Type} (l : List α) (g : α → V) (k : Nat) : cutV (l.map g) none (some (1 + (k : Int))) = (l.take (k + 1)).map g := by
  have e : (1 + (k : Int)) = ((k + 1 : Nat) : Int) := by omega
  unfold cutV
  rw [e, HT.sIx_none, HT.sIx_nat, List.drop_zero, Nat.sub_zero, List.map_take]
  rcases Nat.le_total (k + 1) (l.map g).length with h | h
  · rw [Nat.min_eq_left h]
  · rw [Nat.min_eq_right h, List.take_length, List.take_of_length_le h]
/-! ### rules whose reading names the written part, within a comprehension -/
section
variable {X : Cx} {K : PySem.W.Frag} {o e : Expr} {to te : TE} {f : Str}
theorem slK_list (h : X.K = K) : SlR X (rSlL K) := h ▸ sl_list
theorem ixK_list (h : X.K = K) : IxR X (rIxL K) := h ▸ ix_list
theorem ixK_tup (h : X.K = K) : IxR X (rIxT K) := h ▸ ix_tup
theorem pi_listK {tg : Expr} (h : X.K = K) (he : PE X e te) : PI X tg e (iList K te) := h ▸ pi_list he
theorem pi_tupK {tg : Expr} (h : X.K = K) (he : PE X e te) : PI X tg e (iTup K te) := h ▸ pi_tup he
theorem pg_tupK {es : List Expr} {k : Nat} {t : TGs} {n : Nat} {pos : Pos} (h : X.K = K) (hc : X.calm = true) (hp : PGs X es t)
    (hn : (assignEach es X.env).length = n := by rfl) (hst : (assignEach es X.env).findIdx? (·.1) = none := by rfl) : PG X (.Tuple es k pos) (gTup K n t) := h ▸ pg_tup hc hp hn hst
theorem pe_fldK {pos : Pos} (h : X.K = K) (he : PE X e te) (hb : attributeBase e f X.env (eval e X.env) = eval e X.env) : PE X (.Attribute e f pos) (tFld K te f) := h ▸ pe_fld he hb
def rJoin (K : PySem.W.Frag) : V → List V → Hp → VK → Prop := fun x xs H Q => ∃ a p, ∃ ys : List Str, x = .str a ∧ xs = [.ref p] ∧ (SqL K H p (ys.map V.str) ∨ SqT K H p (ys.map V.str)) ∧
  (ys.map (·.length)).sum + ys.length * a.length ≤ 16777216 ∧ Q (.str (Txt.join a ys)) H
theorem pe_joinK {apos pos : Pos} (h : X.K = K) (ho : PE X o to) (he : PE X e te) (hs : starEach [e] X.env = [(false, eval e X.env)] := by rfl) (hbase : attributeBase o "join" X.env (eval o X.env) = eval o X.env := by rfl) (hline : (apos.endLine == pos.line) = true := by rfl) :
    PE X (.Call (.Attribute o "join" apos) [e] [] pos) (tM1 (rJoin K) to te) := by
  subst h
  exact pe_join ho he hs hbase hline
end
end Fk

set_option maxHeartbeats 4000000
/-! Lists and dicts that comprehensions make of tuples; tuples of tuples. -/
namespace Fk
open PySem PySem.Spec PyProof.Rows L2
/-- at these addresses stand tuples of these things -/
def Tups (H : Hp) (as : List Addr) (ls : List (List V)) : Prop := as.length = ls.length ∧ ∀ (i : Nat) (a : Addr) (l : List V), as[i]? = some a → ls[i]? = some l → H a = some (.tup l)
def TupsAt (H : Hp) (p : Addr) (ls : List (List V)) : Prop := ∃ as : List Addr, H p = some (.tup (as.map V.ref)) ∧ Tups H as ls
/-- tuples stay -/
def TupKeep (H H' : Hp) : Prop := ∀ b xs, H b = some (.tup xs) → H' b = some (.tup xs)
theorem TupKeep.of {H H' : Hp} (s : Same H H') : TupKeep H H' := fun b xs e => s b _ e
theorem TupKeep.refl (H : Hp) : TupKeep H H := fun _ _ e => e
theorem TupKeep.trans {H H1 H2 : Hp} (a : TupKeep H H1) (b : TupKeep H1 H2) : TupKeep H H2 := fun c xs e => b c xs (a c xs e)
theorem TupKeep.at {a : Addr} {H : Hp} {o : HO} (n : ∀ xs, H a ≠ some (.tup xs)) : TupKeep H (upd H a o) := fun b xs e => by
  have z : b ≠ a := fun z => n xs (by rw [← z]; exact e)
  rw [upd_ne z]
  exact e
theorem Tups.keep {H H' : Hp} {as : List Addr} {ls : List (List V)} (t : Tups H as ls) (k : TupKeep H H') : Tups H' as ls := ⟨t.1, fun i a l h1 h2 => k _ _ (t.2 i a l h1 h2)⟩
theorem TupsAt.keep {H H' : Hp} {p : Addr} {ls : List (List V)} (t : TupsAt H p ls) (k : TupKeep H H') : TupsAt H' p ls := by
  obtain ⟨as, h, t⟩ := t
  exact ⟨as, k _ _ h, t.keep k⟩
theorem Tups.nil {H : Hp} : Tups H [] [] := ⟨rfl, fun i a l h => by simp at h⟩
theorem Tups.snoc {H : Hp} {as : List Addr} {ls : List (List V)} {a : Addr} {l : List V} (t : Tups H as ls) (h : H a = some (.tup l)) : Tups H (as ++ [a]) (ls ++ [l]) := by
  obtain ⟨e, t⟩ := t
  refine ⟨by rw [List.length_append, List.length_append, e]; rfl, fun i b m h1 h2 => ?_⟩
  by_cases hi : i < as.length
  · rw [List.getElem?_append_left hi] at h1
    rw [List.getElem?_append_left (by omega)] at h2
    exact t i b m h1 h2
  · rw [List.getElem?_append_right (by omega)] at h1
    rw [List.getElem?_append_right (by omega)] at h2
    have i1 := (List.getElem?_eq_some_iff.mp h1).1
    have e0 : i - as.length = 0 := by
      rw [List.length_singleton] at i1
      omega
    rw [e0] at h1
    rw [← e, e0] at h2
    rw [← Option.some.inj h1, ← Option.some.inj h2]
    exact h
theorem Tups.get {H : Hp} {as : List Addr} {ls : List (List V)} (t : Tups H as ls) {u : Addr × List V} (h : u ∈ as.zip ls) : H u.1 = some (.tup u.2) := by
  obtain ⟨i, hi⟩ := List.mem_iff_getElem?.mp h
  rw [List.getElem?_zip_eq_some] at hi
  exact t.2 i _ _ hi.1 hi.2
theorem zip_fst {as : List Addr} {ls : List (List V)} (e : as.length = ls.length) : (as.zip ls).map (fun u => V.ref u.1) = as.map V.ref := by
  have : (fun u : Addr × List V => V.ref u.1) = V.ref ∘ Prod.fst := rfl
  rw [this, ← List.map_map, List.map_fst_zip (by omega)]
theorem zip_snd {as : List Addr} {ls : List (List V)} (e : as.length = ls.length) : (as.zip ls).map (·.2) = ls := List.map_snd_zip (by omega)
/-- a tuple of the written part -/
def KTup (K : PySem.W.Frag) (a : Addr) (xs : List V) : Prop := ∃ (o : Obj) (its : Array Value) (n : Nat), K.lookup a = some o ∧ o.cls = .type "tuple" ∧ o.data = .seq its n ∧ its.size ≤ sizeLine ∧ Vals xs its.toList
/-- a tuple, tracked or of the written part -/
def TupK (K : PySem.W.Frag) (H : Hp) (a : Addr) (xs : List V) : Prop := H a = some (.tup xs) ∨
  ∃ (o : Obj) (its : Array Value) (n : Nat), K.lookup a = some o ∧ o.cls = .type "tuple" ∧ o.data = .seq its n ∧ its.size ≤ sizeLine ∧ Vals xs its.toList
theorem TupK.sq {K : PySem.W.Frag} {H : Hp} {a : Addr} {xs : List V} (h : TupK K H a xs) : SqT K H a xs := h.imp (fun e => .inl e) id
theorem TupK.keep {K : PySem.W.Frag} {H H' : Hp} {a : Addr} {xs : List V} (h : TupK K H a xs) (k : TupKeep H H') : TupK K H' a xs := h.imp (fun e => k _ _ e) id
def TupsK (K : PySem.W.Frag) (H : Hp) (p : Addr) (ls : List (List V)) : Prop := ∃ as : List Addr, TupK K H p (as.map V.ref) ∧ Tups H as ls
theorem TupsK.of {K : PySem.W.Frag} {H : Hp} {p : Addr} {ls : List (List V)} (h : TupsAt H p ls) : TupsK K H p ls := let ⟨as, a, b⟩ := h; ⟨as, .inl a, b⟩
theorem TupsK.keep {K : PySem.W.Frag} {H H' : Hp} {p : Addr} {ls : List (List V)} (h : TupsK K H p ls) (k : TupKeep H H') : TupsK K H' p ls := let ⟨as, a, b⟩ := h; ⟨as, a.keep k, b.keep k⟩
section
variable {α : Type} {J : It} {us : List α} {val : α → V} {G : Hp → Prop} {H1 : Hp} {D : Addr} {σ : L2.St} {vs : List Nat} {g : TG} {tt : TT} {te tk tv : TE} {Q : Hp → Prop}
/-- a list of new tuples -/
theorem lc_new (Y : Yields J (us.map val) G) (f : α → List V) (p : α → Bool) (σf : α → L2.St) (hD1 : H1 D = none) (hG : ∀ H, Same H1 H → G H) (hw : ∀ u ∈ us, wipe (σf u) vs = wipe σ vs)
    (hg : ∀ H u, Same H1 H → u ∈ us → ∀ (R : L2.St → Hp → Prop), R (σf u) H → g (val u) (wipe σ vs) H R)
    (ht : ∀ H u, Same H1 H → u ∈ us → ∀ (R : Bool → Hp → Prop), (∀ H3, Same H H3 → R (p u) H3) → tt (σf u) H R)
    (he : ∀ H u, Same H1 H → u ∈ us → p u = true → ∀ (R : VK), (∀ a H3, Same H H3 → H3 a = some (.tup (f u)) → R (.ref a) H3) → te (σf u) H R)
    (hl : us.length ≤ 1000000) (hd : ∀ as H, Same H1 H → H D = some (.lst (as.map V.ref)) → Tups H as ((us.filter p).map f) → Q H) :
    ∃ W : Nat → Nat → Hp → Prop, (∃ m, W 0 m (upd H1 D (.lst []))) ∧ ∀ k m H, W k m H →
      (J.stop k H ∧ Q H) ∨ (J.go k H ∧ ∃ Nx : Hp → Prop, (∀ H', Nx H' → ∃ m', m' < m ∧ W (k + 1) m' H') ∧ ∀ x H', J.yld k H x H' → g x (wipe σ vs) H' fun σ2 H2 => wipe σ2 vs = wipe σ vs ∧ tt σ2 H2 fun b H3 =>
        if b = true then te σ2 H3 fun y H4 => ∃ acc, H4 D = some (.lst acc) ∧ acc.length < sizeLine ∧ Nx (upd H4 D (.lst (acc ++ [y]))) else Nx H3) := by
  refine lcG Y (fun k acc H => Same H1 H ∧ ∃ as : List Addr, acc = as.map V.ref ∧ Tups H as (((us.take k).filter p).map f)) (fun k acc H h _ => hG H h.1) ⟨same_new hD1, [], rfl, by simpa using Tups.nil⟩ (fun k acc H x hI hD hx hacc hk => ?_) (by rw [List.length_map]; exact hl) (fun acc H hI hD _ => ?_)
  · obtain ⟨sm, as, ea, tp⟩ := hI
    rw [List.getElem?_map] at hx
    cases hu : us[k]? with
    | none => rw [hu] at hx; cases hx
    | some u =>
      rw [hu] at hx
      cases hx
      have hm : u ∈ us := List.mem_of_getElem? hu
      have et : us.take (k + 1) = us.take k ++ [u] := by
        rw [List.take_add_one, hu]
        rfl
      refine hg H u sm hm _ ⟨hw u hm, ?_⟩
      refine ht H u sm hm _ (fun H3 s3 => ?_)
      by_cases hp : p u = true
      · rw [if_pos hp]
        refine he H3 u (sm.trans s3) hm hp _ (fun a H4 s4 h4 => ?_)
        have hD4 := s4 _ _ (s3 _ _ hD)
        have kp : TupKeep H4 (upd H4 D (.lst (acc ++ [V.ref a]))) := TupKeep.at fun xs z => by rw [hD4] at z; cases z
        refine lc_take hD4 hacc hk ⟨same_mut ((sm.trans s3).trans s4) hD1, as ++ [a], by rw [ea, List.map_append]; rfl, ?_⟩
        rw [et, List.filter_append, List.map_append, List.filter_cons, hp]
        exact ((tp.keep (TupKeep.of (s3.trans s4))).snoc h4).keep kp
      · rw [if_neg hp]
        refine lc_skip (s3 _ _ hD) hacc ⟨sm.trans s3, as, ea, ?_⟩
        rw [et, List.filter_append, List.map_append, List.filter_cons, if_neg hp]
        simpa using tp.keep (TupKeep.of s3)
  · obtain ⟨sm, as, ea, tp⟩ := hI
    rw [List.length_map, List.take_length] at tp
    rw [ea] at hD
    exact hd as H sm hD tp
/-- a dict with texts as its keys -/
theorem dc_tab (Y : Yields J (us.map val) G) (kf : α → Str) (vf : α → V) (p : α → Bool) (σf : α → L2.St) (hD1 : H1 D = none) (hG : ∀ H, Same H1 H → G H) (hw : ∀ u ∈ us, wipe (σf u) vs = wipe σ vs)
    (hg : ∀ H u, Same H1 H → u ∈ us → ∀ (R : L2.St → Hp → Prop), R (σf u) H → g (val u) (wipe σ vs) H R)
    (ht : ∀ H u, Same H1 H → u ∈ us → ∀ (R : Bool → Hp → Prop), (∀ H3, Same H H3 → R (p u) H3) → tt (σf u) H R)
    (hk : ∀ H u, Same H1 H → u ∈ us → p u = true → ∀ (R : VK), (∀ H3, Same H H3 → R (.str (kf u)) H3) → tk (σf u) H R)
    (hv : ∀ H u, Same H1 H → u ∈ us → p u = true → ∀ (R : VK), (∀ H3, Same H H3 → R (vf u) H3) → tv (σf u) H R)
    (hl : us.length ≤ 1000000) (nd : ((us.filter p).map kf).Nodup) (hd : ∀ H, Same H1 H → H D = some (.dK (kT ((us.filter p).map fun u => (kf u, vf u)))) → Q H) :
    ∃ W : Nat → Nat → Hp → Prop, (∃ m, W 0 m (upd H1 D (.dK []))) ∧ ∀ k m H, W k m H →
      (J.stop k H ∧ Q H) ∨ (J.go k H ∧ ∃ Nx : Hp → Prop, (∀ H', Nx H' → ∃ m', m' < m ∧ W (k + 1) m' H') ∧ ∀ x H', J.yld k H x H' → g x (wipe σ vs) H' fun σ2 H2 => wipe σ2 vs = wipe σ vs ∧ tt σ2 H2 fun b H3 =>
        if b = true then tk σ2 H3 fun y H4 => tv σ2 H4 fun z H5 => ∃ kvs key, y = kV key ∧ H5 D = some (.dK kvs) ∧ kvs.length < sizeLine ∧ Nx (upd H5 D (.dK (putK kvs key z))) else Nx H3) := by
  refine dcG Y (fun k kvs H => Same H1 H ∧ kvs = kT (((us.take k).filter p).map fun u => (kf u, vf u))) (fun k acc H h _ => hG H h.1) ⟨same_new hD1, rfl⟩ (fun k kvs H x hI hD hx hacc hk' => ?_) (by rw [List.length_map]; exact hl) (fun acc H hI hD _ => ?_)
  · obtain ⟨sm, ea⟩ := hI
    rw [List.getElem?_map] at hx
    cases hu : us[k]? with
    | none => rw [hu] at hx; cases hx
    | some u =>
      rw [hu] at hx
      cases hx
      have hm : u ∈ us := List.mem_of_getElem? hu
      have et : us.take (k + 1) = us.take k ++ [u] := by
        rw [List.take_add_one, hu]
        rfl
      refine hg H u sm hm _ ⟨hw u hm, ?_⟩
      refine ht H u sm hm _ (fun H3 s3 => ?_)
      by_cases hp : p u = true
      · rw [if_pos hp]
        refine hk H3 u (sm.trans s3) hm hp _ (fun H4 s4 => ?_)
        refine hv H4 u ((sm.trans s3).trans s4) hm hp _ (fun H5 s5 => ?_)
        have new : valV (((us.take k).filter p).map fun u => (kf u, vf u)) (kf u) = none := by
          cases c : valV (((us.take k).filter p).map fun u => (kf u, vf u)) (kf u) with
          | none => rfl
          | some z =>
            have m := valV_in c
            rw [List.map_map] at m
            have e : us.filter p = (us.take k).filter p ++ (u :: (us.drop (k + 1)).filter p) := by
              conv => lhs; rw [← List.take_append_drop (k + 1) us, et, List.filter_append, List.filter_append, List.filter_cons, hp]
              simp
            rw [e, List.map_append] at nd
            have := (List.nodup_append.mp nd).2.2 (kf u) m (kf u) List.mem_cons_self
            exact absurd rfl this
        refine dc_take (key := .inr (kf u)) (s5 _ _ (s4 _ _ (s3 _ _ hD))) hacc hk' ⟨same_mut (((sm.trans s3).trans s4).trans s5) hD1, ?_⟩
        rw [ea, putK_kT, putK_new _ new, et, List.filter_append, List.map_append, List.filter_cons, hp]
        rfl
      · rw [if_neg hp]
        refine dc_skip (s3 _ _ hD) hacc ⟨sm.trans s3, ?_⟩
        rw [et, List.filter_append, List.map_append, List.filter_cons, if_neg hp]
        simp [ea]
  · obtain ⟨sm, ea⟩ := hI
    rw [List.length_map, List.take_length] at ea
    rw [ea] at hD
    exact hd H sm hD
end
theorem val_keys (f : Str → V) (z : Str) : ∀ ys : List Str, valV (ys.map fun x => (x, f x)) z = if z ∈ ys then some (f z) else none
  | [] => rfl
  | y :: r => by
    show valV ((y, f y) :: r.map fun x => (x, f x)) z = _
    by_cases h : y = z
    · rw [valV_pos h, if_pos (by rw [h]; exact List.mem_cons_self), h]
    · rw [valV_neg h, val_keys f z r]
      by_cases m : z ∈ r
      · rw [if_pos m, if_pos (List.mem_cons_of_mem _ m)]
      · rw [if_neg m, if_neg (fun k => (List.mem_cons.mp k).elim (fun e => h e.symm) m)]
/-- the rows of a table in order -/
def SortOf (t u : Tab) : Prop := sortedS (u.map (·.1)) = true ∧ (u.map (·.1)).Perm (t.map (·.1)) ∧ ∀ x, valV u x = valV t x
theorem sortOf_keys {t : Tab} {ys : List Str} (hp : ys.Perm (t.map (·.1))) (hs : sortedS ys = true) : SortOf t (ys.map fun x => (x, (valV t x).getD .non)) := by
  have e : (ys.map fun x => (x, (valV t x).getD .non)).map (·.1) = ys := by
    rw [List.map_map]
    exact List.map_id' ys
  refine ⟨by rw [e]; exact hs, by rw [e]; exact hp, fun z => ?_⟩
  rw [val_keys (fun x => (valV t x).getD .non)]
  cases c : valV t z with
  | none => rw [if_neg (fun m => by have := mem_val.mp (hp.mem_iff.mp m); rw [c] at this; cases this)]
  | some v => rw [if_pos (hp.mem_iff.mpr (mem_val.mpr (by rw [c]; rfl)))]; rfl
theorem SortOf.nd {t u : Tab} (h : SortOf t u) (n : Nd t) : Nd u := h.2.1.nodup_iff.mpr n
theorem SortOf.len {t u : Tab} (h : SortOf t u) : u.length = t.length := by
  have := h.2.1.length_eq
  rw [List.length_map, List.length_map] at this
  exact this
def rowL (e : Str × V) : List V := [.str e.1, e.2]
/-! ### moves -/
def moveL (m : Str × V × V) : List V := [.str m.1, m.2.1, m.2.2]
def newsT (ms : List (Str × V × V)) : Tab := ms.map fun m => (m.1, m.2.2)
def notNon : V → Bool
  | .non => false
  | _ => true
def keptT (t n : Tab) : Tab := t.filter fun p => (valV n p.1).isNone
def madeT (n : Tab) : Tab := n.filter fun p => notNon p.2
def afterT (t : Tab) (ms : List (Str × V × V)) : Tab := keptT t (newsT ms) ++ madeT (newsT ms)
theorem zip_ms {α : Type} {as : List Addr} {ms : List α} (e : as.length = ms.length) : (as.zip ms).map (fun u => V.ref u.1) = as.map V.ref := by
  have : (fun u : Addr × α => V.ref u.1) = V.ref ∘ Prod.fst := rfl
  rw [this, ← List.map_map, List.map_fst_zip (by omega)]
theorem tups_get {α : Type} {H : Hp} {as : List Addr} {ms : List α} {f : α → List V} (tp : Tups H as (ms.map f)) {u : Addr × α} (h : u ∈ as.zip ms) : H u.1 = some (.tup (f u.2)) := by
  obtain ⟨i, hi⟩ := List.mem_iff_getElem?.mp h
  rw [List.getElem?_zip_eq_some] at hi
  refine tp.2 i _ _ hi.1 ?_
  rw [List.getElem?_map, hi.2]
  rfl
theorem ne_of_none' {H : Hp} {D a : Addr} {o : HO} (h : H D = none) (k : H a = some o) : D ≠ a := (ne_of_none k h).symm
theorem same_unlock {H H2 : Hp} {d : Addr} {od : Obj} {u : HO} (s : Same (upd H d (.frz od u)) H2) (h : H d = some u) : Same H (upd H2 d u) := fun b o e => by
  by_cases hb : b = d
  · rw [hb, upd_same, ← h, ← hb, e]
  · rw [upd_ne hb]
    exact s _ _ (by rw [upd_ne hb]; exact e)
theorem lock_ne {H : Hp} {d D : Addr} {o : HO} (h : upd H d o D = none) : D ≠ d := fun z => by
  rw [z, upd_same] at h
  cases h
theorem lock_free {H : Hp} {d D : Addr} {o : HO} (h : upd H d o D = none) : H D = none := by
  have n := lock_ne h
  rw [upd_ne n] at h
  exact h
/-- a walk over a locked table -/
theorem yields_tab {d : Addr} {o : Obj} {t : Tab} : Yields (Itk d o (kT t)) (t.map fun e => V.str e.1) (fun H => H d = some (.frz o (.dK (kT t)))) := by
  have : (t.map fun e => V.str e.1) = (kT t).map fun p => kV p.1 := by
    unfold kT
    rw [List.map_map]
    rfl
  rw [this]
  exact yields_keys
theorem yields_zip {α : Type} {K : PySem.W.Frag} {a : Addr} {as : List Addr} {ms : List α} (e : as.length = ms.length) : Yields (Itt K a) ((as.zip ms).map fun u => V.ref u.1) (fun H => SqT K H a (as.map V.ref)) := by
  rw [zip_ms e]
  exact yields_tup
theorem nd_filter {t : Tab} (h : Nd t) (p : Str × V → Bool) : Nd (t.filter p) := List.Nodup.sublist ((List.filter_sublist).map _) h
theorem nd_news {ms : List (Str × V × V)} (h : (ms.map (·.1)).Nodup) : Nd (newsT ms) := by
  unfold Nd newsT
  rw [List.map_map]
  exact h
theorem nd_after {t : Tab} {ms : List (Str × V × V)} (h : Nd t) (k : (ms.map (·.1)).Nodup) : Nd (afterT t ms) := by
  unfold Nd afterT
  rw [List.map_append]
  refine List.nodup_append.mpr ⟨nd_filter h _, nd_filter (nd_news k) _, fun x hx y hy e => ?_⟩
  obtain ⟨p, hp, rfl⟩ := List.mem_map.mp hx
  obtain ⟨q, hq, rfl⟩ := List.mem_map.mp hy
  have h1 := (List.mem_filter.mp hp).2
  have h2 := val_nodup (nd_news k) q (List.mem_filter.mp hq).1
  rw [e, h2] at h1
  cases h1
theorem len_after {t : Tab} {ms : List (Str × V × V)} : (afterT t ms).length ≤ t.length + ms.length := by
  unfold afterT
  rw [List.length_append]
  have h1 := List.length_filter_le (fun p : Str × V => (valV (newsT ms) p.1).isNone) t
  have h2 := List.length_filter_le (fun p : Str × V => notNon p.2) (newsT ms)
  have h3 : (newsT ms).length = ms.length := List.length_map ..
  unfold keptT madeT
  omega
theorem val_app {t u : Tab} (x : Str) : valV (t ++ u) x = (valV t x).or (valV u x) := by
  induction t with
  | nil => rfl
  | cons p r ih =>
    by_cases h : p.1 = x
    · rw [List.cons_append, valV_pos h, valV_pos h]
      rfl
    · rw [List.cons_append, valV_neg h, valV_neg h, ih]
theorem merge_kT : ∀ {t u : Tab}, Nd (t ++ u) → mergeK (kT t) (kT u) = kT (t ++ u)
  | t, [], _ => by rw [List.append_nil]; rfl
  | t, p :: r, h => by
    have e : t ++ p :: r = (t ++ [p]) ++ r := by rw [List.append_assoc]; rfl
    have new : valV t p.1 = none := by
      cases c : valV t p.1 with
      | none => rfl
      | some v =>
        have h : ((t ++ p :: r).map (·.1)).Nodup := h
        rw [List.map_append] at h
        exact absurd rfl ((List.nodup_append.mp h).2.2 _ (valV_in c) p.1 List.mem_cons_self)
    show mergeK (putK (kT t) (.inr p.1) p.2) (kT r) = _
    rw [putK_kT, putK_new _ new, e]
    rw [e] at h
    exact merge_kT h
/-- what a table holds behind moves -/
theorem val_filter {t : Tab} (h : Nd t) (p : Str × V → Bool) (x : Str) : valV (t.filter p) x = (valV t x).bind fun v => if p (x, v) = true then some v else none := by
  induction t with
  | nil => rfl
  | cons q r ih =>
    obtain ⟨h1, h2⟩ := List.nodup_cons.mp (show ((q :: r).map (·.1)).Nodup from h)
    have ih := ih h2
    have nr : q.1 = x → valV r x = none := fun e => by
      cases c : valV r x with
      | none => rfl
      | some v => exact absurd (show q.1 ∈ r.map (·.1) by rw [e]; exact valV_in c) h1
    rw [List.filter_cons]
    by_cases e : q.1 = x
    · rw [valV_pos e]
      have eq : q = (x, q.2) := by rw [← e]
      by_cases hp : p q = true
      · rw [if_pos hp, valV_pos e]
        show some q.2 = if p (x, q.2) = true then some q.2 else none
        rw [← eq, if_pos hp]
      · rw [if_neg hp, ih, nr e]
        show none = if p (x, q.2) = true then some q.2 else none
        rw [← eq, if_neg hp]
    · rw [valV_neg e]
      by_cases hp : p q = true
      · rw [if_pos hp, valV_neg e, ih]
      · rw [if_neg hp, ih]
theorem val_after {t : Tab} {ms : List (Str × V × V)} (h : Nd t) (k : (ms.map (·.1)).Nodup) (x : Str) : valV (afterT t ms) x = match valV (newsT ms) x with
    | none => valV t x
    | some v => if notNon v = true then some v else none := by
  unfold afterT keptT madeT
  rw [val_app, val_filter h, val_filter (nd_news k)]
  cases c : valV (newsT ms) x with
  | none =>
    cases d : valV t x with
    | none => rfl
    | some v => simp [c]
  | some v =>
    cases d : valV t x with
    | none => simp
    | some w => simp [c]
/-! ### logs -/
/-- the table tells the logs: tuples of entries -/
def LogsOk (H : Hp) (t : Tab) (L : Str → List (List V)) : Prop := ∀ x, (valV t x = none ∧ L x = []) ∨ ∃ p, (L x ≠ [] ∧ valV t x = some (.ref p)) ∧ TupsAt H p (L x)
def logPut (L : Str → List (List V)) (x : Str) (e : List V) : Str → List (List V) := fun y => if y = x then L y ++ [e] else L y
def logMoves (L : Str → List (List V)) (note : List V) (ms : List (Str × V × V)) : Str → List (List V) := ms.foldl (fun L m => logPut L m.1 ([m.2.1, m.2.2] ++ note)) L
theorem LogsOk.keep {H H' : Hp} {t : Tab} {L : Str → List (List V)} (h : LogsOk H t L) (k : TupKeep H H') : LogsOk H' t L := fun x => (h x).imp id fun ⟨p, a, b⟩ => ⟨p, a, b.keep k⟩
theorem LogsOk.of {H : Hp} {t u : Tab} {L : Str → List (List V)} (h : LogsOk H t L) (e : ∀ x, valV u x = valV t x) : LogsOk H u L := fun x => by
  rw [e]
  exact h x
theorem LogsOk.put {H : Hp} {t : Tab} {L : Str → List (List V)} (h : LogsOk H t L) {x : Str} {p : Addr} {e : List V} (tp : TupsAt H p (L x ++ [e])) : LogsOk H (putK t x (.ref p)) (logPut L x e) := fun y => by
  unfold logPut
  rw [valV_put]
  by_cases c : y = x
  · rw [if_pos c, if_pos c, c]
    exact .inr ⟨p, ⟨List.append_ne_nil_of_right_ne_nil _ (fun z => nomatch z), rfl⟩, tp⟩
  · rw [if_neg c, if_neg c]
    exact h y
theorem len_put (t : Tab) (x : Str) (v : V) : (putK t x v).length ≤ t.length + 1 := length_putK t x v
theorem logMoves_take {L : Str → List (List V)} {note : List V} {ms : List (Str × V × V)} {i : Nat} {m : Str × V × V} (h : ms[i]? = some m) : logMoves L note (ms.take (i + 1)) = logPut (logMoves L note (ms.take i)) m.1 ([m.2.1, m.2.2] ++ note) := by
  unfold logMoves
  rw [List.take_add_one, h, List.foldl_append]
  rfl
theorem catA {K : PySem.W.Frag} {H : Hp} {a b : Addr} {xs ys : List V} {Q : VK} (ha : SqT K H a xs) (hb : H b = some (.tup ys)) (ny : ys ≠ []) (hz : xs.length + ys.length ≤ 1000000) (q : ∀ p H', Same H H' → H' p = some (.tup (xs ++ ys)) → Q (.ref p) H') : rCatA K (.ref a) (.ref b) H Q :=
  ⟨a, b, xs, ys, rfl, rfl, ha, SqT.of hb, small_line hz, fun e => q b H (Same.refl H) (by rw [e]; exact hb), fun _ e => absurd e ny, fun _ _ p hp => q p _ (same_new hp) upd_same⟩
/-- an entry is put behind the log of a name -/
theorem log_step {K : PySem.W.Frag} {H : Hp} {D2 nt : Addr} {lt : Tab} {L : Str → List (List V)} {x : Str} {v1 v2 n1 n2 n3 : V} {tk t1 t2 td tn : TE} {D : Ends} {σ : L2.St} (hD : H D2 = some (.dK (kT lt))) (lk : LogsOk H lt L) (hnt : H nt = some (.tup [n1, n2, n3]))
    (b : (L x).length ≤ 100000) (hl : lt.length ≤ 1000) (ek : ∀ H' Q, Q (.str x) H' → tk σ H' Q) (e1 : ∀ H' Q, Q v1 H' → t1 σ H' Q) (e2 : ∀ H' Q, Q v2 H' → t2 σ H' Q) (ed : ∀ H' Q, Q (.ref D2) H' → td σ H' Q) (en : ∀ H' Q, Q (.ref nt) H' → tn σ H' Q)
    (q : ∀ H' p, FrL [D2] H H' → TupKeep H H' → H' D2 = some (.dK (kT (putK lt x (.ref p)))) → LogsOk H' (putK lt x (.ref p)) (logPut L x ([v1, v2] ++ [n1, n2, n3])) → D.nx σ H') :
    sDPut td tk (tOp (rCatA K) (tDGet2 td tk (tTup tNil)) (tTup (tCons (tOp (rCatA K) (tTup (tCons t1 (tCons t2 tNil))) tn) tNil))) D σ H := by
  refine ed _ _ ⟨D2, rfl, .inl ⟨_, .inl hD⟩, ek _ _ ⟨Nat.zero_le _, fun pe hpe => ⟨valV lt x, ?_, ?_⟩⟩⟩
  · exact dget_kT (.inl (by rw [upd_ne (ne_of_none hD hpe)]; exact hD)) x
  · have s0 : Same H (upd H pe (.tup [])) := same_new hpe
    have p0 : (upd H pe (.tup [])) pe = some (.tup []) := upd_same
    generalize upd H pe (.tup []) = H0 at s0 p0
    obtain ⟨a, as, ea, ha, ta⟩ : ∃ (a : Addr) (as : List Addr), (valV lt x).getD (.ref pe) = .ref a ∧ H0 a = some (.tup (as.map V.ref)) ∧ Tups H0 as (L x) := by
      rcases lk x with ⟨e, l⟩ | ⟨p, ⟨_, e⟩, as, h, t⟩
      · exact ⟨pe, [], by rw [e]; rfl, p0, by rw [l]; exact Tups.nil⟩
      · exact ⟨p, as, by rw [e]; rfl, s0 _ _ h, t.keep (TupKeep.of s0)⟩
    rw [ea]
    have la : as.length ≤ 100000 := by rw [ta.1]; exact b
    refine e1 _ _ (e2 _ _ ⟨(by show 2 ≤ sizeLine; decide), fun p2 hp2 => en _ _ ?_⟩)
    refine catA (SqT.of upd_same) ((same_new hp2) _ _ (s0 _ _ hnt)) (fun z => nomatch z) (by show 2 + 3 ≤ _; decide) fun p3 H3 s3 h3 => ?_
    refine ⟨(by show 1 ≤ sizeLine; decide), fun p4 hp4 => ?_⟩
    have s04 : Same H0 (upd H3 p4 (.tup [V.ref p3])) := ((same_new hp2).trans s3).trans (same_new hp4)
    have h3' : (upd H3 p4 (.tup [V.ref p3])) p3 = some (.tup ([v1, v2] ++ [n1, n2, n3])) := (same_new hp4) _ _ h3
    have h4' : (upd H3 p4 (.tup [V.ref p3])) p4 = some (.tup [V.ref p3]) := upd_same
    generalize upd H3 p4 (.tup [V.ref p3]) = H4 at s04 h3' h4'
    refine catA (SqT.of (s04 _ _ ha)) h4' (fun z => nomatch z) (by rw [List.length_map]; show _ + 1 ≤ _; omega) fun p5 H5 s5 h5 => ?_
    have s05 := (s0.trans s04).trans s5
    have hD5 := s05 _ _ hD
    refine ed _ _ (ek _ _ ⟨D2, _, rfl, .inl ⟨kT lt, .inr x, hD5, rfl, small_lt (by rw [len_kT]; omega), rfl⟩, ?_⟩)
    rw [putK_kT]
    have kp : TupKeep H5 (upd H5 D2 (.dK (kT (putK lt x (.ref p5))))) := TupKeep.at fun xs z => by rw [hD5] at z; cases z
    have kp2 : TupKeep H (upd H5 D2 (.dK (kT (putK lt x (.ref p5))))) := (TupKeep.of s05).trans kp
    refine q _ p5 ((FrL.same s05).trans (FrL.at (List.mem_singleton_self D2))) kp2 upd_same ?_
    refine (lk.keep kp2).put ⟨as ++ [p3], ?_, ?_⟩
    · refine kp _ _ ?_
      rw [h5, List.map_append]
      rfl
    · exact ((ta.keep (TupKeep.of (s04.trans s5))).snoc (s5 _ _ h3')).keep kp
theorem logMoves_len (L : Str → List (List V)) (note : List V) (x : Str) : ∀ ms : List (Str × V × V), (logMoves L note ms x).length ≤ (L x).length + ms.length := by
  intro ms
  induction ms generalizing L with
  | nil => exact Nat.le_refl _
  | cons m r ih =>
    have := ih (logPut L m.1 ([m.2.1, m.2.2] ++ note))
    have e : (logPut L m.1 ([m.2.1, m.2.2] ++ note) x).length ≤ (L x).length + 1 := by
      unfold logPut
      split
      · rw [List.length_append]
        exact Nat.le_refl _
      · omega
    show (logMoves (logPut L m.1 ([m.2.1, m.2.2] ++ note)) note r x).length ≤ _
    rw [List.length_cons]
    omega
theorem dp_head {K : PySem.W.Frag} {H : Hp} {p : Addr} {a b : Str} (h : TupK K H p [.str a, .str b]) : Dp K H (.ref p) (.tuple [.str a, .str b]) := .tup h.sq (.cons (.str a) (.cons (.str b) .nil))
theorem shaped_head {a b : Str} (ha : OkS a) (hb : OkS b) : SeqAt.shaped (.tuple [.str a, .str b]) = true := by
  simp [SeqAt.shaped, PyData.canLay0, PyData.canLayAll0, strOk_of ha, strOk_of hb, PyData.depth, PyData.depthAll]
theorem eqv_head (a b c d : Str) : PyData.eqv (.tuple [.str a, .str b]) (.tuple [.str c, .str d]) = decide ((c, d) = (a, b)) := by
  simp only [PyData.eqv, PyData.eqvAll]
  rw [Bool.eq_iff_iff]
  simp only [Bool.and_eq_true, beq_iff_eq, decide_eq_true_eq, Prod.mk.injEq, and_true]
  exact ⟨fun ⟨x, y⟩ => ⟨x.symm, y.symm⟩, fun ⟨x, y⟩ => ⟨x.symm, y.symm⟩⟩
def flatN : V → Prop
  | .non => True
  | .str _ => True
  | _ => False
theorem scal_flat {x y : V} (hx : flatN x) (hy : flatN y) : scal x y = true := by
  cases x <;> cases y <;> first | rfl | exact hx.elim | exact hy.elim
def ledF (t : Tab) (x n : Str) : V := if x = "id" then .str n else (valV t n).getD .non
theorem flat_val {t : Tab} (h : ∀ e ∈ t, flatN e.2) (x : Str) : flatN ((valV t x).getD .non) := by
  induction t with
  | nil => exact True.intro
  | cons p r ih =>
    by_cases e : p.1 = x
    · rw [valV_pos e]
      exact h p List.mem_cons_self
    · rw [valV_neg e]
      exact ih fun q hq => h q (List.mem_cons_of_mem _ hq)
theorem flat_led {t : Tab} (h : ∀ e ∈ t, flatN e.2) (x n : Str) : flatN (ledF t x n) := by
  unfold ledF
  split
  · exact True.intro
  · exact flat_val h n
theorem flat_after {t : Tab} {ms : List (Str × V × V)} (h : ∀ e ∈ t, flatN e.2) (k : ∀ m ∈ ms, flatN m.2.2) : ∀ e ∈ afterT t ms, flatN e.2 := fun e he => by
  rcases List.mem_append.mp he with he | he
  · exact h e (List.mem_filter.mp he).1
  · obtain ⟨m, hm, rfl⟩ := List.mem_map.mp (List.mem_filter.mp he).1
    exact k m hm
end Fk

set_option maxHeartbeats 4000000
/-! What stands where references and edits are. -/
namespace Fk
open PySem PySem.Spec PyProof.Rows L2
/-- the fields of references -/
def rf (lk tb hd lg : Addr) : List (Str × V) := [("_locks", .ref lk), ("_table", .ref tb), ("_head", .ref hd), ("_logs", .ref lg)]
/-- the fields of an edit -/
def ef (R nt cl : Addr) (nh : V) (b : Bool) : List (Str × V) := [("_refs", .ref R), ("_note", .ref nt), ("_calls", .ref cl), ("_new_head", nh), ("closed", .bl b)]
/-- the calls of an edit: names, what they shall have, what they had -/
def CallsAt (H : Hp) (cl : Addr) (cs : List (Str × V × V)) : Prop := ∃ zs : List (Addr × (Str × V × V)), zs.map (·.2) = cs ∧ H cl = some (.dK (kT (zs.map fun z => (z.2.1, .ref z.1)))) ∧ ∀ z ∈ zs, H z.1 = some (.tup [z.2.2.1, z.2.2.2])
/-- the locks: those of closed edits and those of the edit at E -/
def LocksAt (H : Hp) (CE lk E : Addr) (n : Nat) : Prop := ∃ kt : Tab, H lk = some (.dK (kT kt)) ∧ Nd kt ∧ kt.length ≤ 64 ∧ (kt.filter fun p => decide (p.2 = .ref E)).length ≤ n ∧ ∀ p ∈ kt, p.2 = .ref E ∨ ∃ e dx fs, p.2 = .ref e ∧ H e = some (.ins CE dx fs) ∧ fs.lookup ("closed" : Str) = some (.bl true)
theorem mem_putK {t : Tab} {x : Str} {v : V} {p : Str × V} (h : p ∈ putK t x v) : p ∈ t ∨ p.2 = v := by
  unfold putK at h
  split at h
  · obtain ⟨q, hq, e⟩ := List.mem_map.mp h
    by_cases c : q.1 = x
    · rw [if_pos c] at e
      exact .inr (by rw [← e])
    · rw [if_neg c] at e
      exact .inl (by rw [← e]; exact hq)
  · rcases List.mem_append.mp h with h | h
    · exact .inl h
    · exact .inr (by rw [List.mem_singleton.mp h])
theorem LocksAt.keep {H H' : Hp} {CE lk E : Addr} {n : Nat} (h : LocksAt H CE lk E n) (e : ∀ o, H lk = some o → H' lk = some o) (k : ∀ a dx fs, H a = some (.ins CE dx fs) → fs.lookup ("closed" : Str) = some (.bl true) → H' a = some (.ins CE dx fs)) : LocksAt H' CE lk E n := by
  obtain ⟨kt, a, b, c, c', d⟩ := h
  exact ⟨kt, e _ a, b, c, c', fun p hp => (d p hp).imp id fun ⟨x, dx, fs, h1, h2, h3⟩ => ⟨x, dx, fs, h1, k _ _ _ h2 h3, h3⟩⟩
theorem LocksAt.same {H H' : Hp} {CE lk E : Addr} {n : Nat} (h : LocksAt H CE lk E n) (s : Same H H') : LocksAt H' CE lk E n := h.keep (fun o e => s _ _ e) fun _ _ _ e _ => s _ _ e
theorem FrL.out {L : List Addr} {H H' : Hp} (f : FrL L H H') {b : Addr} {o : HO} (e : H b = some o) (n : ∀ a ∈ L, b ≠ a) : H' b = some o := f b o (fun z => n b z rfl) e
theorem not1 {a b : Addr} (h : b ≠ a) : ∀ c ∈ [a], b ≠ c := fun c hc => by rw [List.mem_singleton.mp hc]; exact h
theorem not2 {a c b : Addr} (h : b ≠ a) (k : b ≠ c) : ∀ d ∈ [a, c], b ≠ d := fun d hd => by
  rcases List.mem_cons.mp hd with e | hd
  · rw [e]; exact h
  · rw [List.mem_singleton.mp hd]; exact k
theorem at_ne {H : Hp} {a b : Addr} {o u : HO} (h : H a = some o) (k : H b = some u) (n : o ≠ u) : a ≠ b := fun z => by
  rw [z, k] at h
  exact n (Option.some.inj h).symm
/-- what an edit has behind a call -/
def callPut (cs : List (Str × V × V)) (x : Str) (v o : V) : List (Str × V × V) := cs.filter (fun c => decide (c.1 ≠ x)) ++ [(x, v, o)]
theorem CallsAt.keep {H H' : Hp} {cl : Addr} {cs : List (Str × V × V)} (h : CallsAt H cl cs) (k : TupKeep H H') (e : ∀ o, H cl = some o → H' cl = some o) : CallsAt H' cl cs := by
  obtain ⟨zs, a, b, c⟩ := h
  exact ⟨zs, a, e _ b, fun z hz => k _ _ (c z hz)⟩
theorem calls_drop (zs : List (Addr × (Str × V × V))) (x : Str) : dropK (zs.map fun z => (z.2.1, V.ref z.1)) x = (zs.filter fun z => decide (z.2.1 ≠ x)).map fun z => (z.2.1, V.ref z.1) := by
  unfold dropK
  rw [List.filter_map]
  rfl
theorem calls_put {H : Hp} {cl p : Addr} {zs : List (Addr × (Str × V × V))} {x : Str} {v o : V} (hc : H cl = some (.dK (kT (putK (dropK (zs.map fun z => (z.2.1, V.ref z.1)) x) x (.ref p))))) (hz : ∀ z ∈ zs, H z.1 = some (.tup [z.2.2.1, z.2.2.2])) (hp : H p = some (.tup [v, o])) :
    CallsAt H cl (callPut (zs.map (·.2)) x v o) := by
  refine ⟨zs.filter (fun z => decide (z.2.1 ≠ x)) ++ [(p, x, v, o)], ?_, ?_, fun z h => ?_⟩
  · unfold callPut
    rw [List.map_append, List.filter_map]
    rfl
  · rw [hc, calls_drop, putK_new]
    · rw [List.map_append]
      rfl
    · rw [← calls_drop, valV_drop, if_pos rfl]
  · rcases List.mem_append.mp h with h | h
    · exact hz z (List.mem_filter.mp h).1
    · rw [List.mem_singleton.mp h]
      exact hp
/-! ### errors that are raised -/
def spErr (K : PySem.W.Frag) (f : Str) : Sp := fun vs H Q _ => ∃ (a C fI : Addr) (y : V), vs = [.ref a, y] ∧ XC K C fI ∧ PySem.W.findIn K (.ref C) f = some none ∧ H a = some (exo a C none) ∧
  ∀ dx, H dx = none → dx ≠ a → Q .non (upd (upd H dx (exd dx [(f, y)])) a (exo a C (some dx)))
/-- what is asked of an error's class to be raised -/
structure OexW (K : PySem.W.Frag) (C : Addr) : Prop where
  exC : PySem.W.subIn K (.ref C) (.type "BaseException") = some true
  tyC : PySem.W.typeIn K (.ref C) = some (.type "type")
instance {K : PySem.W.Frag} {C : Addr} : Coe (OexC K C) (OexW K C) := ⟨fun h => ⟨h.exC, h.tyC⟩⟩
structure ErrC (K : PySem.W.Frag) (mg : Str → Option Value) (nm f : Str) (C fI : Addr) : Prop where
  mgc : mg nm = some (.ref C)
  ox : OexW K C
  xc : XC K C fI
  nf : PySem.W.findIn K (.ref C) f = some none
  ini : ∃ fd, (∀ (P : Program) (w : World) (base : Heap), FnOk P w K mg base C8.CX0 1 fI fd ["self", f] (spErr K f)) ∧ Binds K fd ["self", f] []
section
variable {X : Cx} {nm f : Str} {C fI : Addr} {e : Expr} {es : List Expr} {t : TA} {p pos : Pos}
theorem rs_of (T : ErrC X.K X.mg nm f C fI) (hr : Room 2 X.A) (hg : Gl X nm) (ha : PA X (e :: es) t) (hdb : (nm == ("__debug__" : Str)) = false := by decide)
    (he : starEach (e :: es) X.env = (false, eval e X.env) :: starEach es X.env := by rfl) (hpl : (backTo pos (starEach es X.env)).any (·.1) = false := by rfl) :
    PMk X (.Call (.Name nm p) (e :: es) [] pos) (tMkO C (spErr X.K f) [] t) := by
  obtain ⟨fd, FI, bI⟩ := T.ini
  have F1 := FI X.prog X.w X.base
  intro pn s σ H Q I h
  obtain ⟨B, newId, initId, bmB, cn, cq, N, bs, bm, sn, sub, ab, col, dd, k0, k1, k2, k3, k5, FB, ok, _, _, hC⟩ := T.xc.cls
  refine wpAny_Call_Name_kw (ld_glob I hg T.mgc ?_ hdb)
  refine PySem.W.callWith_K (h₀ := X.base) I.ok.mod.kin T.xc.kC (thn (ha.run pos pn s σ H _ I h) fun us sA ⟨vs, HA, IA, rA, zA, qA⟩ => ⟨IA.kIn, ?_⟩) he hpl
  show wpAny _ _ (call (.ref C) us) _ _ _
  obtain ⟨hp, g, dr, tk, os⟩ := sA
  have szE : hp.objs.size ≤ hp.objs.size + 1 := Nat.le_succ _
  have qE := qA (hp.objs.size + 1) (IA.hok.fresh szE)
  rw [List.append_nil] at qE
  have stays : ∀ b o, hp.get? b = some o → ((hp.push (PySem.W.kdv_tup us)).push (PySem.HandSPX.excO C hp.objs.size)).get? b = some o := fun b o z => Heap.get?_push_of_some _ (Heap.get?_push_of_some _ z)
  have atE : ((hp.push (PySem.W.kdv_tup us)).push (PySem.HandSPX.excO C hp.objs.size)).get? (hp.objs.size + 1) = some (PySem.HandSPX.excO C hp.objs.size) := by heap_get
  have IB : Inv X pn σ (upd HA (hp.objs.size + 1) (exo (hp.objs.size + 1) C none)) ⟨(hp.push (PySem.W.kdv_tup us)).push (PySem.HandSPX.excO C hp.objs.size), g, dr, tk, os⟩ :=
    IA.laid (t' := tk) (a := hp.objs.size + 1) (o := exo (hp.objs.size + 1) C none) (h' := (hp.push (PySem.W.kdv_tup us)).push (PySem.HandSPX.excO C hp.objs.size)) stays szE (exo_ok atE)
  have rB : Vals (V.ref (hp.objs.size + 1) :: vs) (Value.ref (hp.objs.size + 1) :: us) := .cons rfl rA
  have lB : (Value.ref (hp.objs.size + 1) :: us ++ []).length = [("self" : Str), f].length := by
    rw [List.append_nil, ← F1.len _ _ _ _ qE]
    exact rB.length.symm
  have usz : us.length ≤ sizeLine := by
    rw [← Paired.length rA, sizeLine_eq]; omega
  have bB := bI _ (Value.ref (hp.objs.size + 1) :: us) IB.kIn lB
  rw [List.append_nil] at bB
  refine wpAny_call (xcall FB ok (IA.kIn _ _ hC) (PySem.W.looks_findIn IA.kIn T.xc.iC) (fun self => PySem.W.bind_fn IA.kIn self T.xc.tI) usz
    (codeAny_mono (F1.run _ X.stack _ _ ⟨Value.ref (hp.objs.size + 1) :: us, []⟩ (Value.ref (hp.objs.size + 1) :: us) _ _ (fun _ _ _ => False) (hr.make C us []) (IB.env0.make C us []) bB rB qE) fun r s' z => ?_))
  rcases r with er | (_ | _ | _ | u)
  · exact absurd z id
  · exact z.elim
  · exact z.elim
  · exact z.elim
  · obtain ⟨v, HB, osB, bareB, unB, okB, rvB, ev, d, fs, ea, ed, nd, qB⟩ := z
    subst ev
    obtain ⟨hB, gB, dB, tB, osC⟩ := s'
    exact ⟨rvB, mk_end (raises_own T.ox.exC T.ox.tyC) IA szE stays unB okB osB bareB ea ed nd qB⟩
end
/-- an error made to be raised -/
theorem do_raise {K : PySem.W.Frag} {mg : Str → Option Value} {nm f : Str} {C fI : Addr} (T : ErrC K mg nm f C fI) {Hc : Hp} {y : V} {Q : XK} (q : ∀ d H', Same Hc H' → Hc d = none → H' d = some (.xd [(f, y)]) → Q (.ref C) (some d) H') :
    ∀ a, Hc a = none → spErr K f (.ref a :: ([y] ++ [])) (upd Hc a (exo a C none)) (fun v H2 => v = .non ∧ ∃ (d : Addr) (fs : List (Str × V)), H2 a = some (exo a C (some d)) ∧ H2 d = some (exd d fs) ∧ Hc d = none ∧ Q (.ref C) (some d) (upd (del H2 a) d (.xd fs))) (fun _ _ _ => False) := by
  intro a na
  refine ⟨a, C, fI, y, rfl, T.xc, T.nf, upd_same, fun dx nd ne => ⟨rfl, dx, [(f, y)], upd_same, by rw [upd_ne ne]; exact upd_same, ?_, ?_⟩⟩
  · rw [upd_ne ne] at nd
    exact nd
  · have nd' : Hc dx = none := by rw [upd_ne ne] at nd; exact nd
    refine q dx _ (fun b o e => ?_) nd' upd_same
    have n1 : b ≠ a := ne_of_none e na
    have n2 : b ≠ dx := ne_of_none e nd'
    rw [upd_ne n2]
    unfold del
    rw [if_neg n1, upd_ne n1, upd_ne n2, upd_ne n1]
    exact e
/-! ### what an edit moves -/
def bad (t : Tab) (c : Str × V × V) : Bool := !decide (c.2.2 = .str "") && !decide (c.2.2 = (valV t c.1).getD .non)
def staleF (t : Tab) (cs : List (Str × V × V)) : Option Str := (cs.find? (bad t)).map (·.1)
def newT (cs : List (Str × V × V)) : Tab := cs.map fun c => (c.1, c.2.1)
def rowsF (t : Tab) (cs : List (Str × V × V)) (ys : List Str) : List (Str × V × V) := ys.map fun x => (x, (valV t x).getD .non, (valV (newT cs) x).getD .non)
def movesF (t : Tab) (cs : List (Str × V × V)) (ys : List Str) : List (Str × V × V) := (rowsF t cs ys).filter fun m => !decide (m.2.1 = m.2.2)
theorem stale_at {t : Tab} {cs : List (Str × V × V)} {i : Nat} {c : Str × V × V} (h : cs[i]? = some c) (g : ∀ d ∈ cs.take i, bad t d = false) (b : bad t c = true) : staleF t cs = some c.1 := by
  have e : cs = cs.take i ++ c :: cs.drop (i + 1) := by
    have hi := (List.getElem?_eq_some_iff.mp h)
    obtain ⟨hi, hc⟩ := hi
    rw [← hc, List.getElem_cons_drop, List.take_append_drop]
  unfold staleF
  rw [e, List.find?_append]
  have n : (cs.take i).find? (bad t) = none := List.find?_eq_none.mpr fun d hd z => by rw [g d hd] at z; cases z
  rw [n, List.find?_cons, b]
  rfl
theorem stale_none {t : Tab} {cs : List (Str × V × V)} (g : ∀ d ∈ cs, bad t d = false) : staleF t cs = none := by
  unfold staleF
  rw [List.find?_eq_none.mpr fun d hd z => by rw [g d hd] at z; cases z]
  rfl
theorem movesF_nd {t : Tab} {cs : List (Str × V × V)} {ys : List Str} (h : ys.Nodup) : ((movesF t cs ys).map (·.1)).Nodup := by
  refine List.Nodup.sublist ((List.filter_sublist).map _) ?_
  unfold rowsF
  rw [List.map_map]
  have : ((fun x : Str × V × V => x.1) ∘ fun x : Str => (x, (valV t x).getD V.non, (valV (newT cs) x).getD V.non)) = id := rfl
  rw [this, List.map_id]
  exact h
theorem movesF_len (t : Tab) (cs : List (Str × V × V)) (ys : List Str) : (movesF t cs ys).length ≤ ys.length := by
  have := List.length_filter_le (fun m : Str × V × V => !decide (m.2.1 = m.2.2)) (rowsF t cs ys)
  unfold rowsF at this
  rw [List.length_map] at this
  exact this
theorem flat_new {cs : List (Str × V × V)} (h : ∀ c ∈ cs, flatN c.2.1) : ∀ e ∈ newT cs, flatN e.2 := fun e he => by
  obtain ⟨c, hc, rfl⟩ := List.mem_map.mp he
  exact h c hc
theorem flat_moves {t : Tab} {cs : List (Str × V × V)} {ys : List Str} (ht : ∀ e ∈ t, flatN e.2) (h : ∀ c ∈ cs, flatN c.2.1) : ∀ m ∈ rowsF t cs ys, flatN m.2.1 ∧ flatN m.2.2 := fun m hm => by
  obtain ⟨x, _, rfl⟩ := List.mem_map.mp hm
  exact ⟨flat_val ht x, flat_val (flat_new h) x⟩
theorem have_after {t u : Tab} {ms : List (Str × V × V)} (nt : Nd t) (so : SortOf t u) (nm : (ms.map (·.1)).Nodup) : haveF ((afterT u ms).map (·.1)) = haveF ((afterT t ms).map (·.1)) :=
  have_perm (keys_perm (nd_after (so.nd nt) nm) (nd_after nt nm) fun x => by rw [val_after (so.nd nt) nm, val_after nt nm, so.2.2])
theorem yields_zipL {α : Type} {K : PySem.W.Frag} {a : Addr} {as : List Addr} {ms : List α} (e : as.length = ms.length) : Yields (Itl K a) ((as.zip ms).map fun u => V.ref u.1) (fun H => SqL K H a (as.map V.ref)) := by
  rw [zip_ms e]
  exact yields_list
end Fk

set_option maxHeartbeats 4000000
/-! x[y] of an own class. -/
namespace Fk
open PySem PySem.Spec PyProof.Rows L2
section
variable {P : Program} {w : World} {K : PySem.W.Frag} {mg : Str → Option Value} {base : Heap} {k : Nat} {C : Addr} {m : Str} {sp : Sp}
theorem ownM_of (M : C8.Met P w K mg base k C m sp []) : OwnM P w K mg base C8.CX0 k C m sp := by
  obtain ⟨f, fd, ps, ds, _, hm, F, b, d⟩ := M.ex
  cases d
  exact ⟨f, fd, ps, hm.at_, hm.fn, F, b⟩
/-- .. whose def is known as a def -/
structure GetM (P : Program) (w : World) (K : PySem.W.Frag) (mg : Str → Option Value) (base : Heap) (k : Nat) (C : Addr) (sp : Sp) : Prop where
  ex : ∃ (f : Addr) (fd : FuncData) (ps : List Str), PySem.W.findIn K (.ref C) "__getitem__" = some (some (.ref f)) ∧ PySem.W.isFn K (.ref f) = true ∧ PySem.W.fnIn K f = true ∧ FnOk P w K mg base C8.CX0 k f fd ps sp ∧ Binds K fd ps []
theorem getM_of {qual : Str} {st : Stmt} {N ps : List Str} (D : MDef K C "__getitem__" qual st) (S : FnScope N ps (C8.fnScope st))
    (hb : ∀ (kV doc pm : Value) (an : Option Addr) (cdv ct : Value) (us : List Value), us.length = ps.length → bindArgs (PySem.W.fnOf "__getitem__" qual (C8.fnArgs st) (C8.fnBody st) (C8.fnScope st) .none kV doc pm an cdv ct) ⟨us, []⟩ = pure (ps.zip us))
    (len : ∀ vs H Q E, sp vs H Q E → vs.length = ps.length)
    (hbody : ∀ (f : Addr) (cdv : Value) (A : Around) (outer : List Env) (s : Shared) (H : Hp) (vs : List V) (Q : VK) (E : XK), Room k (A.deeper (envOfC qual (C8.fnScope st) s.heap.objs.size f cdv)) → sp vs H Q E →
      ∃ t, PSs (cxOf C8.CX0 P w K mg base N qual (C8.fnScope st) f cdv A outer s H E).nox (C8.fnBody st) t ∧ t { nx := fun _ H' => Q .non H', rt := Q } (start N vs) H) : GetM P w K mg base (k + 1) C sp := by
  obtain ⟨f, fd, F, M, df⟩ := D.ex
  have G := C8.fn0 (P := P) (w := w) (mg := mg) (base := base) F S len (hbody f)
  have b := F.binds df hb
  obtain ⟨oc, od, dV, kV, doc, pm, an, cdv, ct, osl, rfl, lk, hcd⟩ := F.ex
  refine ⟨f, _, ps, M.at_, M.fn, ?_, G, b⟩
  unfold PySem.W.fnIn
  rw [lk]
end
section
variable {X : Cx} {k : Nat} {C : Addr} {sp : Sp} {o i : Expr} {td ty : TE} {pos : Pos}
def tOwnGet (C : Addr) (sp : Sp) (td ty : TE) : TE := fun σ H Q => td σ H fun x H1 => ty σ H1 fun y H2 => ∃ (a dx : Addr) (fs : List (Str × V)), x = .ref a ∧ H2 a = some (.ins C dx fs) ∧ sp [x, y] H2 Q C8.E0
theorem pe_ownGet (M : GetM X.prog X.w X.K X.mg X.base k C sp) (hr : Room (k + 1) X.A) (ho : PE X o td) (hi : PE X i ty)
    (hsl : ∀ x iv, subscripted i true (.ref x) iv = runValue (.builtin "lifetime.subscript" ⟨[.ref x, iv], []⟩) := by intro _ _; with_unfolding_all rfl) : PE X (.Subscript o i pos) (tOwnGet C sp td ty) := by
  refine ⟨fun pins s σ H Q I h => ?_⟩
  refine Subscript_ (thn (ho.run pins s σ H _ I h) fun v s1 ⟨x, H1, I1, rx, q1⟩ => thn (hi.run pins s1 σ H1 _ I1 q1) fun u s2 ⟨y, H2, I2, ry, a, dx, fs, ex, ha, q⟩ => ?_)
  subst ex
  obtain rfl : v = Value.ref a := rx
  obtain ⟨f, fd, ps, hs, hf, hfi, F, hb⟩ := M.ex
  obtain ⟨mA, J, _⟩ := ins_get I2.hok ha
  obtain ⟨od, J, _⟩ := J.look
  obtain ⟨m, hF⟩ := I2.fr
  exact PySem.W.sub_K hF I2.ok.mod.kin J hs hfi hf (run_in F hr.in1 I2.env0.in1 hb noEx0 I2 (show Vals [V.ref a, y] [Value.ref a, u] from .cons rfl (.cons ry .nil)) q) (hsl _ _)
end
end Fk

set_option maxHeartbeats 4000000
/-! xs[::-1] of a list, t[::-1] of a tuple. -/
namespace Fk
open PySem PySem.Spec PyProof.Rows L2 HT
theorem back_places (n : Nat) : Builtin.Slice.sliceAdjust none none (-1) (n : Int) = ((n : Int) - 1, -1) ∧ Builtin.Slice.slicePlaces ((n : Int) - 1) (-1) (-1) = n := by
  constructor
  · first | rfl | simp [Builtin.Slice.sliceAdjust]
  · unfold Builtin.Slice.slicePlaces
    rw [if_neg (by decide)]
    by_cases h : (n : Int) - 1 > -1
    · rw [if_pos h, show (- -1 : Int) = 1 by decide, Int.ediv_one]
      omega
    · rw [if_neg h]
      omega
theorem sliceApplied_back {prog : Program} {w : World} {A : Around} {E : Value → Shared → Prop} {s : Shared} {sl : Addr} {vk : Value} {n : Nat} {Q : Int × Int × Nat → Shared → Prop} (hs : s.heap.IsSliceOf sl .none .none vk) (pk : IsPart vk (some (-1)))
    (h : Q ((n : Int) - 1, -1, n) s) : wpAny (model prog w) A (Builtin.Slice.sliceApplied (.ref sl) (pure (n : Int))) Q E s := by
  obtain ⟨os, hos, hcs, hds⟩ := id hs
  unfold Builtin.Slice.sliceApplied Builtin.Slice.sliceFields
  refine wpAny_bind (wpAny_bind (wpAny_field hos hds (x := .none) rfl (wpAny_bind (wpAny_field hos hds (x := .none) rfl (wpAny_bind (wpAny_field hos hds (x := vk) rfl (wpAny_pure ?_)))))))
  refine wpAny_bind (slicePart_ pk ?_)
  show wpAny _ _ (if ((-1 : Int) == 0) = true then _ else _) _ _ s
  rw [if_neg (by decide)]
  refine wpAny_bind (slicePart_ .none (wpAny_bind (slicePart_ .none (wpAny_bind (wpAny_pure ?_)))))
  show wpAny _ _ (match Builtin.Slice.sliceAdjust none none (-1) (n : Int) with | (lo, hi) => pure (lo, (-1 : Int), Builtin.Slice.slicePlaces lo hi (-1))) _ _ s
  rw [(back_places n).1]
  show wpAny _ _ (pure ((n : Int) - 1, (-1 : Int), Builtin.Slice.slicePlaces ((n : Int) - 1) (-1) (-1))) _ _ s
  rw [(back_places n).2]
  exact wpAny_pure h
theorem fm_congr {α β : Type} {f g : α → Option β} : ∀ {l : List α}, (∀ x ∈ l, f x = g x) → l.filterMap f = l.filterMap g
  | [], _ => rfl
  | a :: r, h => by
    rw [List.filterMap_cons, List.filterMap_cons, h a List.mem_cons_self, fm_congr fun x hx => h x (List.mem_cons_of_mem _ hx)]
theorem pick_back (items : Array Value) : ((List.range items.size).filterMap fun (k : Nat) => items[((items.size : Int) - 1 + (k : Int) * (-1)).toNat]?) = items.toList.reverse := by
  have e : ((List.range items.size).filterMap fun (k : Nat) => items[((items.size : Int) - 1 + (k : Int) * (-1)).toNat]?) = ((List.range items.size).map fun k => items.size - 1 - k).filterMap (items[·]?) := by
    rw [List.filterMap_map]
    refine fm_congr fun k hk => ?_
    have := List.mem_range.mp hk
    show _ = items[items.size - 1 - k]?
    congr 1
    omega
  rw [e, PySem.W.krv_range, List.filterMap_reverse, PySem.W.krv_all]
theorem getItem_tuple_back {prog : Program} {w : World} {A : Around} {E : Value → Shared → Prop} {s : Shared} {t sl : Addr} {items : Array Value} {vk : Value} {Q : Value → Shared → Prop} (ht : IsTup s.heap t items) (hs : s.heap.IsSliceOf sl .none .none vk) (pk : IsPart vk (some (-1)))
    (h : Q (.ref s.heap.objs.size) { s with heap := s.heap.push { cls := .type "tuple", data := .seq items.toList.reverse.toArray } }) (hsz : items.size ≤ sizeLine) : wpAny (model prog w) A (getItem (.ref t) (.ref sl)) Q E s := by
  have htake : sizeOk (.seq items.toList.reverse.toArray) := by
    show items.toList.reverse.toArray.size ≤ sizeLine
    rw [List.size_toArray, List.length_reverse, Array.length_toList]
    exact hsz
  obtain ⟨os, hos, hcs, hds⟩ := id hs
  have hTs : s.TypeIs (.ref sl) "slice" := ⟨os, hos, hcs⟩
  unfold getItem
  try with_reducible refine wpAny_holding ?_
  first | refine wpAny_bind (wpAny_pure ?_) | skip
  refine wpAny_bind (wpAny_sequenceKey ht.typeIs (by decide) ?_)
  refine wpAny_bind (wpAny_callSpecial?_slot (name := Str.ofString "__getitem__") ht.typeIs PyProof.Rows.slot_tuple_getitem
    (wpAny_call_entry PyProof.Rows.slot_tuple_getitem ht.typeIs entry_tuple_getitem ?_ (args_tuple_getitem _ _)))
  show wpAny _ _ (Builtin.Tuple.tupleItemsOf (.ref t) >>= _) _ _ s
  refine wpAny_bind (tupleItemsOf_ ht ?_)
  refine wpAny_bind (wpAny_typeOf hTs ?_)
  rw [if_pos (by decide)]
  refine wpAny_bind (sliceApplied_back hs pk ?_)
  have hno : ¬ ((((items.size : Int) - 1) == 0 && (-1 : Int) == 1 && items.size == items.size) = true) := by
    rw [show ((-1 : Int) == 1) = false from by decide, Bool.and_false, Bool.false_and]
    exact Bool.false_ne_true
  show wpAny _ _ (if (((items.size : Int) - 1) == 0 && (-1 : Int) == 1 && items.size == items.size) = true then _ else _) _ _ s
  rw [if_neg hno, pick_back]
  first
    | exact wpAny_bind (m := Builtin.Tuple.tupleExact _) (wpAny_newObj_type (wpAny_pure ⟨_, rfl, wpAny_pure h⟩) htake)
    | exact wpAny_bind (m := Builtin.Tuple.tupleExact _) (wpAny_newObj_type (wpAny_bind (wpAny_pure (wpAny_pure ⟨_, rfl, wpAny_pure h⟩))) htake)
    | exact wpAny_bind (wpAny_bind (m := Builtin.Tuple.tupleExact _) (wpAny_newObj_type (wpAny_pure (wpAny_pure ⟨_, rfl, wpAny_pure h⟩)) htake))
    | exact wpAny_bind (wpAny_bind (m := Builtin.Tuple.tupleExact _) (wpAny_newObj_type (wpAny_pure ⟨_, rfl, wpAny_pure h⟩) htake))
def rBack (K : PySem.W.Frag) : V → Hp → VK → Prop := fun x H Q => (∃ a xs, x = .ref a ∧ SqL K H a xs ∧ ∀ p, H p = none → Q (.ref p) (upd H p (.lst xs.reverse))) ∨ ∃ a xs, x = .ref a ∧ SqT K H a xs ∧ ∀ p, H p = none → Q (.ref p) (upd H p (.tup xs.reverse))
def tBack (K : PySem.W.Frag) (te ts : TE) : TE := fun σ H Q => te σ H fun x H1 => ts σ H1 fun y H2 => y = .int (-1) ∧ rBack K x H2 Q
theorem vals_rev {xs : List V} {us : List Value} (r : Vals xs us) : Vals xs.reverse us.reverse := by
  induction r with
  | nil => exact .nil
  | cons h t ih =>
    rw [List.reverse_cons, List.reverse_cons]
    exact ih.append (.cons h .nil)
/-- e[::-1] -/
theorem pe_back {X : Cx} {e st : Expr} {te ts : TE} {p2 pos : Pos} (he : PE X e te) (hst : PE X st ts) (hp : evalPart (some st) X.env = eval st X.env := by rfl)
    (hsub : ∀ x sl : Addr, ∃ ops, subscripted (.Slice none none (some st) p2) false (.ref x) (.ref sl) = operate ops (getItem (.ref x) (.ref sl)) := by intro x sl; exact ⟨_, by with_unfolding_all rfl⟩) : PE X (.Subscript e (.Slice none none (some st) p2) pos) (tBack X.K te ts) := by
  refine ⟨fun pins s σ H Q I h => ?_⟩
  refine Subscript_ (thn (he.run pins s σ H _ I h) fun v s1 ⟨x, H1, I1, r1, q1⟩ => ?_)
  refine wpAny_Slice ?_
  rw [evalPart_none]
  refine wpAny_pure (wpAny_pure ?_)
  rw [hp]
  refine thn (hst.run pins s1 σ H1 _ I1 q1) fun vk s3 ⟨y, H3, I3, pk, ey, q3⟩ => ?_
  subst ey
  obtain ⟨tk, rfl⟩ := (show ∃ t, vk = Value.int (-1) t from pk)
  have pk' : IsPart (.int (-1) tk) (some (-1)) := .int _ _
  have I4 : Inv X pins σ H3 { s3 with heap := s3.heap.push { cls := .type "slice", data := .fields #[.none, .none, .int (-1) tk] } } := I3.kept (t' := s3.toks) fun b ob q => Heap.get?_push_of_some _ q
  have hs : Heap.IsSliceOf (s3.heap.push { cls := .type "slice", data := .fields #[.none, .none, .int (-1) tk] }) s3.heap.objs.size .none .none (.int (-1) tk) := Heap.IsSliceOf.new ..
  generalize hS : ({ s3 with heap := s3.heap.push { cls := .type "slice", data := .fields #[.none, .none, .int (-1) tk] } } : Shared) = S at I4
  have hs' : S.heap.IsSliceOf s3.heap.objs.size .none .none (.int (-1) tk) := by rw [← hS]; exact hs
  show wpAny (model X.prog X.w) X.A (subscriptTail e (.Slice none none (some st) p2) v (.ref s3.heap.objs.size)) (EP X pins σ Q) X.xe S
  rcases q3 with ⟨a, xs, rfl, hx, q⟩ | ⟨a, xs, rfl, hx, q⟩
  · cases (show v = Value.ref a from r1)
    obtain ⟨its, r, hl, hz⟩ := I4.list hx
    have hlen : its.toArray.size = xs.length := by rw [List.size_toArray]; exact r.length.symm
    obtain ⟨ops, eo⟩ := hsub a s3.heap.objs.size
    refine tail_any (T := "list") (ops := ops) hl.isList.typeIs slot_list_getitem.lookup ?_ eo
    refine wpAny_getItem_list_slice hl.isList hs' .none .none pk' (by decide) ?_ (by rw [hlen]; exact hz)
    rw [PySem.W.krv_pick]
    refine ⟨.ref S.heap.objs.size, _, I4.laid (t' := S.toks) (o := .lst xs.reverse) (fun b ob q => Heap.get?_push_of_some _ q) (Nat.le_refl _) ?_, rfl, q _ (I4.hok.fresh (Nat.le_refl _))⟩
    exact ⟨by rw [List.length_reverse]; exact hz, _, 0, (vals_rev r), Heap.get?_push_size _ rfl⟩
  · cases (show v = Value.ref a from r1)
    obtain ⟨its, r, ht, hz⟩ := I4.tuple hx
    have hlen : its.toArray.size = xs.length := by rw [List.size_toArray]; exact r.length.symm
    obtain ⟨ops, eo⟩ := hsub a s3.heap.objs.size
    refine tail_any (T := "tuple") (ops := ops) ht.typeIs PyProof.Rows.slot_tuple_getitem.lookup ?_ eo
    refine getItem_tuple_back ht hs' pk' ?_ (by rw [hlen]; exact hz)
    refine ⟨.ref S.heap.objs.size, _, I4.laid (t' := S.toks) (o := .tup xs.reverse) (fun b ob q => Heap.get?_push_of_some _ q) (Nat.le_refl _) ?_, rfl, q _ (I4.hok.fresh (Nat.le_refl _))⟩
    exact ⟨by rw [List.length_reverse]; exact hz, _, (vals_rev r), IsTup.new _ _⟩
end Fk

set_option maxHeartbeats 4000000
/-! What calls make of a table, one by one and by moves. -/
namespace Fk
open PySem PySem.Spec PyProof.Rows L2
def stepT (u : Tab) (c : Str × V × V) : Tab := if notNon c.2.1 = true then putK (dropK u c.1) c.1 c.2.1 else dropK u c.1
def lawT (t : Tab) (cs : List (Str × V × V)) : Tab := cs.foldl stepT t
theorem nd_step {t : Tab} (h : Nd t) (c : Str × V × V) : Nd (stepT t c) := by
  unfold stepT
  split
  · exact nd_put (nd_drop h c.1) _ _
  · exact nd_drop h c.1
theorem nd_lawT {t : Tab} (h : Nd t) : ∀ cs, Nd (lawT t cs) := fun cs => by
  unfold lawT
  induction cs generalizing t with
  | nil => exact h
  | cons c r ih => exact ih (nd_step h c)
theorem len_step (t : Tab) (c : Str × V × V) : (stepT t c).length ≤ t.length + 1 := by
  unfold stepT
  have h := dropK_le t c.1
  split
  · have := len_put (dropK t c.1) c.1 c.2.1
    omega
  · omega
theorem len_lawT (t : Tab) (cs : List (Str × V × V)) : (lawT t cs).length ≤ t.length + cs.length := by
  unfold lawT
  induction cs generalizing t with
  | nil => exact Nat.le_refl _
  | cons c r ih =>
    have := ih (stepT t c)
    have := len_step t c
    rw [List.foldl_cons, List.length_cons]
    omega
theorem val_step (t : Tab) (c : Str × V × V) (x : Str) : valV (stepT t c) x = if x = c.1 then (if notNon c.2.1 = true then some c.2.1 else none) else valV t x := by
  unfold stepT
  by_cases h : notNon c.2.1 = true
  · rw [if_pos h, valV_put, valV_drop]
    by_cases e : x = c.1
    · rw [if_pos e, if_pos e, if_pos h]
    · rw [if_neg e, if_neg e, if_neg e]
  · rw [if_neg h, valV_drop]
    by_cases e : x = c.1
    · rw [if_pos e, if_pos e, if_neg h]
    · rw [if_neg e, if_neg e]
theorem val_lawT (x : Str) : ∀ (cs : List (Str × V × V)) (t : Tab), (cs.map (·.1)).Nodup → valV (lawT t cs) x = match valV (newT cs) x with
    | none => valV t x
    | some v => if notNon v = true then some v else none
  | [], t, _ => rfl
  | c :: r, t, h => by
    obtain ⟨h1, h2⟩ := List.nodup_cons.mp (show (c.1 :: r.map (·.1)).Nodup from h)
    show valV (lawT (stepT t c) r) x = match valV ((c.1, c.2.1) :: newT r) x with
      | none => valV t x
      | some v => if notNon v = true then some v else none
    rw [val_lawT x r (stepT t c) h2]
    by_cases e : c.1 = x
    · have n : valV (newT r) x = none := by
        cases q : valV (newT r) x with
        | none => rfl
        | some v =>
          have m := valV_in q
          unfold newT at m
          rw [List.map_map] at m
          exact absurd (show c.1 ∈ r.map (·.1) by rw [e]; exact m) h1
      rw [n, valV_pos e]
      show valV (stepT t c) x = if notNon c.2.1 = true then some c.2.1 else none
      rw [val_step, if_pos e.symm]
    · rw [valV_neg e]
      cases q : valV (newT r) x with
      | none =>
        show valV (stepT t c) x = valV t x
        rw [val_step, if_neg (fun z => e z.symm)]
      | some v => rfl
theorem news_moves (t : Tab) (cs : List (Str × V × V)) {ys : List Str} (h : ys.Nodup) (x : Str) : valV (newsT (movesF t cs ys)) x = if x ∈ ys ∧ ¬ (valV t x).getD .non = (valV (newT cs) x).getD .non then some ((valV (newT cs) x).getD .non) else none := by
  have e : newsT (movesF t cs ys) = (ys.map fun x => (x, (valV (newT cs) x).getD .non)).filter fun p => !decide ((valV t p.1).getD .non = p.2) := by
    unfold newsT movesF rowsF
    rw [List.filter_map, List.filter_map, List.map_map]
    rfl
  have nd : Nd (ys.map fun x => (x, (valV (newT cs) x).getD .non)) := by
    unfold Nd
    rw [List.map_map]
    have : ((fun x : Str × V => x.1) ∘ fun x : Str => (x, (valV (newT cs) x).getD V.non)) = id := rfl
    rw [this, List.map_id]
    exact h
  rw [e, val_filter nd, val_keys (fun x => (valV (newT cs) x).getD .non)]
  by_cases m : x ∈ ys
  · rw [if_pos m]
    by_cases d : (valV t x).getD .non = (valV (newT cs) x).getD .non
    · rw [if_neg (fun z => z.2 d)]
      simp [d]
    · rw [if_pos ⟨m, d⟩]
      simp [d]
  · rw [if_neg m, if_neg (fun z => m z.1)]
    rfl
theorem notNon_some {v : V} (h : notNon v = true) : v ≠ .non := fun z => by rw [z] at h; cases h
theorem nn_of {v : V} (h : ¬ notNon v = true) : v = .non := by
  cases v <;> first | rfl | exact absurd rfl h
/-- moves and calls make the same -/
theorem after_law {t : Tab} {cs : List (Str × V × V)} {ys : List Str} (nt : Nd t) (vs : ∀ e ∈ t, notNon e.2 = true) (nc : (cs.map (·.1)).Nodup) (hp : ys.Perm (cs.map (·.1))) (x : Str) : valV (afterT t (movesF t cs ys)) x = valV (lawT t cs) x := by
  have ny : ys.Nodup := hp.nodup_iff.mpr nc
  rw [val_after nt (movesF_nd ny), news_moves t cs ny, val_lawT x cs t nc]
  have mk : x ∈ ys ↔ (valV (newT cs) x).isSome = true := by
    rw [hp.mem_iff, ← mem_val]
    unfold newT
    rw [List.map_map]
    rfl
  cases q : valV (newT cs) x with
  | none =>
    have nx : ¬ x ∈ ys := fun z => by have := mk.mp z; rw [q] at this; cases this
    rw [if_neg (fun z => nx z.1)]
  | some v =>
    have yx : x ∈ ys := mk.mpr (by rw [q]; rfl)
    by_cases d : (valV t x).getD .non = v
    · rw [if_neg (fun z => z.2 d)]
      show valV t x = if notNon v = true then some v else none
      cases c : valV t x with
      | none =>
        rw [c] at d
        rw [← d]
        rfl
      | some w =>
        rw [c] at d
        have d : w = v := d
        obtain ⟨p, hp2, ep⟩ := List.mem_map.mp (valV_in c)
        have v1 := val_nodup nt p hp2
        rw [ep, c] at v1
        have := vs p hp2
        rw [← Option.some.inj v1, d] at this
        rw [if_pos this, d]
    · rw [if_pos ⟨yx, d⟩]
      rfl
/-- moves, name by name -/
theorem movesF_snoc (t : Tab) (cs : List (Str × V × V)) (ys : List Str) (y : Str) : movesF t cs (ys ++ [y]) = movesF t cs ys ++ (if (valV t y).getD .non = (valV (newT cs) y).getD .non then [] else [(y, (valV t y).getD .non, (valV (newT cs) y).getD .non)]) := by
  unfold movesF rowsF
  rw [List.map_append, List.filter_append]
  congr 1
  by_cases d : (valV t y).getD .non = (valV (newT cs) y).getD .non
  · rw [if_pos d]
    simp [d]
  · rw [if_neg d]
    simp [d]
theorem logMoves_app (L : Str → List (List V)) (note : List V) (ms : List (Str × V × V)) (m : Str × V × V) : logMoves L note (ms ++ [m]) = logPut (logMoves L note ms) m.1 ([m.2.1, m.2.2] ++ note) := by
  unfold logMoves
  rw [List.foldl_append]
  rfl
/-- lists stay -/
def LstKeep (H H' : Hp) : Prop := ∀ b xs, H b = some (.lst xs) → H' b = some (.lst xs)
theorem LstKeep.of {H H' : Hp} (s : Same H H') : LstKeep H H' := fun b xs e => s b _ e
theorem LstKeep.trans {H H1 H2 : Hp} (a : LstKeep H H1) (b : LstKeep H1 H2) : LstKeep H H2 := fun c xs e => b c xs (a c xs e)
theorem LstKeep.at {a : Addr} {H : Hp} {o : HO} (n : ∀ xs, H a ≠ some (.lst xs)) : LstKeep H (upd H a o) := fun b xs e => by
  have z : b ≠ a := fun z => n xs (by rw [← z]; exact e)
  rw [upd_ne z]
  exact e
/-! ### the model -/
def modelT (mt mh ml : Addr) : Tab := [("table", .ref mt), ("head", .ref mh), ("logs", .ref ml)]
/-- the model's logs: lists of entries -/
def LogsL (H : Hp) (t : Tab) (L : Str → List (List V)) : Prop := ∀ x, (valV t x = none ∧ L x = []) ∨ ∃ (p : Addr) (as : List Addr), valV t x = some (.ref p) ∧ H p = some (.lst (as.map V.ref)) ∧ Tups H as (L x)
def ModAt (K : PySem.W.Frag) (H : Hp) (m mt mh ml : Addr) (t lt : Tab) (x n : Str) : Prop := H m = some (.dK (kT (modelT mt mh ml))) ∧ H mt = some (.dK (kT t)) ∧ TupK K H mh [.str x, .str n] ∧ H ml = some (.dK (kT lt))
theorem mod_get {H : Hp} {m mt mh ml : Addr} (h : H m = some (.dK (kT (modelT mt mh ml)))) : DGet H m (.str "table") (some (.ref mt)) ∧ DGet H m (.str "head") (some (.ref mh)) ∧ DGet H m (.str "logs") (some (.ref ml)) := ⟨dget_kT (.inl h) "table", dget_kT (.inl h) "head", dget_kT (.inl h) "logs"⟩
theorem ModAt.same {K : PySem.W.Frag} {H H' : Hp} {m mt mh ml : Addr} {t lt : Tab} {x n : Str} (h : ModAt K H m mt mh ml t lt x n) (s : Same H H') : ModAt K H' m mt mh ml t lt x n := ⟨s _ _ h.1, s _ _ h.2.1, h.2.2.1.keep (TupKeep.of s), s _ _ h.2.2.2⟩
theorem LogsL.same {H H' : Hp} {t : Tab} {L : Str → List (List V)} (h : LogsL H t L) (s : Same H H') : LogsL H' t L := fun x => (h x).imp id fun ⟨p, as, a, b, c⟩ => ⟨p, as, a, s _ _ b, c.keep (TupKeep.of s)⟩
theorem LogsL.keep {H H' : Hp} {t : Tab} {L : Str → List (List V)} (h : LogsL H t L) (k : TupKeep H H') (l : LstKeep H H') : LogsL H' t L := fun x => (h x).imp id fun ⟨p, as, a, b, c⟩ => ⟨p, as, a, l _ _ b, c.keep k⟩
theorem LogsL.put {H : Hp} {t : Tab} {L : Str → List (List V)} (h : LogsL H t L) {x : Str} {p : Addr} {e : List V} {as : List Addr} (hp : H p = some (.lst (as.map V.ref))) (tp : Tups H as (L x ++ [e])) : LogsL H (putK t x (.ref p)) (logPut L x e) := fun y => by
  unfold logPut
  rw [valV_put]
  by_cases c : y = x
  · rw [if_pos c, if_pos c, c]
    exact .inr ⟨p, as, rfl, hp, tp⟩
  · rw [if_neg c, if_neg c]
    exact h y
theorem log_stepL {H : Hp} {ml en : Addr} {lt : Tab} {L : Str → List (List V)} {x : Str} {ent : List V} {tk td te : TE} {D : Ends} {σ : L2.St} (hD : H ml = some (.dK (kT lt))) (ll : LogsL H lt L) (he : H en = some (.tup ent))
    (b : (L x).length ≤ 100000) (hl : lt.length ≤ 1000) (ek : ∀ H' Q, Q (.str x) H' → tk σ H' Q) (ed : ∀ H' Q, Same H H' → Q (.ref ml) H' → td σ H' Q) (ee : ∀ H' Q, Q (.ref en) H' → te σ H' Q)
    (q : ∀ H' p, FrL [ml] H H' → TupKeep H H' → LstKeep H H' → H' ml = some (.dK (kT (putK lt x (.ref p)))) → LogsL H' (putK lt x (.ref p)) (logPut L x ent) → D.nx σ H') :
    sDPut td tk (tOp rCat (tDGet2 td tk (tLst tNil)) (tLst (tCons te tNil))) D σ H := by
  refine ed _ _ (Same.refl H) ⟨ml, rfl, .inl ⟨_, .inl hD⟩, ek _ _ ⟨Nat.zero_le _, fun pe hpe => ⟨valV lt x, ?_, ?_⟩⟩⟩
  · exact dget_kT (.inl (by rw [upd_ne (ne_of_none hD hpe)]; exact hD)) x
  · have s0 : Same H (upd H pe (.lst [])) := same_new hpe
    have p0 : (upd H pe (.lst [])) pe = some (.lst []) := upd_same
    generalize upd H pe (.lst []) = H0 at s0 p0
    obtain ⟨a, as, ea, ha, ta⟩ : ∃ (a : Addr) (as : List Addr), (valV lt x).getD (.ref pe) = .ref a ∧ H0 a = some (.lst (as.map V.ref)) ∧ Tups H0 as (L x) := by
      rcases ll x with ⟨e, l⟩ | ⟨p, as, e, h, t⟩
      · exact ⟨pe, [], by rw [e]; rfl, p0, by rw [l]; exact Tups.nil⟩
      · exact ⟨p, as, by rw [e]; rfl, s0 _ _ h, t.keep (TupKeep.of s0)⟩
    rw [ea]
    have la : as.length ≤ 100000 := by rw [ta.1]; exact b
    refine ee _ _ ⟨(by show 1 ≤ sizeLine; decide), fun p2 hp2 => ⟨a, p2, _, _, rfl, rfl, (same_new hp2) _ _ ha, upd_same, small_line (by rw [List.length_map]; show _ + 1 ≤ _; omega), fun p3 hp3 => ?_⟩⟩
    have s03 : Same H0 (upd (upd H0 p2 (.lst [V.ref en])) p3 (.lst (as.map V.ref ++ [V.ref en]))) := (same_new hp2).trans (same_new hp3)
    have h3 : (upd (upd H0 p2 (.lst [V.ref en])) p3 (.lst (as.map V.ref ++ [V.ref en]))) p3 = some (.lst ((as ++ [en]).map V.ref)) := by
      rw [upd_same, List.map_append]
      rfl
    generalize upd (upd H0 p2 (.lst [V.ref en])) p3 (.lst (as.map V.ref ++ [V.ref en])) = H5 at s03 h3
    have s05 := s0.trans s03
    have hD5 := s05 _ _ hD
    refine ed _ _ s05 (ek _ _ ⟨ml, _, rfl, .inl ⟨kT lt, .inr x, hD5, rfl, small_lt (by rw [len_kT]; omega), rfl⟩, ?_⟩)
    rw [putK_kT]
    have kp : TupKeep H5 (upd H5 ml (.dK (kT (putK lt x (.ref p3))))) := TupKeep.at fun xs z => by rw [hD5] at z; cases z
    have kl : LstKeep H5 (upd H5 ml (.dK (kT (putK lt x (.ref p3))))) := LstKeep.at fun xs z => by rw [hD5] at z; cases z
    have kp2 := (TupKeep.of s05).trans kp
    have kl2 := (LstKeep.of s05).trans kl
    refine q _ p3 ((FrL.same s05).trans (FrL.at (List.mem_singleton_self ml))) kp2 kl2 upd_same ?_
    exact (ll.keep kp2 kl2).put (kl _ _ h3) (((ta.keep (TupKeep.of s03)).snoc (s05 _ _ he)).keep kp)
def callL (c : Str × V × V) : List V := [.str c.1, c.2.1, c.2.2]
/-- the law's own list of the calls -/
def CallsL (H : Hp) (lc : Addr) (cs : List (Str × V × V)) : Prop := ∃ as : List Addr, H lc = some (.lst (as.map V.ref)) ∧ Tups H as (cs.map callL)
theorem ok_prefixes {x : Str} (h : OkS x) : ∀ y ∈ prefixesF x, OkS y := fun y hy => by
  obtain ⟨k, _, rfl⟩ := List.mem_map.mp hy
  exact ok_join ok_slash fun p hp => segs_ok x h p (List.mem_of_mem_take hp)
theorem have_any {ks : List Str} (h : haveF ks = false) : ∀ x ∈ ks, ((prefixesF x).any fun y => decide (y ∈ ks)) = false := fun x hx => by
  unfold haveF at h
  exact Bool.eq_false_iff.mpr fun z => by
    rw [List.any_eq_true.mpr ⟨x, hx, z⟩] at h
    cases h
theorem law_new_at {t : Tab} {cs : List (Str × V × V)} {y : Str} (nc : (cs.map (·.1)).Nodup) (h : y ∈ cs.map (·.1)) : (valV (lawT t cs) y).getD .non = (valV (newT cs) y).getD .non := by
  rw [val_lawT y cs t nc]
  have m : (valV (newT cs) y).isSome = true := by
    rw [← mem_val]
    unfold newT
    rw [List.map_map]
    exact h
  cases c : valV (newT cs) y with
  | none => rw [c] at m; cases m
  | some v =>
    show (if notNon v = true then some v else none).getD .non = v
    by_cases d : notNon v = true
    · rw [if_pos d]
      rfl
    · rw [if_neg d, nn_of d]
      rfl
theorem mem_keys_put {t : Tab} {x y : Str} {v : V} (h : y ∈ (putK t x v).map (·.1)) : y ∈ t.map (·.1) ∨ y = x := by
  have := mem_val.mp h
  rw [valV_put] at this
  by_cases c : y = x
  · exact .inr c
  · rw [if_neg c] at this
    exact .inl (mem_val.mpr this)
theorem flat_lawT {t : Tab} {cs : List (Str × V × V)} (ht : ∀ e ∈ t, flatN e.2) (hc : ∀ c ∈ cs, flatN c.2.1) : ∀ e ∈ lawT t cs, flatN e.2 := by
  unfold lawT
  induction cs generalizing t with
  | nil => exact ht
  | cons c r ih =>
    refine ih (fun e he => ?_) fun d hd => hc d (List.mem_cons_of_mem _ hd)
    unfold stepT at he
    have dr : ∀ e ∈ dropK t c.1, flatN e.2 := fun e he => ht e (dropK_mem he)
    split at he
    · rcases mem_putK he with h | h
      · exact dr e h
      · rw [h]
        exact hc c List.mem_cons_self
    · exact dr e he
end Fk

set_option maxHeartbeats 4000000
/-! A try with several except clauses, of which any may have a name. -/
namespace Fk
open PySem PySem.Spec PyProof.Rows L2
/-- a clause with a name: slot i is the error's within the suite, and nothing's behind it -/
def asTS (i : Nat) (ts : Addr → Value → Option Addr → TS) : Addr → Value → Option Addr → TS := fun a cls d D σ H =>
  ts a cls d { nx := fun σ' H' => D.nx (σ'.set i none) H', rt := D.rt, bk := fun σ' H' => D.bk (σ'.set i none) H', ct := fun σ' H' => D.ct (σ'.set i none) H' } (σ.set i (some (.ref a))) H
inductive HdA (X : Cx) : List ExceptHandler → List (Value × (Addr → Value → Option Addr → TS)) → Prop
  | nil : HdA X [] []
  | cons {x : Str} {c : Value} {ts : Addr → Value → Option Addr → TS} {b₀ : Stmt} {suite : List Stmt} {np pos' : Pos} {hds : List ExceptHandler} {l : List (Value × (Addr → Value → Option Addr → TS))} (hc : Names X x c)
      (hsu : ∀ (a : Addr) (oe : Obj) (cls : Value) (d : Option Addr) (pn : List (Addr × Obj)), Zc cls d oe → (∃ vs, oe.data = .fields vs) → PSs (X.suite a ((a, oe) :: pn)) (b₀ :: suite) (ts a cls d)) (r : HdA X hds l) :
      HdA X (.ExceptHandler (some (.Name x np)) none (b₀ :: suite) pos' :: hds) ((c, ts) :: l)
  | as {x n : Str} {i : Nat} {c : Value} {ts : Addr → Value → Option Addr → TS} {b₀ : Stmt} {suite : List Stmt} {np pos' : Pos} {hds : List ExceptHandler} {l : List (Value × (Addr → Value → Option Addr → TS))} (hN : X.N.Nodup) (hi : X.N[i]? = some n) (hln : X.env.kindOf n = some .local) (hc : Names X x c)
      (hsu : ∀ (a : Addr) (oe : Obj) (cls : Value) (d : Option Addr) (pn : List (Addr × Obj)), Zc cls d oe → (∃ vs, oe.data = .fields vs) → PSs (X.suite a ((a, oe) :: pn)) (b₀ :: suite) (ts a cls d)) (r : HdA X hds l) :
      HdA X (.ExceptHandler (some (.Name x np)) (some n) (b₀ :: suite) pos' :: hds) ((c, asTS i ts) :: l)
section
variable {X : Cx} {body : List Stmt} {h₀ : ExceptHandler} {hds : List ExceptHandler} {l : List (Value × (Addr → Value → Option Addr → TS))} {pos : Pos} {tb : WX → TS} {Wout : WX}
theorem ps_tryA (hs : X.stack = X.env :: X.outer) (hf : X.env.frame = some X.env.locals) (tk : Takes X Wout)
    (hb : ∀ (W : WX) (pn : List (Addr × Obj)) (xe : Value → Shared → Prop), Takes (X.tr pn xe) W → PassesOwn (model X.prog X.w) X.A X.env xe → PSs (X.tr pn xe) body (tb W))
    (hh : HdA X (h₀ :: hds) l) : PS X (.Try body (h₀ :: hds) [] [] pos) (fun D σ H => tb (wMany X.K Wout D l) D σ H) := by
  refine ⟨fun pins s σ H D I h => ?_⟩
  have ok := I.ok
  have hfr : X.A.frames = some (X.env :: X.outer) := by rw [ok.frames, hs]
  refine wpAny_Try_except ?_
  refine wpAny_mono ((hb (wMany X.K Wout D l) (X.pn ++ pins) (fun e s₁ => wpAny (model X.prog X.w) X.A (noteFrame e X.env) (fun _ s₂ => wpAny (model X.prog X.w) X.A (setFlight e none) (fun _ s₃ =>
    wpAny (model X.prog X.w) X.A (handleBy e X.env (h₀ :: hds)) (SP X pins D) X.xe s₃) X.xe s₂) X.xe s₁) (fun u s' xx => ?_) PassesOwn.looking).run [] s σ H D (I.toTry _) h) (fun f s1 hsp => ?_) (fun e s1 he => he)
  · obtain ⟨a, B, sI, pins', σ', H', cls, d, rfl, J', nb, up, sky, na, os, ag, w⟩ := xx
    have J : Inv X pins σ' H' sI := J'.ofTry ok
    have sky' : Sky B (X.env :: X.outer) a (Zc cls d) X.env.locals s'.heap := by rw [← hs]; exact sky
    show wpAny (model X.prog X.w) X.A (noteFrame (.ref a) X.env) _ _ _
    refine Sky.land Zc.steady hfr hf sky' fun h3 fl3 up3 => ?_
    have J3 : Inv X pins σ' H' { s' with heap := h3 } := J.landed nb fl3.1 (up.trans up3) os ag
    obtain ⟨oe3, vs3, he3, hz3, hd3⟩ := fl3.there
    have notFr : ∀ {h : Heap} {o : Obj} {vs : Array Value}, h.FunFrames B (X.env :: X.outer) → h.get? a = some o → o.data = .fields vs → a ∉ frs (X.env :: X.outer) := fun {h o vs} ff e dd hm => by
      obtain ⟨_, o', e', hnf⟩ := ff.mem hm
      rw [e] at e'; cases e'
      exact hnf _ dd
    have nfr := notFr fl3.2.2.1 he3 hd3
    have nL : a ≠ X.env.locals := fun z => nfr (List.mem_filterMap.mpr ⟨X.env, List.mem_cons_self, by rw [hf, z]⟩)
    have nF : a ∉ X.fs := fun hm => by
      obtain ⟨e, he, q⟩ := List.mem_filterMap.mp hm
      exact nfr (List.mem_filterMap.mpr ⟨e, List.mem_cons_of_mem _ he, q⟩)
    have S3 := J3.suite he3 hd3 na nL nF
    have go : ∀ {hds' : List ExceptHandler} {l' : List (Value × (Addr → Value → Option Addr → TS))}, HdA X hds' l' → wMany X.K Wout D l' cls d σ' H' →
        wpAny (model X.prog X.w) X.A (handleBy (.ref a) X.env hds') (SP X pins D) X.xe { s' with heap := h3 } := by
      intro hds' l' hk
      induction hk with
      | nil =>
        intro w
        refine wpAny_handleBy_nil ?_
        obtain ⟨k1, k2, k3, oe, vs, T, oT, ts', he, hz, hd, h1, hr⟩ := id fl3
        unfold PySem.passOn
        refine wpAny_bind (wpAny_field he hd h1 ?_)
        rw [if_neg (show ¬ ((Value.ref T == Value.none) = true) from by simp)]
        have fin : wpAny (model X.prog X.w) X.A (setFlight (.ref a) X.env.frame) (fun _ s4 => wpAny (model X.prog X.w) X.A (throw (.ref a) : Sem Flow) (SP X pins D) X.xe s4) X.xe { s' with heap := h3 } := by
          rw [hf]
          refine HandSPX.setFlight_upZ fl3 fun h4 hh4 up4 => wpAny_throw (tk _ _ ?_)
          exact ⟨a, B, sI, pins, σ', H', cls, d, rfl, J, nb, (up.trans up3).trans up4, .inr (.inr (by rw [hs]; exact hh4)), na, os, ag, w⟩
        first
          | exact wpAny_bind (wpAny_pure (wpAny_bind fin))
          | exact wpAny_bind fin
      | @cons x c ts b₀ suite np pos' hds2 l2 hc hsu r ih =>
        intro w
        obtain ⟨b, hb1, hyes, hno⟩ := w
        refine wpAny_handleBy_cons (codeAny_handlers_test ?_) (by intro q; cases q)
        have LT : PySem.W.Looks (model X.prog X.w) h3 (typeOf (.ref a)) cls := fun A Q E s k q => wpAny_typeOf_ref (k _ _ he3) (by rw [hz3.1]; exact q)
        have LM := PySem.W.exm_one (M := model X.prog X.w) (J3.kIn) LT hb1
        have test : ∀ {Q : Value → Shared → Prop} {E : Value → Shared → Prop}, Q c { s' with heap := h3 } → wpAny (model X.prog X.w) (X.A.mark (some (.ref a))) (eval (.Name x np) X.env) Q E { s' with heap := h3 } := fun {Q E} q => by
          obtain ⟨hg, hdbg, hm | ⟨hm, hv, hnn⟩⟩ := hc
          · exact ld_glob (X := X.suite a ((a, oe3) :: (X.pn ++ pins))) S3 hg hm q hdbg
          · exact ld_blt (X := X.suite a ((a, oe3) :: (X.pn ++ pins))) S3 hg hm hv q hnn hdbg
        refine test (LM.here ?_)
        cases b with
        | true =>
          refine codeAny_handlers_suite ?_
          refine HandSPX.lands_againZ fl3 fun h4 fl4 up4 => ?_
          have J4 : Inv X pins σ' H' { s' with heap := h4 } := J.landed nb fl4.1 ((up.trans up3).trans up4) os ag
          obtain ⟨oe4, vs4, he4, hz4, hd4⟩ := fl4.there
          have S4 := J4.suite he4 hd4 na nL nF
          refine wpAny_mono ((hsu a oe4 cls d (X.pn ++ pins) hz4 ⟨_, hd4⟩).run [] _ _ H' _ S4 (hyes rfl a na)) (fun f s6 hsp => ?_) (fun _ _ z => False.elim z)
          cases f with
          | next =>
            obtain ⟨σ6, H6, S6, q6⟩ := hsp
            exact ⟨_, _, S6.unsuite ok, q6⟩
          | brk =>
            obtain ⟨σ6, H6, S6, q6⟩ := hsp
            exact ⟨_, _, S6.unsuite ok, q6⟩
          | cont =>
            obtain ⟨σ6, H6, S6, q6⟩ := hsp
            exact ⟨_, _, S6.unsuite ok, q6⟩
          | ret u =>
            obtain ⟨v6, σ6, H6, S6, r6, q6⟩ := hsp
            exact ⟨_, _, _, S6.unsuite ok, r6, q6⟩
        | false =>
          show wpAny _ X.A (handleBy (.ref a) X.env hds2) _ _ _
          exact ih (hno rfl)
      | @as x n i c ts b₀ suite np pos' hds2 l2 hN hi hln hc hsu r ih =>
        intro w
        have hloc : Loc X.env.scope n := .inl hln
        obtain ⟨b, hb1, hyes, hno⟩ := w
        refine wpAny_handleBy_cons (codeAny_handlers_test ?_) (by intro q; cases q)
        have LT : PySem.W.Looks (model X.prog X.w) h3 (typeOf (.ref a)) cls := fun A Q E s k q => wpAny_typeOf_ref (k _ _ he3) (by rw [hz3.1]; exact q)
        have LM := PySem.W.exm_one (M := model X.prog X.w) (J3.kIn) LT hb1
        have test : ∀ {Q : Value → Shared → Prop} {E : Value → Shared → Prop}, Q c { s' with heap := h3 } → wpAny (model X.prog X.w) (X.A.mark (some (.ref a))) (eval (.Name x np) X.env) Q E { s' with heap := h3 } := fun {Q E} q => by
          obtain ⟨hg, hdbg, hm | ⟨hm, hv, hnn⟩⟩ := hc
          · exact ld_glob (X := X.suite a ((a, oe3) :: (X.pn ++ pins))) S3 hg hm q hdbg
          · exact ld_blt (X := X.suite a ((a, oe3) :: (X.pn ++ pins))) S3 hg hm hv q hnn hdbg
        refine test (LM.here ?_)
        cases b with
        | true =>
          refine codeAny_handlers_suite_as ?_
          refine HandSPX.lands_againZ fl3 fun h4 fl4 up4 => ?_
          have J4 : Inv X pins σ' H' { s' with heap := h4 } := J.landed nb fl4.1 ((up.trans up3).trans up4) os ag
          obtain ⟨oe4, vs4, he4, hz4, hd4⟩ := fl4.there
          have S4 := J4.suite he4 hd4 na nL nF
          refine store_ok (X := X.suite a ((a, oe4) :: (X.pn ++ pins))) (v := .ref a) S4 hN hi hloc rfl (fun s5 S5 => ?_) (.inr hln)
          refine wpAny_mono ((hsu a oe4 cls d (X.pn ++ pins) hz4 ⟨_, hd4⟩).run [] s5 _ H' _ S5 (hyes rfl a na)) (fun f s6 hsp => ?_) (fun _ _ z => False.elim z)
          have end_ : ∀ {σ6 : L2.St} {H6 : Hp} {Q : Shared → Prop}, Inv (X.suite a ((a, oe4) :: (X.pn ++ pins))) [] σ6 H6 s6 → (∀ s7, Inv X pins (σ6.set i none) H6 s7 → Q s7) →
              wpAny (model X.prog X.w) X.A (do bindName X.env n .none; unbindBehindTheSuite X.env n pos') (fun _ s7 => Q s7) X.xe s6 := fun {σ6 H6 Q} S6 hq => gone_ok (S6.unsuite ok) hN hi hln hq
          cases f with
          | next =>
            obtain ⟨σ6, H6, S6, q6⟩ := hsp
            exact end_ S6 fun s7 J7 => ⟨_, _, J7, q6⟩
          | brk =>
            obtain ⟨σ6, H6, S6, q6⟩ := hsp
            exact end_ S6 fun s7 J7 => ⟨_, _, J7, q6⟩
          | cont =>
            obtain ⟨σ6, H6, S6, q6⟩ := hsp
            exact end_ S6 fun s7 J7 => ⟨_, _, J7, q6⟩
          | ret u =>
            obtain ⟨v6, σ6, H6, S6, r6, q6⟩ := hsp
            exact end_ S6 fun s7 J7 => ⟨_, _, _, J7, r6, q6⟩
        | false =>
          show wpAny _ X.A (handleBy (.ref a) X.env hds2) _ _ _
          exact ih (hno rfl)
    exact go hh w
  · cases f with
    | next =>
      obtain ⟨σ', H', J', q⟩ := hsp
      exact wpAny_execs_nil ⟨σ', H', J'.ofTry ok, q⟩
    | brk =>
      obtain ⟨σ', H', J', q⟩ := hsp
      exact ⟨σ', H', J'.ofTry ok, q⟩
    | cont =>
      obtain ⟨σ', H', J', q⟩ := hsp
      exact ⟨σ', H', J'.ofTry ok, q⟩
    | ret u =>
      obtain ⟨v, σ', H', J', r, q⟩ := hsp
      exact ⟨v, σ', H', J'.ofTry ok, r, q⟩
end
end Fk

set_option maxHeartbeats 4000000
/-! Frames one after the other; logs that stay; references and a model that agree, moved to another heap. -/
namespace Fk
open PySem PySem.Spec PyProof.Rows L2
theorem FrL.then {L M : List Addr} {H H1 H2 : Hp} (f : FrL L H H1) (g : FrL M H1 H2) (h : ∀ b ∈ M, b ∈ L ∨ H b = none) : FrL L H H2 := fun b o n e =>
  g b o (fun hm => (h b hm).elim n (fun z => by rw [e] at z; cases z)) (f b o n e)
theorem FrL.then1 {L : List Addr} {a : Addr} {H H1 H2 : Hp} (f : FrL L H H1) (g : FrL [a] H1 H2) (h : a ∈ L ∨ H a = none) : FrL L H H2 := f.then g fun b hb => by rw [List.mem_singleton.mp hb]; exact h
theorem FrL.free {L : List Addr} {H H1 : Hp} (f : FrL L H H1) {b : Addr} (n : b ∉ L) (e : H1 b = none) : H b = none := by
  cases c : H b with
  | none => rfl
  | some o => rw [f b o n c] at e; cases e
theorem val_mem {t : Tab} {x : Str} {v : V} (h : valV t x = some v) : (x, v) ∈ t := by
  unfold valV at h
  cases c : t.find? fun kv => decide (kv.1 = x) with
  | none => rw [c] at h; cases h
  | some p =>
    rw [c] at h
    have m := List.mem_of_find?_eq_some c
    have e : p.1 = x := by have := List.find?_some (p := fun kv : Str × V => decide (kv.1 = x)) c; exact of_decide_eq_true this
    obtain ⟨a, b⟩ := p
    cases h
    cases e
    exact m
theorem Tups.cons {H : Hp} {a : Addr} {as : List Addr} {l : List V} {ls : List (List V)} (h : H a = some (.tup l)) (t : Tups H as ls) : Tups H (a :: as) (l :: ls) := by
  refine ⟨by rw [List.length_cons, List.length_cons, t.1], fun i b m h1 h2 => ?_⟩
  cases i with
  | zero => cases h1; cases h2; exact h
  | succ j => exact t.2 j b m h1 h2
theorem Tups.head {H : Hp} {a : Addr} {as : List Addr} {l : List V} {ls : List (List V)} (t : Tups H (a :: as) (l :: ls)) : H a = some (.tup l) := t.2 0 a l rfl rfl
theorem Tups.tail {H : Hp} {a : Addr} {as : List Addr} {l : List V} {ls : List (List V)} (t : Tups H (a :: as) (l :: ls)) : Tups H as ls := ⟨by have := t.1; rw [List.length_cons, List.length_cons] at this; omega, fun i b m h1 h2 => t.2 (i + 1) b m h1 h2⟩
theorem tups_filter {α : Type} {H : Hp} (f : α → List V) (p : α → Bool) : ∀ (cs : List α) (as : List Addr), Tups H as (cs.map f) → ∃ bs : List Addr, ((as.zip cs).filter fun z => p z.2).map (fun z => V.ref z.1) = bs.map V.ref ∧ Tups H bs ((cs.filter p).map f)
  | [], as, _ => ⟨[], by rw [List.zip_nil_right]; rfl, Tups.nil⟩
  | c :: cs, [], t => absurd t.1 (by simp)
  | c :: cs, a :: as, t => by
    obtain ⟨bs, e, tb⟩ := tups_filter f p cs as t.tail
    rw [List.zip_cons_cons, List.filter_cons, List.filter_cons]
    by_cases h : p c = true
    · refine ⟨a :: bs, ?_, ?_⟩
      · rw [if_pos h, List.map_cons, List.map_cons, e]
      · rw [if_pos h, List.map_cons]
        exact Tups.cons t.head tb
    · refine ⟨bs, ?_, ?_⟩
      · rw [if_neg h, e]
      · rw [if_neg h]
        exact tb
theorem int_refs {x y z : Int} {as : List Addr} : ([V.int x, .int y, .int z] : List V) ≠ as.map V.ref := fun h => by
  cases as with
  | nil => cases h
  | cons b r => injection h with h _; cases h
theorem LogsL.out {H H' : Hp} {t : Tab} {L : Str → List (List V)} {M : List Addr} (h : LogsL H t L) (k : TupKeep H H') (f : FrL M H H') (n : ∀ b ∈ M, ∀ as : List Addr, H b ≠ some (.lst (as.map V.ref))) : LogsL H' t L := fun x =>
  (h x).imp id fun ⟨p, as, a, b, c⟩ => ⟨p, as, a, f p _ (fun hm => n p hm as b) b, c.keep k⟩
theorem CallsL.out {H H' : Hp} {lc : Addr} {cs : List (Str × V × V)} {M : List Addr} (h : CallsL H lc cs) (k : TupKeep H H') (f : FrL M H H') (n : lc ∉ M) : CallsL H' lc cs := by
  obtain ⟨as, a, b⟩ := h
  exact ⟨as, f lc _ n a, b.keep k⟩
theorem CallsL.same {H H' : Hp} {lc : Addr} {cs : List (Str × V × V)} (h : CallsL H lc cs) (s : Same H H') : CallsL H' lc cs := by
  obtain ⟨as, a, b⟩ := h
  exact ⟨as, s _ _ a, b.keep (TupKeep.of s)⟩
theorem callPut_nd {cs : List (Str × V × V)} {x : Str} {v o : V} (h : (cs.map (·.1)).Nodup) : ((callPut cs x v o).map (·.1)).Nodup := by
  unfold callPut
  rw [List.map_append, List.nodup_append]
  refine ⟨List.Nodup.sublist ((List.filter_sublist).map _) h, by simp, fun a ha b hb => ?_⟩
  obtain ⟨c, hc, rfl⟩ := List.mem_map.mp ha
  have := of_decide_eq_true (List.mem_filter.mp hc).2
  simp at hb
  rw [hb]
  exact this
theorem callPut_len (cs : List (Str × V × V)) (x : Str) (v o : V) : (callPut cs x v o).length ≤ cs.length + 1 := by
  unfold callPut
  rw [List.length_append]
  have := List.length_filter_le (fun c : Str × V × V => decide (c.1 ≠ x)) cs
  show _ + 1 ≤ _
  omega
theorem mem_callPut {cs : List (Str × V × V)} {x : Str} {v o : V} {c : Str × V × V} (h : c ∈ callPut cs x v o) : c ∈ cs ∨ c = (x, v, o) := by
  rcases List.mem_append.mp h with h | h
  · exact .inl (List.mem_filter.mp h).1
  · exact .inr (List.mem_singleton.mp h)
end Fk

set_option maxHeartbeats 4000000
/-! A comprehension over zip of two tuples. -/
namespace Fk
open PySem PySem.Spec PyProof.Rows L2 RZ
theorem lc_zipT {K : PySem.W.Frag} {a b D : Addr} {xs ys : List V} {σ : L2.St} {vs : List Nat} {g : TG} {tt : TT} {te : TE} {Q : Hp → Prop} {H1 : Hp} {n : Nat} (f : Nat → V) (hD1 : H1 D = none) (ha : ∀ H, Same H1 H → SqT K H a xs) (hb : ∀ H, Same H1 H → SqT K H b ys)
    (hx : n ≤ xs.length) (hy : n ≤ ys.length) (hn : xs.length ≤ n ∨ ys.length ≤ n) (hl : n ≤ 1000000)
    (hs : ∀ i x y T H, i < n → xs[i]? = some x → ys[i]? = some y → Same H1 H → H T = some (.tup [x, y]) → ∀ (N : VK) (M : Hp → Prop), (∀ H3, Same H H3 → N (f i) H3) →
      g (.ref T) (wipe σ vs) H fun σ2 H2 => wipe σ2 vs = wipe σ vs ∧ tt σ2 H2 fun bb H3 => if bb = true then te σ2 H3 N else M H3)
    (hd : ∀ H, Same H1 H → H D = some (.lst ((List.range n).map f)) → Q H) :
    ∃ W : Nat → Nat → Hp → Prop, (∃ m, W 0 m (upd H1 D (.lst []))) ∧ ∀ k m H, W k m H →
      ((ItzT K a b).stop k H ∧ Q H) ∨ ((ItzT K a b).go k H ∧ ∃ Nx : Hp → Prop, (∀ H', Nx H' → ∃ m', m' < m ∧ W (k + 1) m' H') ∧ ∀ x H', (ItzT K a b).yld k H x H' → g x (wipe σ vs) H' fun σ2 H2 => wipe σ2 vs = wipe σ vs ∧ tt σ2 H2 fun bb H3 =>
        if bb = true then te σ2 H3 fun y H4 => ∃ acc, H4 D = some (.lst acc) ∧ acc.length < sizeLine ∧ Nx (upd H4 D (.lst (acc ++ [y]))) else Nx H3) := by
  refine ⟨fun k m H => m = n - k ∧ k ≤ n ∧ Same H1 H ∧ H D = some (.lst ((List.range k).map f)), ⟨n, by omega, Nat.zero_le _, same_new hD1, upd_same⟩, ?_⟩
  rintro k m H ⟨rfl, hk, s1, hD⟩
  by_cases hlt : k < n
  · have lx : k < xs.length := by omega
    have ly : k < ys.length := by omega
    refine .inr ⟨⟨xs, ys, xs[k], ys[k], ha H s1, hb H s1, List.getElem?_eq_getElem lx, List.getElem?_eq_getElem ly⟩, fun H' => Same H1 H' ∧ H' D = some (.lst ((List.range (k + 1)).map f)), fun H' q => ⟨n - (k + 1), by omega, rfl, hlt, q⟩, fun x H' y => ?_⟩
    obtain ⟨T, u, v, rfl, hT, rfl, gx, gy⟩ := y
    have s2 := same_new (o := .tup [u, v]) hT
    refine hs k u v T _ hlt (gx xs (ha H s1)) (gy ys (hb H s1)) (s1.trans s2) upd_same _ _ fun H3 s3 => ⟨_, s3 _ _ (s2 _ _ hD), small_lt (by rw [List.length_map, List.length_range]; omega), fun c o e => ?_, ?_⟩
    · rw [upd_ne (ne_of_none e hD1)]
      exact s3 _ _ (s2 _ _ (s1 _ _ e))
    · rw [upd_same, List.range_succ, List.map_append]
      rfl
  · have e : k = n := by omega
    subst e
    exact .inl ⟨⟨xs, ys, ha H s1, hb H s1, hn⟩, hd H s1 hD⟩
theorem lc_gen {α : Type} {J : It} {us : List α} {val : α → V} {G : Hp → Prop} {H1 : Hp} {D : Addr} {σ : L2.St} {vs : List Nat} {g : TG} {tt : TT} {te : TE} {Q : Hp → Prop} (Y : Yields J (us.map val) G) (f : α → V) (p : α → Bool) (σf : α → L2.St) (hD1 : H1 D = none) (hG : ∀ H, Same H1 H → G H) (hw : ∀ u ∈ us, wipe (σf u) vs = wipe σ vs)
    (hg : ∀ H u, Same H1 H → u ∈ us → ∀ (R : L2.St → Hp → Prop), R (σf u) H → g (val u) (wipe σ vs) H R)
    (ht : ∀ H u, Same H1 H → u ∈ us → ∀ (R : Bool → Hp → Prop), (∀ H3, Same H H3 → R (p u) H3) → tt (σf u) H R)
    (he : ∀ H u, Same H1 H → u ∈ us → p u = true → ∀ (R : VK), (∀ H3, Same H H3 → R (f u) H3) → te (σf u) H R)
    (hl : us.length ≤ 1000000) (hd : ∀ H, Same H1 H → H D = some (.lst ((us.filter p).map f)) → Q H) :
    ∃ W : Nat → Nat → Hp → Prop, (∃ m, W 0 m (upd H1 D (.lst []))) ∧ ∀ k m H, W k m H →
      (J.stop k H ∧ Q H) ∨ (J.go k H ∧ ∃ Nx : Hp → Prop, (∀ H', Nx H' → ∃ m', m' < m ∧ W (k + 1) m' H') ∧ ∀ x H', J.yld k H x H' → g x (wipe σ vs) H' fun σ2 H2 => wipe σ2 vs = wipe σ vs ∧ tt σ2 H2 fun b H3 =>
        if b = true then te σ2 H3 fun y H4 => ∃ acc, H4 D = some (.lst acc) ∧ acc.length < sizeLine ∧ Nx (upd H4 D (.lst (acc ++ [y]))) else Nx H3) := by
  refine lcG Y (fun k acc H => Same H1 H ∧ acc = ((us.take k).filter p).map f) (fun k acc H h _ => hG H h.1) ⟨same_new hD1, rfl⟩ (fun k acc H x hI hD hx hacc hk => ?_) (by rw [List.length_map]; exact hl) (fun acc H hI hD _ => ?_)
  · obtain ⟨sm, ea⟩ := hI
    rw [List.getElem?_map] at hx
    cases hu : us[k]? with
    | none => rw [hu] at hx; cases hx
    | some u =>
      rw [hu] at hx
      cases hx
      have hm : u ∈ us := List.mem_of_getElem? hu
      have et : us.take (k + 1) = us.take k ++ [u] := by
        rw [List.take_add_one, hu]
        rfl
      refine hg H u sm hm _ ⟨hw u hm, ?_⟩
      refine ht H u sm hm _ (fun H3 s3 => ?_)
      by_cases hp : p u = true
      · rw [if_pos hp]
        refine he H3 u (sm.trans s3) hm hp _ (fun H4 s4 => ?_)
        refine lc_take (s4 _ _ (s3 _ _ hD)) hacc hk ⟨same_mut ((sm.trans s3).trans s4) hD1, ?_⟩
        rw [et, List.filter_append, List.map_append, List.filter_cons, hp, ea]
        rfl
      · rw [if_neg hp]
        refine lc_skip (s3 _ _ hD) hacc ⟨sm.trans s3, ?_⟩
        rw [et, List.filter_append, List.map_append, List.filter_cons, if_neg hp, ea]
        simp
  · obtain ⟨sm, ea⟩ := hI
    rw [List.length_map, List.take_length] at ea
    exact hd H sm (by rw [hD, ea])
def rLenQ (K : PySem.W.Frag) : List V → Hp → VK → Prop := fun xs H Q => ∃ p ys, xs = [.ref p] ∧ (SqL K H p ys ∨ SqT K H p ys) ∧ Q (.int ys.length) H
theorem ciK {X : Cx} {K : PySem.W.Frag} (h : X.K = K) : CallR X (.builtin "isinstance") (rIsi K) := h ▸ call_isi
theorem clK {X : Cx} {K : PySem.W.Frag} (h : X.K = K) : CallR X (.builtin "len") (rLenQ K) := h ▸ call_len_seq
end Fk

/-! truth of a thing within a comprehension, K given -/
namespace Fk
open PySem PySem.Spec PyProof.Rows L2
def tTruK (K : PySem.W.Frag) (ta : TE) : TT := fun σ H Q => ta σ H fun x H' => ∃ k, TruV K x H' k ∧ Q k H'
theorem ptK_truth {X : Cx} {K : PySem.W.Frag} {a : Expr} {ta : TE} (h : X.K = K) (ha : PE X a ta) (he : ∀ whole, isTrue a X.env whole = (do let v ← whole; standAt a.pos; holding [v] (truthy v))) : PT X a (tTruK K ta) := h ▸ pt_truth ha he
end Fk

set_option maxHeartbeats 4000000
/-! list(text); classes and defs called with keywords; properties. -/
namespace Fk
open PySem PySem.Spec PyProof.Rows L2
section
variable {X : Cx}
/-- list(x), x a text -/
def rListS : List V → Hp → VK → Prop := fun xs H Q => ∃ x : Str, xs = [.str x] ∧ x.length ≤ sizeLine ∧ ∀ q, H q = none → Q (.ref q) (upd H q (.lst ((TL.tl x).map sgn)))
theorem call_listS (hc : X.calm = true) : CallR X (.type "list") rListS := by
  intro pins s σ H xs us Q I r h
  obtain ⟨x, e, hz, q⟩ := h
  subst e
  obtain ⟨u, eu, rx⟩ := vals1 r
  subst eu
  obtain ⟨t, rfl⟩ := rx
  refine PySem.call_list_str (I.ok.hd hc) x t (fun h' tk acc' c' hk hS hacc => ?_) hz
  refine ⟨.ref s.heap.objs.size, upd H s.heap.objs.size (.lst ((TL.tl x).map sgn)), I.laid hk (Nat.le_refl _) (show ObjOk X.prog X.w _ _ _ (.lst ((TL.tl x).map sgn)) from ⟨?_, acc'.toList, c', ?_, ?_⟩), rfl, q _ (I.hok.fresh (Nat.le_refl _))⟩
  · rw [List.length_map, ← TL.len_tl]; exact hz
  · have el : acc'.toList.length = acc'.size := by simp
    refine vals_of_at (by rw [List.length_map, el, hacc.1, ← TL.len_tl]; rfl) fun j x' w h1 h2 => ?_
    obtain ⟨c, u, hcx, rfl⟩ := hacc.2 j w (by rw [← Array.getElem?_toList]; exact h2)
    rw [List.getElem?_map, show (TL.tl x)[j]? = some c from by rw [← hcx]; exact Array.getElem?_toList] at h1
    cases h1
    exact ⟨u, rfl⟩
  · rw [Array.toArray_toList]; exact hS
end
/-! ### classes and defs called with keywords -/
def IniK (K : PySem.W.Frag) (C : Addr) (qual : Str) (st : Stmt) (ps : List Str) (n : Nat) (ks : List Str) (gV : List V → List V → List V) : Prop := ∃ (f : Addr) (fd : FuncData) (g : List Value → List Value → List Value), Mk K C f ∧ C8.Fun K "__init__" qual st f fd ∧ KBn K fd ps n ks g gV
structure MakK (P : Program) (w : World) (K : PySem.W.Frag) (mg : Str → Option Value) (base : Heap) (k : Nat) (x : Str) (C : Addr) (sp : Sp) (n : Nat) (ks : List Str) (gV : List V → List V → List V) : Prop where
  ex : ∃ (f : Addr) (fd : FuncData) (ps : List Str) (g : List Value → List Value → List Value), Mk K C f ∧ FnOk P w K mg base C8.CX0 k f fd ps sp ∧ mg x = some (.ref C) ∧ KBn K fd ps n ks g gV
def DefK (K : PySem.W.Frag) (mg : Str → Option Value) (x : Str) (st : Stmt) (ps : List Str) (n : Nat) (ks : List Str) (gV : List V → List V → List V) : Prop := ∃ (f : Addr) (fd : FuncData) (g : List Value → List Value → List Value), C8.Fun K x x st f fd ∧ mg x = some (.ref f) ∧ PySem.W.keepIn K (.ref f) = true ∧ KBn K fd ps n ks g gV
structure CalK (P : Program) (w : World) (K : PySem.W.Frag) (mg : Str → Option Value) (base : Heap) (k : Nat) (x : Str) (sp : Sp) (n : Nat) (ks : List Str) (gV : List V → List V → List V) : Prop where
  ex : ∃ (f : Addr) (fd : FuncData) (ps : List Str) (g : List Value → List Value → List Value), FnOk P w K mg base C8.CX0 k f fd ps sp ∧ mg x = some (.ref f) ∧ PySem.W.keepIn K (.ref f) = true ∧ KBn K fd ps n ks g gV
section
variable {P : Program} {w : World} {K : PySem.W.Frag} {mg : Str → Option Value} {base : Heap}
theorem makK {x qual : Str} {C : Addr} {st : Stmt} {ps ks : List Str} {n k : Nat} {sp : Sp} {gV : List V → List V → List V} (I : IniK K C qual st ps n ks gV) (hm : mg x = some (.ref C)) (F : ∀ f fd, C8.Fun K "__init__" qual st f fd → FnOk P w K mg base C8.CX0 k f fd ps sp) : MakK P w K mg base k x C sp n ks gV := by
  obtain ⟨f, fd, g, M, U, b⟩ := I
  exact ⟨f, fd, ps, g, M, F f fd U, hm, b⟩
theorem calK {x : Str} {st : Stmt} {ps ks : List Str} {n k : Nat} {sp : Sp} {gV : List V → List V → List V} (I : DefK K mg x st ps n ks gV) (F : ∀ f fd, C8.Fun K x x st f fd → FnOk P w K mg base C8.CX0 k f fd ps sp) : CalK P w K mg base k x sp n ks gV := by
  obtain ⟨f, fd, g, U, hm, hk, b⟩ := I
  exact ⟨f, fd, ps, g, F f fd U, hm, hk, b⟩
/-- a property of a class, by its getter -/
structure PDef (K : PySem.W.Frag) (C : Addr) (f qual : Str) (st : Stmt) : Prop where
  ex : ∃ (p g : Addr) (fd : FuncData), PropOf K C f p g ∧ C8.Fun K f qual st g fd ∧ fd.defaults = .none
structure Prp (P : Program) (w : World) (K : PySem.W.Frag) (mg : Str → Option Value) (base : Heap) (k : Nat) (C : Addr) (f : Str) (sp : Sp) : Prop where
  ex : ∃ (p g : Addr) (fd : FuncData) (ps : List Str), Cls K C ∧ PropOf K C f p g ∧ FnOk P w K mg base C8.CX0 k g fd ps sp ∧ Binds K fd ps []
theorem prp_of {f qual : Str} {C : Addr} {st : Stmt} {N ps : List Str} {k : Nat} {sp : Sp} (c : Cls K C) (D : PDef K C f qual st) (S : FnScope N ps (C8.fnScope st))
    (hb : ∀ (kV doc pm : Value) (an : Option Addr) (cdv ct : Value) (us : List Value), us.length = ps.length → bindArgs (PySem.W.fnOf f qual (C8.fnArgs st) (C8.fnBody st) (C8.fnScope st) .none kV doc pm an cdv ct) ⟨us, []⟩ = pure (ps.zip us))
    (len : ∀ vs H Q E, sp vs H Q E → vs.length = ps.length)
    (hbody : ∀ (f : Addr) (cdv : Value) (A : Around) (outer : List Env) (s : Shared) (H : Hp) (vs : List V) (Q : VK) (E : XK), Room k (A.deeper (envOfC qual (C8.fnScope st) s.heap.objs.size f cdv)) → sp vs H Q E →
      ∃ t, PSs (cxOf C8.CX0 P w K mg base N qual (C8.fnScope st) f cdv A outer s H E).nox (C8.fnBody st) t ∧ t { nx := fun _ H' => Q .non H', rt := Q } (start N vs) H) : Prp P w K mg base (k + 1) C f sp := by
  obtain ⟨p, g, fd, hp, F, df⟩ := D.ex
  exact ⟨p, g, fd, ps, c, hp, C8.fn0 F S len (hbody g), F.binds df hb⟩
end
section
variable {X : Cx} {k j n : Nat} {C : Addr} {x f : Str} {sp : Sp} {p pos : Pos} {e : Expr} {es : List Expr} {kws : List Keyword} {ks : List Str} {t tk : TA} {ta : TE} {gV : List V → List V → List V}
/-- C(e, .., k = v, ..) -/
theorem pe_mkK (c : MakK X.prog X.w X.K X.mg X.base k x C sp (n + 1) ks gV) (hr : Room j X.A) (hk : k + 1 ≤ j) (hg : Gl X x) (ha : PA X (e :: es) t) (hkw : PK X kws tk)
    (hall : (backToKw pos (keywordEach kws X.env)).all (·.1.isSome) = true := by rfl) (hks : (backToKw pos (keywordEach kws X.env)).filterMap (·.1) = ks := by rfl) (hdb : (x == ("__debug__" : Str)) = false := by decide)
    (he : starEach (e :: es) X.env = (false, eval e X.env) :: starEach es X.env := by rfl) (hpl : ((backTo pos (starEach (e :: es) X.env)).any (·.1) || (backToKw pos (keywordEach kws X.env)).any (·.1.isNone)) = false := by rfl) :
    PE X (.Call (.Name x p) (e :: es) kws pos) (tMakeK C n ks.length sp gV C8.E0 t tk) := by
  obtain ⟨f, fd, ps, g, M, F, hm, b⟩ := c.ex
  exact pe_makeK M F (hr.mono hk) hg hm b C8.pass0 ha hkw hall hks hdb he hpl
/-- C(k = v, ..) -/
theorem pe_mkK0 (c : MakK X.prog X.w X.K X.mg X.base k x C sp 1 ks gV) (hr : Room j X.A) (hk : k + 1 ≤ j) (hg : Gl X x) (hkw : PK X kws tk)
    (hall : (backToKw pos (keywordEach kws X.env)).all (·.1.isSome) = true := by rfl) (hks : (backToKw pos (keywordEach kws X.env)).filterMap (·.1) = ks := by rfl) (hdb : (x == ("__debug__" : Str)) = false := by decide)
    (hpl : ((backTo pos (starEach [] X.env)).any (·.1) || (backToKw pos (keywordEach kws X.env)).any (·.1.isNone)) = false := by rfl) :
    PE X (.Call (.Name x p) [] kws pos) (tMakeK C 0 ks.length sp gV C8.E0 tNil tk) := by
  obtain ⟨f, fd, ps, g, M, F, hm, b⟩ := c.ex
  exact pe_makeK0 M F (hr.mono hk) hg hm b C8.pass0 hkw hall hks hdb hpl
/-- x(e, .., k = v, ..) -/
theorem pe_cK (c : CalK X.prog X.w X.K X.mg X.base k x sp n ks gV) (hr : Room j X.A) (hk : k ≤ j) (hg : Gl X x) (ha : PA X (e :: es) t) (hkw : PK X kws tk)
    (hall : (backToKw pos (keywordEach kws X.env)).all (·.1.isSome) = true := by rfl) (hks : (backToKw pos (keywordEach kws X.env)).filterMap (·.1) = ks := by rfl) (hdb : (x == ("__debug__" : Str)) = false := by decide)
    (he : starEach (e :: es) X.env = (false, eval e X.env) :: starEach es X.env := by rfl) (hpl : ((backTo pos (starEach (e :: es) X.env)).any (·.1) || (backToKw pos (keywordEach kws X.env)).any (·.1.isNone)) = false := by rfl) :
    PE X (.Call (.Name x p) (e :: es) kws pos) (tCallN n ks.length sp gV C8.E0 t tk) := by
  obtain ⟨f, fd, ps, g, F, hm, hkp, b⟩ := c.ex
  exact pe_callN F (hr.mono hk) hg hm hkp b C8.pass0 ha hkw hall hks hdb he hpl
/-- e.f, a property -/
theorem pe_pr (c : Prp X.prog X.w X.K X.mg X.base k C f sp) (hr : Room j X.A) (hk : k + 1 ≤ j) (he : PE X e ta) (hab : attributeBase e f X.env (eval e X.env) = eval e X.env := by rfl) : PE X (.Attribute e f pos) (tProp C sp [] C8.E0 ta) := by
  obtain ⟨p, g, fd, ps, cl, hp, F, b⟩ := c.ex
  exact pe_prop he cl hp F (hr.mono hk) b .nil C8.pass0 hab
/-- e, locked behind its making: a thing of its own that is walked -/
def tLocked (te : TE) : TE := fun σ H Q => te σ H fun x H1 => ∃ d u, x = .ref d ∧ H1 d = some u ∧ Mut (some u) ∧ ∀ od, Q x (upd H1 d (.frz od u))
theorem pe_locked (he : PE X e ta) : PE X e (tLocked ta) := by
  refine ⟨fun pins s σ H Q I h => thn (he.run pins s σ H _ I h) fun v s1 ⟨x, H1, I1, r, d, u, ex, hd, mu, q⟩ => ?_⟩
  obtain ⟨od, I2⟩ := I1.lock hd mu
  exact ⟨x, _, I2, r, q od⟩
end
end Fk

set_option maxHeartbeats 4000000
/-! A try with except clauses, of which any may have a name, and an else. -/
namespace Fk
open PySem PySem.Spec PyProof.Rows L2
section
variable {X : Cx} {body : List Stmt} {h₀ : ExceptHandler} {hds : List ExceptHandler} {l : List (Value × (Addr → Value → Option Addr → TS))} {pos : Pos} {tb : WX → TS} {Wout : WX}
theorem ps_tryAE {orelse : List Stmt} {u : TS} (ho : PSs X orelse u) (hs : X.stack = X.env :: X.outer) (hf : X.env.frame = some X.env.locals) (tk : Takes X Wout)
    (hb : ∀ (W : WX) (pn : List (Addr × Obj)) (xe : Value → Shared → Prop), Takes (X.tr pn xe) W → PassesOwn (model X.prog X.w) X.A X.env xe → PSs (X.tr pn xe) body (tb W))
    (hh : HdA X (h₀ :: hds) l) : PS X (.Try body (h₀ :: hds) orelse [] pos) (fun D σ H => tb (wMany X.K Wout D l) { D with nx := u D } σ H) := by
  refine ⟨fun pins s σ H D I h => ?_⟩
  have ok := I.ok
  have hfr : X.A.frames = some (X.env :: X.outer) := by rw [ok.frames, hs]
  refine wpAny_Try_except ?_
  refine wpAny_mono ((hb (wMany X.K Wout D l) (X.pn ++ pins) (fun e s₁ => wpAny (model X.prog X.w) X.A (noteFrame e X.env) (fun _ s₂ => wpAny (model X.prog X.w) X.A (setFlight e none) (fun _ s₃ =>
    wpAny (model X.prog X.w) X.A (handleBy e X.env (h₀ :: hds)) (SP X pins D) X.xe s₃) X.xe s₂) X.xe s₁) (fun u s' xx => ?_) PassesOwn.looking).run [] s σ H { D with nx := u D } (I.toTry _) h) (fun f s1 hsp => ?_) (fun e s1 he => he)
  · obtain ⟨a, B, sI, pins', σ', H', cls, d, rfl, J', nb, up, sky, na, os, ag, w⟩ := xx
    have J : Inv X pins σ' H' sI := J'.ofTry ok
    have sky' : Sky B (X.env :: X.outer) a (Zc cls d) X.env.locals s'.heap := by rw [← hs]; exact sky
    show wpAny (model X.prog X.w) X.A (noteFrame (.ref a) X.env) _ _ _
    refine Sky.land Zc.steady hfr hf sky' fun h3 fl3 up3 => ?_
    have J3 : Inv X pins σ' H' { s' with heap := h3 } := J.landed nb fl3.1 (up.trans up3) os ag
    obtain ⟨oe3, vs3, he3, hz3, hd3⟩ := fl3.there
    have notFr : ∀ {h : Heap} {o : Obj} {vs : Array Value}, h.FunFrames B (X.env :: X.outer) → h.get? a = some o → o.data = .fields vs → a ∉ frs (X.env :: X.outer) := fun {h o vs} ff e dd hm => by
      obtain ⟨_, o', e', hnf⟩ := ff.mem hm
      rw [e] at e'; cases e'
      exact hnf _ dd
    have nfr := notFr fl3.2.2.1 he3 hd3
    have nL : a ≠ X.env.locals := fun z => nfr (List.mem_filterMap.mpr ⟨X.env, List.mem_cons_self, by rw [hf, z]⟩)
    have nF : a ∉ X.fs := fun hm => by
      obtain ⟨e, he, q⟩ := List.mem_filterMap.mp hm
      exact nfr (List.mem_filterMap.mpr ⟨e, List.mem_cons_of_mem _ he, q⟩)
    have S3 := J3.suite he3 hd3 na nL nF
    have go : ∀ {hds' : List ExceptHandler} {l' : List (Value × (Addr → Value → Option Addr → TS))}, HdA X hds' l' → wMany X.K Wout D l' cls d σ' H' →
        wpAny (model X.prog X.w) X.A (handleBy (.ref a) X.env hds') (SP X pins D) X.xe { s' with heap := h3 } := by
      intro hds' l' hk
      induction hk with
      | nil =>
        intro w
        refine wpAny_handleBy_nil ?_
        obtain ⟨k1, k2, k3, oe, vs, T, oT, ts', he, hz, hd, h1, hr⟩ := id fl3
        unfold PySem.passOn
        refine wpAny_bind (wpAny_field he hd h1 ?_)
        rw [if_neg (show ¬ ((Value.ref T == Value.none) = true) from by simp)]
        have fin : wpAny (model X.prog X.w) X.A (setFlight (.ref a) X.env.frame) (fun _ s4 => wpAny (model X.prog X.w) X.A (throw (.ref a) : Sem Flow) (SP X pins D) X.xe s4) X.xe { s' with heap := h3 } := by
          rw [hf]
          refine HandSPX.setFlight_upZ fl3 fun h4 hh4 up4 => wpAny_throw (tk _ _ ?_)
          exact ⟨a, B, sI, pins, σ', H', cls, d, rfl, J, nb, (up.trans up3).trans up4, .inr (.inr (by rw [hs]; exact hh4)), na, os, ag, w⟩
        first
          | exact wpAny_bind (wpAny_pure (wpAny_bind fin))
          | exact wpAny_bind fin
      | @cons x c ts b₀ suite np pos' hds2 l2 hc hsu r ih =>
        intro w
        obtain ⟨b, hb1, hyes, hno⟩ := w
        refine wpAny_handleBy_cons (codeAny_handlers_test ?_) (by intro q; cases q)
        have LT : PySem.W.Looks (model X.prog X.w) h3 (typeOf (.ref a)) cls := fun A Q E s k q => wpAny_typeOf_ref (k _ _ he3) (by rw [hz3.1]; exact q)
        have LM := PySem.W.exm_one (M := model X.prog X.w) (J3.kIn) LT hb1
        have test : ∀ {Q : Value → Shared → Prop} {E : Value → Shared → Prop}, Q c { s' with heap := h3 } → wpAny (model X.prog X.w) (X.A.mark (some (.ref a))) (eval (.Name x np) X.env) Q E { s' with heap := h3 } := fun {Q E} q => by
          obtain ⟨hg, hdbg, hm | ⟨hm, hv, hnn⟩⟩ := hc
          · exact ld_glob (X := X.suite a ((a, oe3) :: (X.pn ++ pins))) S3 hg hm q hdbg
          · exact ld_blt (X := X.suite a ((a, oe3) :: (X.pn ++ pins))) S3 hg hm hv q hnn hdbg
        refine test (LM.here ?_)
        cases b with
        | true =>
          refine codeAny_handlers_suite ?_
          refine HandSPX.lands_againZ fl3 fun h4 fl4 up4 => ?_
          have J4 : Inv X pins σ' H' { s' with heap := h4 } := J.landed nb fl4.1 ((up.trans up3).trans up4) os ag
          obtain ⟨oe4, vs4, he4, hz4, hd4⟩ := fl4.there
          have S4 := J4.suite he4 hd4 na nL nF
          refine wpAny_mono ((hsu a oe4 cls d (X.pn ++ pins) hz4 ⟨_, hd4⟩).run [] _ _ H' _ S4 (hyes rfl a na)) (fun f s6 hsp => ?_) (fun _ _ z => False.elim z)
          cases f with
          | next =>
            obtain ⟨σ6, H6, S6, q6⟩ := hsp
            exact ⟨_, _, S6.unsuite ok, q6⟩
          | brk =>
            obtain ⟨σ6, H6, S6, q6⟩ := hsp
            exact ⟨_, _, S6.unsuite ok, q6⟩
          | cont =>
            obtain ⟨σ6, H6, S6, q6⟩ := hsp
            exact ⟨_, _, S6.unsuite ok, q6⟩
          | ret u =>
            obtain ⟨v6, σ6, H6, S6, r6, q6⟩ := hsp
            exact ⟨_, _, _, S6.unsuite ok, r6, q6⟩
        | false =>
          show wpAny _ X.A (handleBy (.ref a) X.env hds2) _ _ _
          exact ih (hno rfl)
      | @as x n i c ts b₀ suite np pos' hds2 l2 hN hi hln hc hsu r ih =>
        intro w
        have hloc : Loc X.env.scope n := .inl hln
        obtain ⟨b, hb1, hyes, hno⟩ := w
        refine wpAny_handleBy_cons (codeAny_handlers_test ?_) (by intro q; cases q)
        have LT : PySem.W.Looks (model X.prog X.w) h3 (typeOf (.ref a)) cls := fun A Q E s k q => wpAny_typeOf_ref (k _ _ he3) (by rw [hz3.1]; exact q)
        have LM := PySem.W.exm_one (M := model X.prog X.w) (J3.kIn) LT hb1
        have test : ∀ {Q : Value → Shared → Prop} {E : Value → Shared → Prop}, Q c { s' with heap := h3 } → wpAny (model X.prog X.w) (X.A.mark (some (.ref a))) (eval (.Name x np) X.env) Q E { s' with heap := h3 } := fun {Q E} q => by
          obtain ⟨hg, hdbg, hm | ⟨hm, hv, hnn⟩⟩ := hc
          · exact ld_glob (X := X.suite a ((a, oe3) :: (X.pn ++ pins))) S3 hg hm q hdbg
          · exact ld_blt (X := X.suite a ((a, oe3) :: (X.pn ++ pins))) S3 hg hm hv q hnn hdbg
        refine test (LM.here ?_)
        cases b with
        | true =>
          refine codeAny_handlers_suite_as ?_
          refine HandSPX.lands_againZ fl3 fun h4 fl4 up4 => ?_
          have J4 : Inv X pins σ' H' { s' with heap := h4 } := J.landed nb fl4.1 ((up.trans up3).trans up4) os ag
          obtain ⟨oe4, vs4, he4, hz4, hd4⟩ := fl4.there
          have S4 := J4.suite he4 hd4 na nL nF
          refine store_ok (X := X.suite a ((a, oe4) :: (X.pn ++ pins))) (v := .ref a) S4 hN hi hloc rfl (fun s5 S5 => ?_) (.inr hln)
          refine wpAny_mono ((hsu a oe4 cls d (X.pn ++ pins) hz4 ⟨_, hd4⟩).run [] s5 _ H' _ S5 (hyes rfl a na)) (fun f s6 hsp => ?_) (fun _ _ z => False.elim z)
          have end_ : ∀ {σ6 : L2.St} {H6 : Hp} {Q : Shared → Prop}, Inv (X.suite a ((a, oe4) :: (X.pn ++ pins))) [] σ6 H6 s6 → (∀ s7, Inv X pins (σ6.set i none) H6 s7 → Q s7) →
              wpAny (model X.prog X.w) X.A (do bindName X.env n .none; unbindBehindTheSuite X.env n pos') (fun _ s7 => Q s7) X.xe s6 := fun {σ6 H6 Q} S6 hq => gone_ok (S6.unsuite ok) hN hi hln hq
          cases f with
          | next =>
            obtain ⟨σ6, H6, S6, q6⟩ := hsp
            exact end_ S6 fun s7 J7 => ⟨_, _, J7, q6⟩
          | brk =>
            obtain ⟨σ6, H6, S6, q6⟩ := hsp
            exact end_ S6 fun s7 J7 => ⟨_, _, J7, q6⟩
          | cont =>
            obtain ⟨σ6, H6, S6, q6⟩ := hsp
            exact end_ S6 fun s7 J7 => ⟨_, _, J7, q6⟩
          | ret u =>
            obtain ⟨v6, σ6, H6, S6, r6, q6⟩ := hsp
            exact end_ S6 fun s7 J7 => ⟨_, _, _, J7, r6, q6⟩
        | false =>
          show wpAny _ X.A (handleBy (.ref a) X.env hds2) _ _ _
          exact ih (hno rfl)
    exact go hh w
  · cases f with
    | next =>
      obtain ⟨σ', H', J', q⟩ := hsp
      exact ho.run pins s1 σ' H' D (J'.ofTry ok) q
    | brk =>
      obtain ⟨σ', H', J', q⟩ := hsp
      exact ⟨σ', H', J'.ofTry ok, q⟩
    | cont =>
      obtain ⟨σ', H', J', q⟩ := hsp
      exact ⟨σ', H', J'.ofTry ok, q⟩
    | ret u =>
      obtain ⟨v, σ', H', J', r, q⟩ := hsp
      exact ⟨v, σ', H', J'.ofTry ok, r, q⟩
end
end Fk

set_option maxHeartbeats 4000000
/-! What a table holds, as a map; puts, drops, merges, sorted copies; tables as data. -/
namespace Fk
open PySem PySem.Spec PyProof.Rows L2
theorem perm_of_sub {α : Type} [DecidableEq α] : ∀ {l m : List α}, l.Nodup → (∀ x ∈ l, x ∈ m) → m.length ≤ l.length → l.Perm m
  | [], m, _, _, h => by
    rw [List.eq_nil_of_length_eq_zero (Nat.le_zero.mp h)]
  | a :: l, m, n, s, h => by
    obtain ⟨n1, n2⟩ := List.nodup_cons.mp n
    have ha : a ∈ m := s a List.mem_cons_self
    have ih : l.Perm (m.erase a) := perm_of_sub n2 (fun x hx => (List.mem_erase_of_ne (fun e => n1 (by rw [← e]; exact hx))).mpr (s x (List.mem_cons_of_mem _ hx))) (by
      rw [List.length_erase_of_mem ha]
      rw [List.length_cons] at h
      omega)
    exact (ih.cons a).trans (List.perm_cons_erase ha).symm
abbrev Mp (α : Type) := Str → Option α
def putM {α : Type} (f : Mp α) (x : Str) (r : α) : Mp α := fun y => if y = x then some r else f y
def dropM {α : Type} (f : Mp α) (x : Str) : Mp α := fun y => if y = x then none else f y
def orM {α : Type} (f g : Mp α) : Mp α := fun y => (g y).or (f y)
def Holds {α : Type} (R : V → α → Prop) (t : Tab) (f : Mp α) : Prop := ∀ x, (valV t x = none ∧ f x = none) ∨ ∃ v r, valV t x = some v ∧ f x = some r ∧ R v r
section
variable {α : Type} {R R' : V → α → Prop} {t u : Tab} {f g : Mp α} {x : Str} {v : V} {r : α}
theorem Holds.nil : Holds R [] (fun _ => none) := fun _ => .inl ⟨rfl, rfl⟩
theorem Holds.imp (h : Holds R t f) (k : ∀ v r, R v r → R' v r) : Holds R' t f := fun x => (h x).imp id fun ⟨v, r, a, b, c⟩ => ⟨v, r, a, b, k _ _ c⟩
theorem val_putK (t : Tab) (x y : Str) (v : V) : valV (putK t x v) y = if y = x then some v else valV t y := valV_put t x y v
theorem Holds.put (h : Holds R t f) (k : R v r) : Holds R (putK t x v) (putM f x r) := fun y => by
  rw [val_putK]
  unfold putM
  by_cases e : y = x
  · rw [if_pos e, if_pos e]
    exact .inr ⟨v, r, rfl, rfl, k⟩
  · rw [if_neg e, if_neg e]
    exact h y
theorem Holds.drop (h : Holds R t f) : Holds R (dropK t x) (dropM f x) := fun y => by
  rw [valV_drop]
  unfold dropM
  by_cases e : y = x
  · rw [if_pos e, if_pos e]
    exact .inl ⟨rfl, rfl⟩
  · rw [if_neg e, if_neg e]
    exact h y
theorem Holds.isSome (h : Holds R t f) (x : Str) : (valV t x).isSome = (f x).isSome := by
  rcases h x with ⟨a, b⟩ | ⟨v, r, a, b, _⟩ <;> rw [a, b] <;> rfl
theorem Holds.mem (h : Holds R t f) : x ∈ t.map (·.1) ↔ (f x).isSome = true := by rw [mem_val, h.isSome]
theorem Holds.at (h : Holds R t f) (e : f x = some r) : ∃ v, valV t x = some v ∧ R v r := by
  rcases h x with ⟨_, b⟩ | ⟨v, r', a, b, c⟩
  · rw [e] at b; cases b
  · rw [e] at b
    cases b
    exact ⟨v, a, c⟩
theorem Holds.at' (h : Holds R t f) (e : valV t x = some v) : ∃ r, f x = some r ∧ R v r := by
  rcases h x with ⟨a, _⟩ | ⟨v', r, a, b, c⟩
  · rw [e] at a; cases a
  · rw [e] at a
    cases a
    exact ⟨r, b, c⟩
theorem Holds.nil_iff (h : Holds R t f) : t = [] ↔ ∀ x, f x = none := by
  constructor
  · intro e x
    rcases h x with ⟨_, b⟩ | ⟨v, r, a, _, _⟩
    · exact b
    · rw [e] at a; cases a
  · intro e
    cases t with
    | nil => rfl
    | cons p l =>
      rcases h p.1 with ⟨a, _⟩ | ⟨v, r, _, b, _⟩
      · rw [show p = (p.1, p.2) from rfl, valV_pos rfl] at a; cases a
      · rw [e] at b; cases b
/-- picked by keys -/
theorem Holds.sel (h : Holds R t f) {ys : List Str} {g : Mp α} (hg : ∀ x, g x = if x ∈ ys then f x else none) (hs : ∀ y ∈ ys, y ∈ t.map (·.1)) : Holds R (ys.map fun y => (y, (valV t y).getD .non)) g := fun x => by
  rw [val_keys, hg]
  by_cases e : x ∈ ys
  · rw [if_pos e, if_pos e]
    rcases h x with ⟨a, b⟩ | ⟨v, r, a, b, c⟩
    · have := mem_val.mp (hs x e)
      rw [a] at this
      cases this
    · rw [a]
      exact .inr ⟨v, r, rfl, b, c⟩
  · rw [if_neg e, if_neg e]
    exact .inl ⟨rfl, rfl⟩
/-- all of it, in another order -/
theorem Holds.perm (h : Holds R t f) {ys : List Str} (hp : ys.Perm (t.map (·.1))) : Holds R (ys.map fun y => (y, (valV t y).getD .non)) f := by
  refine h.sel (fun x => ?_) fun y hy => hp.mem_iff.mp hy
  by_cases e : x ∈ ys
  · rw [if_pos e]
  · rw [if_neg e]
    cases q : f x with
    | none => rfl
    | some r => exact absurd (hp.mem_iff.mpr (h.mem.mpr (by rw [q]; rfl))) e
/-- made anew by keys -/
theorem holds_by {ys : List Str} {vf : Str → V} {g : Mp α} (hg : ∀ y ∈ ys, ∃ r, g y = some r ∧ R (vf y) r) (hn : ∀ y, y ∉ ys → g y = none) : Holds R (ys.map fun y => (y, vf y)) g := fun x => by
  rw [val_keys]
  by_cases e : x ∈ ys
  · rw [if_pos e]
    obtain ⟨r, a, b⟩ := hg x e
    exact .inr ⟨_, r, rfl, a, b⟩
  · rw [if_neg e]
    exact .inl ⟨rfl, hn x e⟩
theorem nd_by {ys : List Str} (h : ys.Nodup) (vf : Str → V) : Nd (ys.map fun y => (y, vf y)) := by
  unfold Nd
  rw [List.map_map]
  have : ((fun p : Str × V => p.1) ∘ fun y => (y, vf y)) = id := rfl
  rw [this, List.map_id]
  exact h
/-- one table taken into another -/
theorem merge_any (t u : Tab) : ∃ m : Tab, mergeK (kT t) (kT u) = kT m ∧ (Nd t → Nd m) ∧ m.length ≤ t.length + u.length ∧ ∀ x, Nd u → valV m x = (valV u x).or (valV t x) := by
  induction u generalizing t with
  | nil => exact ⟨t, rfl, id, Nat.le_refl _, fun x _ => rfl⟩
  | cons p l ih =>
    obtain ⟨m, e, n, len, vl⟩ := ih (putK t p.1 p.2)
    refine ⟨m, ?_, fun h => n (nd_put h _ _), ?_, fun x hu => ?_⟩
    · show mergeK (putK (kT t) (.inr p.1) p.2) (kT l) = _
      rw [putK_kT, e]
    · have := length_putK t p.1 p.2
      rw [List.length_cons]
      omega
    · obtain ⟨h1, h2⟩ := List.nodup_cons.mp (show ((p :: l).map (·.1)).Nodup from hu)
      rw [vl x h2, val_putK]
      by_cases e : p.1 = x
      · have nl : valV l x = none := by
          cases c : valV l x with
          | none => rfl
          | some w => exact absurd (show p.1 ∈ l.map (·.1) by rw [e]; exact valV_in c) h1
        rw [nl, if_pos e.symm, show p = (p.1, p.2) from rfl, valV_pos e]
        rfl
      · rw [if_neg (fun z => e z.symm), valV_neg e]
theorem Holds.merge (h : Holds R t f) (k : Holds R u g) (nt : Nd t) (nu : Nd u) : ∃ m : Tab, mergeK (kT t) (kT u) = kT m ∧ Nd m ∧ m.length ≤ t.length + u.length ∧ Holds R m (orM f g) := by
  obtain ⟨m, e, n, len, vl⟩ := merge_any t u
  refine ⟨m, e, n nt, len, fun x => ?_⟩
  rw [vl x nu]
  unfold orM
  rcases k x with ⟨a, b⟩ | ⟨v, r, a, b, c⟩
  · rw [a, b]
    exact h x
  · rw [a, b]
    exact .inr ⟨v, r, rfl, rfl, c⟩
/-! ### as data -/
def dataM (dat : α → PyData) (t : Tab) (f : Mp α) : List (Key × PyData) := (t.map (·.1)).map fun y => ((.inr y : Key), ((f y).map dat).getD .none)
theorem Holds.dd {K : PySem.W.Frag} {H : Hp} {dat : α → PyData} (hd : ∀ v r, R v r → Dp K H v (dat r)) (nt : Nd t) (h : Holds R t f) : DD K H (kT t) (dataM dat t f) := by
  have key : ∀ l : Tab, (∀ p ∈ l, ∃ r, f p.1 = some r ∧ R p.2 r) → DD K H (kT l) (dataM dat l f) := by
    intro l
    induction l with
    | nil => intro _; exact .nil
    | cons p l ih =>
      intro hl
      obtain ⟨r, a, b⟩ := hl p List.mem_cons_self
      refine .cons ⟨rfl, ?_⟩ (ih fun q hq => hl q (List.mem_cons_of_mem _ hq))
      show Dp K H p.2 (((f p.1).map dat).getD .none)
      rw [a]
      exact hd _ _ b
  refine key t fun p hp => ?_
  have e : valV t p.1 = some p.2 := by
    clear key h
    induction t with
    | nil => cases hp
    | cons q l ih =>
      obtain ⟨h1, h2⟩ := List.nodup_cons.mp (show ((q :: l).map (·.1)).Nodup from nt)
      rcases List.mem_cons.mp hp with z | z
      · rw [z, show q = (q.1, q.2) from rfl, valV_pos rfl]
      · rw [valV_neg (fun e => h1 (by dsimp only; rw [e]; exact List.mem_map.mpr ⟨p, z, rfl⟩))]
        exact ih h2 z
  exact h.at' e
theorem valD_data (dat : α → PyData) (t : Tab) (f : Mp α) (x : Str) : valD (dataM dat t f) (.inr x) = if x ∈ t.map (·.1) then some (((f x).map dat).getD .none) else none := by
  unfold dataM
  generalize t.map (·.1) = ys
  induction ys with
  | nil => rfl
  | cons y l ih =>
    rw [List.map_cons]
    by_cases e : y = x
    · rw [valD_pos (by rw [e]), if_pos (by rw [e]; exact List.mem_cons_self), e]
    · rw [valD_neg (fun z => e (Sum.inr.inj z)), ih]
      by_cases m : x ∈ l
      · rw [if_pos m, if_pos (List.mem_cons_of_mem _ m)]
      · rw [if_neg m, if_neg (fun z => (List.mem_cons.mp z).elim (fun q => e q.symm) m)]
theorem eqv_data {dat : α → PyData} (inj : ∀ a b, PyData.eqv (dat a) (dat b) = true ↔ a = b) (h : Holds R t f) (k : Holds R u g) (nt : Nd t) (nu : Nd u) : eqvDict (dataM dat t f) (dataM dat u g) = true ↔ f = g := by
  have lt : (dataM dat t f).length = t.length := by unfold dataM; rw [List.length_map, List.length_map]
  have lu : (dataM dat u g).length = u.length := by unfold dataM; rw [List.length_map, List.length_map]
  unfold eqvDict
  rw [Bool.and_eq_true, decide_eq_true_eq, lt, lu, List.all_eq_true]
  constructor
  · rintro ⟨hl, ha⟩
    have sub : ∀ x r, f x = some r → g x = some r := fun x r e => by
      have m : x ∈ t.map (·.1) := h.mem.mpr (by rw [e]; rfl)
      have q := ha ((.inr x : Key), dat r) (by
        unfold dataM
        exact List.mem_map.mpr ⟨x, m, by rw [e]; rfl⟩)
      unfold hitD at q
      rw [valD_data] at q
      by_cases m2 : x ∈ u.map (·.1)
      · rw [if_pos m2] at q
        have z := k.mem.mp m2
        cases y : g x with
        | none => rw [y] at z; cases z
        | some r' =>
          rw [y] at q
          rw [(inj r r').mp q]
      · rw [if_neg m2] at q
        cases q
    have ks : (t.map (·.1)).Perm (u.map (·.1)) := by
      have s1 : ∀ x ∈ t.map (·.1), x ∈ u.map (·.1) := fun x hx => by
        have z := h.mem.mp hx
        cases y : f x with
        | none => rw [y] at z; cases z
        | some r => exact k.mem.mpr (by rw [sub x r y]; rfl)
      exact perm_of_sub nt s1 (by rw [List.length_map, List.length_map]; omega)
    funext x
    cases y : f x with
    | some r => exact (sub x r y).symm
    | none =>
      cases z : g x with
      | none => rfl
      | some r =>
        have := h.mem.mp (ks.mem_iff.mpr (k.mem.mpr (by rw [z]; rfl)))
        rw [y] at this
        cases this
  · intro e
    subst e
    have ks : (t.map (·.1)).Perm (u.map (·.1)) := (List.perm_ext_iff_of_nodup nt nu).mpr fun x => by rw [h.mem, k.mem]
    refine ⟨by have := ks.length_eq; rwa [List.length_map, List.length_map] at this, fun p hp => ?_⟩
    unfold dataM at hp
    obtain ⟨x, hx, rfl⟩ := List.mem_map.mp hp
    unfold hitD
    rw [valD_data, if_pos (ks.mem_iff.mp hx)]
    have z := h.mem.mp hx
    cases y : f x with
    | none => rw [y] at z; cases z
    | some r => exact (inj r r).mpr rfl
end
/-! ### tables made with values that are new -/
theorem paired_keys {α : Type} {kf : α → Str} {R : V → α → Prop} : ∀ {tab : Tab} {us : List α}, Paired (fun e u => e.1 = kf u ∧ R e.2 u) tab us → tab.map (·.1) = us.map kf
  | _, _, .nil => rfl
  | _, _, .cons h r => by rw [List.map_cons, List.map_cons, h.1, paired_keys r]
theorem paired_snoc {α : Type} {R : Str × V → α → Prop} {e : Str × V} {u : α} (h : R e u) : ∀ {tab : Tab} {us : List α}, Paired R tab us → Paired R (tab ++ [e]) (us ++ [u])
  | _, _, .nil => .cons h .nil
  | _, _, .cons a r => .cons a (paired_snoc h r)
theorem holds_paired {α β : Type} {kf : α → Str} {rf : α → β} {R : V → β → Prop} {g : Mp β} : ∀ {tab : Tab} {us : List α}, Paired (fun e u => e.1 = kf u ∧ R e.2 (rf u)) tab us → (us.map kf).Nodup → (∀ u ∈ us, g (kf u) = some (rf u)) → (∀ x, x ∉ us.map kf → g x = none) → Holds R tab g
  | _, _, .nil, _, _, hn => fun x => .inl ⟨rfl, hn x (by simp)⟩
  | _, _, .cons (a := e) (b := u) (l₂ := us) ⟨h1, h2⟩ r, nd, hg, hn => fun x => by
    obtain ⟨n1, n2⟩ := List.nodup_cons.mp (show (kf u :: us.map kf).Nodup from nd)
    by_cases c : e.1 = x
    · refine .inr ⟨e.2, rf u, valV_pos c, ?_, h2⟩
      rw [← c, h1]
      exact hg u List.mem_cons_self
    · rw [valV_neg c]
      have ih := holds_paired (g := fun y => if y = kf u then none else g y) r n2 (fun w hw => by
        rw [if_neg (fun z => n1 (by rw [← z]; exact List.mem_map.mpr ⟨w, hw, rfl⟩))]
        exact hg w (List.mem_cons_of_mem _ hw)) (fun y hy => by
          by_cases z : y = kf u
          · rw [if_pos z]
          · rw [if_neg z]
            exact hn y fun q => (List.mem_cons.mp q).elim z hy) x
      dsimp only at ih
      rw [if_neg (fun z => c (by rw [h1, z]))] at ih
      exact ih
section
variable {α β : Type} {J : It} {us : List α} {val : α → V} {G : Hp → Prop} {H1 : Hp} {D : Addr} {σ : L2.St} {vs : List Nat} {g : TG} {tt : TT} {tk tv : TE} {Q : Hp → Prop}
theorem dc_hold (Y : Yields J (us.map val) G) (kf : α → Str) (R : Hp → V → β → Prop) (rf : α → β) (p : α → Bool) (σf : α → L2.St) (hD1 : H1 D = none) (hG : ∀ H, Same H1 H → G H) (hw : ∀ u ∈ us, wipe (σf u) vs = wipe σ vs)
    (hg : ∀ H u, Same H1 H → u ∈ us → ∀ (S : L2.St → Hp → Prop), S (σf u) H → g (val u) (wipe σ vs) H S)
    (ht : ∀ H u, Same H1 H → u ∈ us → ∀ (S : Bool → Hp → Prop), (∀ H3, Same H H3 → S (p u) H3) → tt (σf u) H S)
    (hk : ∀ H u, Same H1 H → u ∈ us → p u = true → ∀ (S : VK), (∀ H3, Same H H3 → S (.str (kf u)) H3) → tk (σf u) H S)
    (mono : ∀ H H' v r, TupKeep H H' → R H v r → R H' v r)
    (hv : ∀ H u, Same H1 H → u ∈ us → p u = true → ∀ (S : VK), (∀ v H3, Same H H3 → R H3 v (rf u) → S v H3) → tv (σf u) H S)
    (hl : us.length ≤ 1000000) (nd : (us.map kf).Nodup) (hd : ∀ H tab, Same H1 H → H D = some (.dK (kT tab)) → Paired (fun e u => e.1 = kf u ∧ R H e.2 (rf u)) tab (us.filter p) → Q H) :
    ∃ W : Nat → Nat → Hp → Prop, (∃ m, W 0 m (upd H1 D (.dK []))) ∧ ∀ k m H, W k m H →
      (J.stop k H ∧ Q H) ∨ (J.go k H ∧ ∃ Nx : Hp → Prop, (∀ H', Nx H' → ∃ m', m' < m ∧ W (k + 1) m' H') ∧ ∀ x H', J.yld k H x H' → g x (wipe σ vs) H' fun σ2 H2 => wipe σ2 vs = wipe σ vs ∧ tt σ2 H2 fun b H3 =>
        if b = true then tk σ2 H3 fun y H4 => tv σ2 H4 fun z H5 => ∃ kvs key, y = kV key ∧ H5 D = some (.dK kvs) ∧ kvs.length < sizeLine ∧ Nx (upd H5 D (.dK (putK kvs key z))) else Nx H3) := by
  refine dcG Y (fun k kvs H => Same H1 H ∧ ∃ tab, kvs = kT tab ∧ Paired (fun e u => e.1 = kf u ∧ R H e.2 (rf u)) tab ((us.take k).filter p)) (fun k acc H h _ => hG H h.1) ⟨same_new hD1, [], rfl, .nil⟩ (fun k kvs H x hI hD hx hacc hk' => ?_) (by rw [List.length_map]; exact hl) (fun acc H hI hD _ => ?_)
  · obtain ⟨sm, tab, ea, pr⟩ := hI
    rw [List.getElem?_map] at hx
    cases hu : us[k]? with
    | none => rw [hu] at hx; cases hx
    | some u =>
      rw [hu] at hx
      cases hx
      have hm : u ∈ us := List.mem_of_getElem? hu
      have et : us.take (k + 1) = us.take k ++ [u] := by
        rw [List.take_add_one, hu]
        rfl
      refine hg H u sm hm _ ⟨hw u hm, ht H u sm hm _ fun H3 s3 => ?_⟩
      by_cases hp : p u = true
      · rw [if_pos hp]
        refine hk H3 u (sm.trans s3) hm hp _ fun H4 s4 => hv H4 u ((sm.trans s3).trans s4) hm hp _ fun v H5 s5 rv => ?_
        have s35 := (s3.trans s4).trans s5
        have new : valV tab (kf u) = none := by
          cases c : valV tab (kf u) with
          | none => rfl
          | some z =>
            have m := valV_in c
            rw [paired_keys (R := fun v u => R H v (rf u)) pr] at m
            obtain ⟨w, hw', ew⟩ := List.mem_map.mp m
            have e : us = us.take k ++ (u :: us.drop (k + 1)) := by
              conv => lhs; rw [← List.take_append_drop (k + 1) us, et, List.append_assoc]
              rfl
            rw [e, List.map_append] at nd
            exact absurd ew ((List.nodup_append.mp nd).2.2 (kf w) (List.mem_map.mpr ⟨w, (List.mem_filter.mp hw').1, rfl⟩) (kf u) List.mem_cons_self)
        refine dc_take (key := .inr (kf u)) (s35 _ _ hD) hacc hk' ⟨same_mut (sm.trans s35) hD1, tab ++ [(kf u, v)], ?_, ?_⟩
        · rw [ea, putK_kT, putK_new _ new]
        · have k1 : TupKeep H5 (upd H5 D (.dK (putK kvs (.inr (kf u)) v))) := TupKeep.at fun xs z => by rw [s35 _ _ hD] at z; cases z
          have k2 : TupKeep H (upd H5 D (.dK (putK kvs (.inr (kf u)) v))) := (TupKeep.of s35).trans k1
          rw [et, List.filter_append, List.filter_cons, hp]
          exact paired_snoc (R := fun e u => e.1 = kf u ∧ R _ e.2 (rf u)) ⟨rfl, mono _ _ _ _ k1 rv⟩ (Paired.mapP pr fun e w ⟨a, b⟩ => ⟨a, mono _ _ _ _ k2 b⟩)
      · rw [if_neg hp]
        refine dc_skip (s3 _ _ hD) hacc ⟨sm.trans s3, tab, ea, ?_⟩
        rw [et, List.filter_append, List.filter_cons, if_neg hp]
        simp only [List.filter_nil, List.append_nil]
        exact Paired.mapP pr fun e w ⟨a, b⟩ => ⟨a, mono _ _ _ _ (TupKeep.of s3) b⟩
  · obtain ⟨sm, tab, ea, pr⟩ := hI
    rw [List.length_map, List.take_length] at pr
    rw [ea] at hD
    exact hd H tab sm hD pr
end
section
variable {α β : Type} {J : It} {us : List α} {G : Hp → Prop} {H1 : Hp} {D : Addr} {σ : L2.St} {vs : List Nat} {g : TG} {tt : TT} {tk tv : TE} {Q : Hp → Prop}
/-- .. over things that are new at each turn -/
theorem dc_holdS (hgo : ∀ k H, G H → k < us.length → J.go k H) (hstop : ∀ H, G H → J.stop us.length H) (kf : α → Str) (R : Hp → V → β → Prop) (rf : α → β) (p : α → Bool) (σf : α → L2.St) (hD1 : H1 D = none) (hG : ∀ H, Same H1 H → G H) (hw : ∀ u ∈ us, wipe (σf u) vs = wipe σ vs)
    (hg : ∀ k H u x H', Same H1 H → us[k]? = some u → J.yld k H x H' → Same H H' ∧ ∀ (S : L2.St → Hp → Prop), S (σf u) H' → g x (wipe σ vs) H' S)
    (ht : ∀ H u, Same H1 H → u ∈ us → ∀ (S : Bool → Hp → Prop), (∀ H3, Same H H3 → S (p u) H3) → tt (σf u) H S)
    (hk : ∀ H u, Same H1 H → u ∈ us → p u = true → ∀ (S : VK), (∀ H3, Same H H3 → S (.str (kf u)) H3) → tk (σf u) H S)
    (mono : ∀ H H' v r, TupKeep H H' → R H v r → R H' v r)
    (hv : ∀ H u, Same H1 H → u ∈ us → p u = true → ∀ (S : VK), (∀ v H3, Same H H3 → R H3 v (rf u) → S v H3) → tv (σf u) H S)
    (hl : us.length ≤ 1000000) (nd : (us.map kf).Nodup) (hd : ∀ H tab, Same H1 H → H D = some (.dK (kT tab)) → Paired (fun e u => e.1 = kf u ∧ R H e.2 (rf u)) tab (us.filter p) → Q H) :
    ∃ W : Nat → Nat → Hp → Prop, (∃ m, W 0 m (upd H1 D (.dK []))) ∧ ∀ k m H, W k m H →
      (J.stop k H ∧ Q H) ∨ (J.go k H ∧ ∃ Nx : Hp → Prop, (∀ H', Nx H' → ∃ m', m' < m ∧ W (k + 1) m' H') ∧ ∀ x H', J.yld k H x H' → g x (wipe σ vs) H' fun σ2 H2 => wipe σ2 vs = wipe σ vs ∧ tt σ2 H2 fun b H3 =>
        if b = true then tk σ2 H3 fun y H4 => tv σ2 H4 fun z H5 => ∃ kvs key, y = kV key ∧ H5 D = some (.dK kvs) ∧ kvs.length < sizeLine ∧ Nx (upd H5 D (.dK (putK kvs key z))) else Nx H3) := by
  let In : Nat → Hp → Prop := fun k H => Same H1 H ∧ ∃ tab, H D = some (.dK (kT tab)) ∧ tab.length ≤ k ∧ Paired (fun e u => e.1 = kf u ∧ R H e.2 (rf u)) tab ((us.take k).filter p)
  refine ⟨fun k m H => m = us.length - k ∧ k ≤ us.length ∧ In k H, ⟨us.length, rfl, Nat.zero_le _, same_new hD1, [], upd_same, Nat.zero_le _, .nil⟩, ?_⟩
  rintro k m H ⟨rfl, hk', sm, tab, hD, ltab, pr⟩
  by_cases hlt : k < us.length
  · refine .inr ⟨hgo k H (hG _ sm) hlt, In (k + 1), fun H' q => ⟨us.length - (k + 1), by omega, rfl, hlt, q⟩, fun x H' y => ?_⟩
    obtain ⟨u, hu⟩ : ∃ u, us[k]? = some u := ⟨us[k], List.getElem?_eq_getElem hlt⟩
    have hm : u ∈ us := List.mem_of_getElem? hu
    have et : us.take (k + 1) = us.take k ++ [u] := by
      rw [List.take_add_one, hu]
      rfl
    obtain ⟨s0, gg⟩ := hg k H u x H' sm hu y
    refine gg _ ⟨hw u hm, ht H' u (sm.trans s0) hm _ fun H3 s3 => ?_⟩
    have s03 := s0.trans s3
    by_cases hp : p u = true
    · rw [if_pos hp]
      refine hk H3 u (sm.trans s03) hm hp _ fun H4 s4 => hv H4 u ((sm.trans s03).trans s4) hm hp _ fun v H5 s5 rv => ?_
      have s35 := (s03.trans s4).trans s5
      have new : valV tab (kf u) = none := by
        cases c : valV tab (kf u) with
        | none => rfl
        | some z =>
          have m := valV_in c
          rw [paired_keys (R := fun v u => R H v (rf u)) pr] at m
          obtain ⟨w, hw', ew⟩ := List.mem_map.mp m
          have e : us = us.take k ++ (u :: us.drop (k + 1)) := by
            conv => lhs; rw [← List.take_append_drop (k + 1) us, et, List.append_assoc]
            rfl
          rw [e, List.map_append] at nd
          exact absurd ew ((List.nodup_append.mp nd).2.2 (kf w) (List.mem_map.mpr ⟨w, (List.mem_filter.mp hw').1, rfl⟩) (kf u) List.mem_cons_self)
      have k1 : TupKeep H5 (upd H5 D (.dK (putK (kT tab) (.inr (kf u)) v))) := TupKeep.at fun xs z => by rw [s35 _ _ hD] at z; cases z
      have k2 : TupKeep H (upd H5 D (.dK (putK (kT tab) (.inr (kf u)) v))) := (TupKeep.of s35).trans k1
      refine ⟨kT tab, .inr (kf u), rfl, s35 _ _ hD, small_lt (by rw [len_kT]; omega), same_mut (sm.trans s35) hD1, tab ++ [(kf u, v)], ?_, by rw [List.length_append]; show _ + 1 ≤ _; omega, ?_⟩
      · rw [upd_same, putK_kT, putK_new _ new]
      · rw [et, List.filter_append, List.filter_cons, hp]
        exact paired_snoc (R := fun e u => e.1 = kf u ∧ R _ e.2 (rf u)) ⟨rfl, mono _ _ _ _ k1 rv⟩ (Paired.mapP pr fun e w ⟨a, b⟩ => ⟨a, mono _ _ _ _ k2 b⟩)
    · rw [if_neg hp]
      refine ⟨sm.trans s03, tab, s03 _ _ hD, by omega, ?_⟩
      rw [et, List.filter_append, List.filter_cons, if_neg hp]
      simp only [List.filter_nil, List.append_nil]
      exact Paired.mapP pr fun e w ⟨a, b⟩ => ⟨a, mono _ _ _ _ (TupKeep.of s03) b⟩
  · have e : k = us.length := by omega
    subst e
    rw [List.take_length] at pr
    exact .inl ⟨hstop H (hG _ sm), hd H tab sm hD pr⟩
end
end Fk

set_option maxHeartbeats 4000000
/-! Values of files and rows of changes: what they are, where they stand. -/
namespace Fk
open PySem PySem.Spec PyProof.Rows L2
/-- a file's value, or that there is none -/
abbrev Fv := Option (Str × Str)
abbrev Rw := Fv × Fv
def fvD : Fv → PyData
  | none => .none
  | some p => .tuple [.str p.1, .str p.2]
def rwD (r : Rw) : PyData := .tuple [fvD r.1, fvD r.2]
def FKS : List Str := ["file", "exec"]
section
variable {K : PySem.W.Frag} {H H' : Hp}
def FvV (K : PySem.W.Frag) (H : Hp) (v : V) : Fv → Prop
  | none => v = .non
  | some p => ∃ q, v = .ref q ∧ TupK K H q [.str p.1, .str p.2]
def RwV (K : PySem.W.Frag) (H : Hp) (v : V) (r : Rw) : Prop := ∃ q v1 v2, v = .ref q ∧ TupK K H q [v1, v2] ∧ FvV K H v1 r.1 ∧ FvV K H v2 r.2
theorem FvV.keep {v : V} {f : Fv} (h : FvV K H v f) (k : TupKeep H H') : FvV K H' v f := by
  cases f with
  | none => exact h
  | some p =>
    obtain ⟨q, e, t⟩ := h
    exact ⟨q, e, t.keep k⟩
theorem RwV.keep {v : V} {r : Rw} (h : RwV K H v r) (k : TupKeep H H') : RwV K H' v r := by
  obtain ⟨q, v1, v2, e, t, a, b⟩ := h
  exact ⟨q, v1, v2, e, t.keep k, a.keep k, b.keep k⟩
theorem FvV.dp {v : V} {f : Fv} (h : FvV K H v f) : Dp K H v (fvD f) := by
  cases f with
  | none =>
    obtain rfl : v = .non := h
    exact .non
  | some p =>
    obtain ⟨q, rfl, t⟩ := h
    exact dp_head t
theorem RwV.dp {v : V} {r : Rw} (h : RwV K H v r) : Dp K H v (rwD r) := by
  obtain ⟨q, v1, v2, rfl, t, a, b⟩ := h
  exact .tup t.sq (.cons a.dp (.cons b.dp .nil))
def GoodF (f : Fv) : Prop := ∀ p, f = some p → p.1 ∈ FKS ∧ isIdF p.2 = true
def GoodR (r : Rw) : Prop := GoodF r.1 ∧ GoodF r.2
theorem ok_fks : ∀ x ∈ FKS, OkS x := by
  intro x hx
  simp only [FKS, List.mem_cons, List.not_mem_nil, or_false] at hx
  rcases hx with rfl | rfl <;> exact ok_by (by decide +kernel)
theorem ok_idF {x : Str} (h : isIdF x = true) : OkS x ∧ x.length = 16 := by
  unfold isIdF at h
  obtain ⟨h1, h2⟩ := Bool.and_eq_true_iff.mp h
  refine ⟨fun u hu => ?_, of_decide_eq_true h1⟩
  unfold hasOnly at h2
  have := List.all_eq_true.mp h2 u hu
  exact ok_hex u (of_decide_eq_true this)
theorem lay_fv {f : Fv} (h : GoodF f) : PyData.canLay0 (fvD f) = true := by
  cases f with
  | none => rfl
  | some p =>
    obtain ⟨h1, h2⟩ := h p rfl
    show PyData.canLayAll0 ([p.1, p.2].map PyData.str) = true
    exact lay_strs _ fun y hy => by
      simp only [List.mem_cons, List.not_mem_nil, or_false] at hy
      rcases hy with rfl | rfl
      · exact ok_fks _ h1
      · exact (ok_idF h2).1
theorem depth_fv (f : Fv) : PyData.depth (fvD f) ≤ 1 := by
  cases f with
  | none => exact Nat.zero_le _
  | some p => exact Nat.le_refl _
end
theorem shaped_fv {f : Fv} (h : GoodF f) : SeqAt.shaped (fvD f) = true := by
  unfold SeqAt.shaped
  rw [lay_fv h, Bool.true_and]
  exact decide_eq_true (Nat.le_trans (depth_fv f) (by decide))
theorem shaped_rw {r : Rw} (h : GoodR r) : SeqAt.shaped (rwD r) = true := by
  unfold SeqAt.shaped rwD
  have d1 := depth_fv r.1
  have d2 := depth_fv r.2
  have c : PyData.canLay0 (.tuple [fvD r.1, fvD r.2]) = true := by
    simp only [PyData.canLay0, PyData.canLayAll0, lay_fv h.1, lay_fv h.2, Bool.and_self]
  rw [c, Bool.true_and]
  refine decide_eq_true ?_
  show PyData.depthAll [fvD r.1, fvD r.2] + 1 ≤ 64
  simp only [PyData.depthAll]
  omega
theorem eqv_fv (a b : Fv) : PyData.eqv (fvD a) (fvD b) = decide (a = b) := by
  cases a with
  | none => cases b <;> rfl
  | some p =>
    cases b with
    | none => rfl
    | some q =>
      show PyData.eqv (.tuple [.str p.1, .str p.2]) (.tuple [.str q.1, .str q.2]) = _
      rw [eqv_head]
      refine decide_eq_decide.mpr ⟨fun h => ?_, fun h => ?_⟩
      · rw [show p = (p.1, p.2) from rfl, show q = (q.1, q.2) from rfl, h]
      · cases h
        rfl
theorem eqv_rw (a b : Rw) : PyData.eqv (rwD a) (rwD b) = decide (a = b) := by
  show PyData.eqvAll [fvD a.1, fvD a.2] [fvD b.1, fvD b.2] = _
  simp only [PyData.eqvAll, eqv_fv, Bool.and_true]
  rw [Bool.eq_iff_iff, Bool.and_eq_true, decide_eq_true_eq, decide_eq_true_eq, decide_eq_true_eq]
  exact ⟨fun ⟨x, y⟩ => Prod.ext x y, fun e => by rw [e]; exact ⟨rfl, rfl⟩⟩
/-- a path that may stand in files and changes -/
def PathOk (x : Str) : Prop := isPathF x = true ∧ x.length ≤ 1000 ∧ OkS x
/-- rows by paths, each as it should be -/
structure RowsOk (n : Nat) (t : Tab) (m : Mp Rw) : Prop where
  nd : Nd t
  len : t.length ≤ n
  path : ∀ x ∈ t.map (·.1), PathOk x
  good : ∀ x r, m x = some r → GoodR r
/-- a dict of rows at e -/
def RowsAt (K : PySem.W.Frag) (H : Hp) (e : Addr) (n : Nat) (m : Mp Rw) : Prop := ∃ t, H e = some (.dK (kT t)) ∧ Holds (RwV K H) t m ∧ RowsOk n t m
/-- a change at a, its dict at d, the rows in order -/
def ChAt (K : PySem.W.Frag) (C : Addr) (H : Hp) (a dx d : Addr) (n : Nat) (m : Mp Rw) : Prop := H a = some (.ins C dx [("_rows", .ref d)]) ∧ ∃ t, H d = some (.dK (kT t)) ∧ Holds (RwV K H) t m ∧ RowsOk n t m ∧ sortedS (t.map (·.1)) = true
section
variable {K : PySem.W.Frag} {H H' : Hp} {n : Nat} {m : Mp Rw} {C e a dx d : Addr}
theorem RowsAt.same (h : RowsAt K H e n m) (s : Same H H') : RowsAt K H' e n m := by
  obtain ⟨t, h1, h2, h3⟩ := h
  exact ⟨t, s _ _ h1, h2.imp fun _ _ x => x.keep (TupKeep.of s), h3⟩
theorem ChAt.same (h : ChAt K C H a dx d n m) (s : Same H H') : ChAt K C H' a dx d n m := by
  obtain ⟨h0, t, h1, h2, h3⟩ := h
  exact ⟨s _ _ h0, t, s _ _ h1, h2.imp fun _ _ x => x.keep (TupKeep.of s), h3⟩
theorem RowsOk.mono {t : Tab} {n' : Nat} (h : RowsOk n t m) (l : n ≤ n') : RowsOk n' t m := ⟨h.nd, Nat.le_trans h.len l, h.path, h.good⟩
theorem RowsOk.shaped {t : Tab} (h : RowsOk n t m) (hh : Holds (RwV K H) t m) : shapedAll (dataM rwD t m) := fun p hp => by
  unfold dataM at hp
  obtain ⟨x, hx, rfl⟩ := List.mem_map.mp hp
  have z := hh.mem.mp hx
  cases y : m x with
  | none => rw [y] at z; cases z
  | some r => exact shaped_rw (h.good x r y)
theorem rows_eq {b : Addr} {t u : Tab} {n' : Nat} {f g : Mp Rw} {Q : VK} {c : Bool} (ha : H a = some (.dK (kT t))) (hb : H b = some (.dK (kT u))) (h : Holds (RwV K H) t f) (k : Holds (RwV K H) u g) (ho : RowsOk n t f) (ko : RowsOk n' u g) (hc : c = true ↔ f = g) (q : Q (.bl c) H) : rEqDD K (.ref a) (.ref b) H Q := by
  refine ⟨a, b, dataM rwD t f, dataM rwD u g, rfl, rfl, ⟨_, ha, h.dd (fun _ _ x => x.dp) ho.nd⟩, ⟨_, hb, k.dd (fun _ _ x => x.dp) ko.nd⟩, ho.shaped h, ko.shaped k, ?_⟩
  have e : eqvDict (dataM rwD t f) (dataM rwD u g) = c := by
    rw [Bool.eq_iff_iff, eqv_data (fun a b => by rw [eqv_rw, decide_eq_true_eq]) h k ho.nd ko.nd, hc]
  rw [e]
  exact q
end
/-! ### == and != of values -/
def rEqFv (K : PySem.W.Frag) : R2 := fun x y H Q => ∃ f g, FvV K H x f ∧ FvV K H y g ∧ GoodF f ∧ GoodF g ∧ Q (.bl (decide (f = g))) H
def rNeFv (K : PySem.W.Frag) : R2 := fun x y H Q => ∃ f g, FvV K H x f ∧ FvV K H y g ∧ GoodF f ∧ GoodF g ∧ Q (.bl (!decide (f = g))) H
theorem op_eqFv {X : Cx} {K : PySem.W.Frag} (e : X.K = K) (hu : X.A.units + 64 < cLine) : OpR X (compareOp .Eq) (rEqFv K) := fun pn s σ H x y v u Q I rx ry h => by
  subst e
  obtain ⟨f, g, a, b, gf, gg, q⟩ := h
  exact op_eqD hu pn s σ H x y v u Q I rx ry ⟨_, _, a.dp, b.dp, shaped_fv gf, shaped_fv gg, by rw [eqv_fv]; exact q⟩
theorem op_neFv {X : Cx} {K : PySem.W.Frag} (e : X.K = K) (hu : X.A.units + 64 < cLine) : OpR X (compareOp .NotEq) (rNeFv K) := fun pn s σ H x y v u Q I rx ry h => by
  subst e
  obtain ⟨f, g, a, b, gf, gg, q⟩ := h
  exact op_neD hu pn s σ H x y v u Q I rx ry ⟨_, _, a.dp, b.dp, shaped_fv gf, shaped_fv gg, by rw [eqv_fv]; exact q⟩
end Fk

set_option maxHeartbeats 4000000
/-! a def that makes lambdas (its code object known); a lambda handed to a def, by the def's name; the end with the tables of such defs. -/
namespace Fk
open PySem PySem.Spec PyProof.Rows L2 LamX
section
variable {P : Program} {w : World} {K : PySem.W.Frag} {mg : Str → Option Value} {base : Heap}
/-- a def of the module, its code object known -/
def IsDefC (K : PySem.W.Frag) (mg : Str → Option Value) (x : Str) (st : Stmt) (c : Addr) : Prop := ∃ f fd, C8.Def K mg x st f fd ∧ fd.defaults = .none ∧ fd.code = .ref c
theorem cal_ofC {x : Str} {st : Stmt} {N ps : List Str} {k : Nat} {sp : Sp} {c : Addr} (D : IsDefC K mg x st c) (S : FnScope N ps (C8.fnScope st))
    (hb : ∀ (kV doc pm : Value) (an : Option Addr) (cdv ct : Value) (us : List Value), us.length = ps.length → bindArgs (PySem.W.fnOf x x (C8.fnArgs st) (C8.fnBody st) (C8.fnScope st) .none kV doc pm an cdv ct) ⟨us, []⟩ = pure (ps.zip us))
    (len : ∀ vs H Q E, sp vs H Q E → vs.length = ps.length)
    (hbody : ∀ (f : Addr) (A : Around) (outer : List Env) (s : Shared) (H : Hp) (vs : List V) (Q : VK) (E : XK), Room k (A.deeper (envOfC x (C8.fnScope st) s.heap.objs.size f (.ref c))) → sp vs H Q E →
      ∃ t, PSs (cxOf C8.CX0 P w K mg base N x (C8.fnScope st) f (.ref c) A outer s H E).nox (C8.fnBody st) t ∧ t { nx := fun _ H' => Q .non H', rt := Q } (start N vs) H) : C8.Cal P w K mg base (k + 1) x sp [] := by
  obtain ⟨f, fd, D, df, dc⟩ := D
  obtain ⟨oc, od, dV, kV, doc, pm, an, cdv, ct, osl, rfl, lk, hcd⟩ := D.fn.ex
  have e : dV = .none := df
  subst e
  have e2 : cdv = .ref c := dc
  subst e2
  exact ⟨f, _, ps, [], fn_of lk hcd S len fun A outer s H vs Q E hr hsp => by
    obtain ⟨t, h, q⟩ := hbody f A outer s H vs Q E hr hsp
    exact ⟨t, h.nox, q⟩, D.mgf, D.kp, .all (hb kV doc pm an (.ref c) ct), .nil⟩
end
/-- what the lambda's body lets out, its caller is told of -/
theorem takes_lam {X : Cx} {A : Around} {outer : List Env} {s : Shared} {H : Hp} {E : XK} {scope : Scope} {f c' : Addr} : Takes (lamCx X A outer s H E scope f c') (fun cls d _ H' => E cls d H') :=
  takes_of rfl rfl rfl rfl
/-- where an error is let out, the names are as many as ever -/
theorem takes_len {X : Cx} {W : WX} (tk : Takes X W) : Takes X (fun cls d σ H => σ.length = X.N.length → W cls d σ H) := fun u s' ⟨a, B, sI, pins, σ, H, cls, d, e, I, nb, up, sky, na, os, ag, w⟩ =>
  tk u s' ⟨a, B, sI, pins, σ, H, cls, d, e, I, nb, up, sky, na, os, ag, w I.len⟩
section
variable {X : Cx}
/-- x(lambda: body), x a def of one parameter a -/
theorem pe_lamC {T : List (Addr × Str)} {TT : (XK → Hp → VK → Prop) → Hp → VK → Prop} {x a : Str} {st : Stmt} {c P : Addr} {k j : Nat} {Ng : List Str}
    {params : Arguments} {body : Expr} {scope : Scope} {t : XK → TE} {p lpos pos : Pos} (D : IsDef X.K X.mg x st) (Sg : FnScope Ng [a] (C8.fnScope st))
    (hb : ∀ (kV doc pm : Value) (an : Option Addr) (cdv ct : Value) (us : List Value), us.length = 1 → bindArgs (PySem.W.fnOf x x (C8.fnArgs st) (C8.fnBody st) (C8.fnScope st) .none kV doc pm an cdv ct) ⟨us, []⟩ = pure ([a].zip us))
    (hg : Gl X x) (hNg : Ng[0]? = some a) (hva : Vis (C8.fnScope st) a)
    (hG : ∀ (g : Addr) (cdg : Value), GivesTo X Ng x (C8.fnScope st) g cdg (C8.fnBody st) a (X.env.qual ++ "<lambda>") TT)
    (TB : TabB X.base X.mg c P) (hcode : X.env.code = .ref c) (hmT : (P, X.env.qual ++ "<lambda>") ∈ T) (hu : ∀ p ∈ T, p.1 = P → p.2 = X.env.qual ++ "<lambda>") (hr : Room j X.A) (hk : k + 2 ≤ j) (L : LamS X.env.scope scope) (hdef : defaultsOf params X.env = ([], []))
    (hbind : ∀ (q : Str) (cl : List (Str × Addr)) (pm cv ctv : Value), bindArgs (PySem.W.kla_fn "<lambda>" q params body scope cl pm cv ctv) ⟨[], []⟩ = pure [])
    (hbody : ∀ (A : Around) (outer : List Env) (s : Shared) (H : Hp) (E : XK) (f c' : Addr), Room k (A.deeper (lamEnv X scope s.heap.objs.size f c')) → PE (lamCx X A outer s H E scope f c') body (t E))
    (hdb : (x == ("__debug__" : Str)) = false := by decide) (hd : (a == ("__debug__" : Str)) = false := by decide) (hcd : (a == ("__classdict__" : Str)) = false := by decide) :
    PE X (.Call (.Name x p) [.Lambda params body scope lpos] [] pos) (tLam T TT t) := by
  obtain ⟨f, fd, D, df⟩ := D
  obtain ⟨oc, od, dV, kV, doc, pm, an, cdv, ct, osl, rfl, lk, hcg⟩ := D.fn.ex
  have e : dV = .none := df
  subst e
  exact pe_lamcall hg D.mgf D.kp lk hcg (.all (hb kV doc pm an cdv ct)) Sg hNg hva (hG f cdv) TB hcode hmT hu (hr.mono hk) L hdef hbind hbody hdb hd hcd
end
/-! ### the end -/
/-- the def y, its code object and its table -/
def TabD (mg : Str → Option Value) (h : Heap) (y : Str) (c P : Addr) : Prop := ∃ (a : Addr) (o : Obj) (fd : FuncData), mg y = some (.ref a) ∧ h.get? a = some o ∧ o.data = .func fd ∧ fd.code = .ref c ∧ PySem.W.CodeHd h c P ∧ h.get? P = some { cls := .none, data := .fields #[] }
theorem TabD.code {K : PySem.W.Frag} {mg : Str → Option Value} {h : Heap} {y : Str} {c P f : Addr} {fd : FuncData} {oc : Value} {od : Option Addr} {osl : Array (Option Value)} (t : TabD mg h y c P) (X : K.In h) (hm : mg y = some (.ref f)) (lk : K.lookup f = some ⟨oc, od, .func fd, osl⟩) : fd.code = .ref c := by
  obtain ⟨a, o, fd', h1, h2, h3, h4, _⟩ := t
  rw [hm] at h1
  cases h1
  have e := X _ _ lk
  rw [h2] at e
  cases e
  cases h3
  exact h4
theorem walk_ofTabs {l : PySem.W.OpenLaw} {n k : Nat} {q : Program} {loose : List Str} {XP : (Str → Option Value) → Heap → Prop} {YP : World → Heap → Prop} {d : DefRec} {K : Params → PySem.W.Frag} {CX : World → CXT} {x : Str} {ys : List Str}
    (hn : l.most = some n) (hn2 : n ≤ sizeLine) (hdf : d.params.defaults = []) (hr : Room k callerA) (hrec : ∀ y ∈ ys, ((recsOf q).any fun e => e.name == y) = true) (hY : ∀ (w : World) (h : Heap), YP w h → (K w.params).In h)
    (F : ∀ (w : World) (mg : Str → Option Value) (fa : Addr) (h : Heap), YP w h → (K w.params).In h → h.Ns mainGlobals mg → mg d.name = some (.ref fa) → (∀ y ∈ ys, ∃ c P, TabD mg h y c P) → LawAtS l w (K w.params) (CX w) k n x mg fa h)
    (hCX : ∀ (w : World) (H : Hp) (s : Shared) (e : Value) (s' : Shared), CX w [] H s (fun _ _ _ => False) e s' → False) :
    PySem.W.WalkO q loose XP YP l.row.toRowW d [] (fun f vs => PySem.call f vs) := by
  refine Att.attach_callB hn hdf fun w s₀ s₁ mg mb fa o pm cd doc a vs ns G Y ho hd hcd hmg hobj hints hlen hbits hg => ?_
  have KX := hY w _ Y
  have tabs : ∀ y ∈ ys, ∃ c P, TabD mg s₁.heap y c P := fun y hy => by
    obtain ⟨dL, hm, hn1⟩ := List.any_eq_true.mp (hrec y hy)
    have hn2 : dL.name = y := beq_iff_eq.mp hn1
    obtain ⟨a', o', fd', c', P', h1, h2, h3, h4, h5, h6⟩ := G.T.tab dL hm
    rw [hn2] at h1
    exact ⟨c', P', a', o', fd', h1, h2, h3, h4, PySem.W.CodeHd.of h5 h6, h6.2⟩
  obtain ⟨fd, cs, sp, hT, nT, C, hb, hsp, hF⟩ := F w mg fa _ Y KX G.T.g hmg tabs
  exact law_callTs KX G.T.g G.T.b G.T.builtins G.T.nolimit hg hT nT C G.T.bmain hobj hints (Nat.le_trans hlen hn2) hr hF hb (fun H hH hS => hsp H a ns hlen hbits hH hS) fun H e s' => hCX w H s₁ e s'
end Fk

set_option maxHeartbeats 4000000
/-! The law's own call at the top, where nothing is being shown: so repr of containers can be had in the law's def. -/
namespace Fk
open PySem PySem.Spec PyProof.Rows L2 LamX
/-- a def's promise to the topmost caller alone -/
structure TopOk (P : Program) (w : World) (K : PySem.W.Frag) (mg : Str → Option Value) (base : Heap) (CX : CXT) (f : Addr) (fd : FuncData) (ps : List Str) (sp : Sp) : Prop where
  len : ∀ vs H Q E, sp vs H Q E → vs.length = ps.length
  run : ∀ (s : Shared) (H : Hp) (args : Args) (us : List Value) (vs : List V) (Q : VK) (E : XK), Env0 P w K mg base callerA [] s H → BindsTo s fd args (ps.zip us) → Vals vs us → sp vs H Q E → codeAny (model P w) callerA (.call (.ref f) args) (CR CX [] P w H s Q E) s
section
variable {P : Program} {w : World} {K : PySem.W.Frag} {mg : Str → Option Value} {base : Heap}
theorem top_of {CX : CXT} {k : Nat} {x qual : Str} {st : Stmt} {f : Addr} {fd : FuncData} {N ps : List Str} {sp : Sp} {cd : Value} (F : C8.Fun K x qual st f fd) (hc : fd.code = cd) (S : FnScope N ps (C8.fnScope st)) (hr : Room (k + 1) callerA)
    (len : ∀ vs H Q E, sp vs H Q E → vs.length = ps.length)
    (hbody : ∀ (A : Around) (outer : List Env) (s : Shared) (H : Hp) (vs : List V) (Q : VK) (E : XK), (A.deeper (envOfC qual (C8.fnScope st) s.heap.objs.size f cd)).guards = some [] → Room k (A.deeper (envOfC qual (C8.fnScope st) s.heap.objs.size f cd)) → sp vs H Q E →
      ∃ t, PSs (cxOf CX P w K mg base N qual (C8.fnScope st) f cd A outer s H E).nox (C8.fnBody st) t ∧ t { nx := fun _ H' => Q .non H', rt := Q } (start N vs) H) : TopOk P w K mg base CX f fd ps sp := by
  obtain ⟨oc, od, dV, kV, doc, pm, an, cdv, ct, osl, rfl, lk, hcd⟩ := F.ex
  have e2 : cdv = cd := hc
  subst e2
  refine ⟨len, fun s H args us vs Q E e0 hb rv hsp => ?_⟩
  have KX := e0.mod.kin.keeps fun b o e => (e0.bs b o e).1
  have names : ∀ y ∈ ps.zip us, (C8.fnScope st).names.lookup y.1 = some .local ∨ ((C8.fnScope st).names.lookup y.1 = some .cell ∧ ((cellsFrom (s.heap.objs.size + 1) (C8.fnScope st).names []).lookup y.1).isSome = true) := fun y hy =>
    (S.par y.1 (List.of_mem_zip hy).1).imp id fun q => ⟨q, PySem.W.cellsFrom_some _ _ _ (.inl q)⟩
  refine codeAny_call_function hr.depth (KX _ _ lk) rfl S.co S.gen rfl (PySem.W.codeRec_of KX hcd) (hb _ _ _ _ (wpAny_newFunctionEnv_cells S.kind names fun env he s1 xc => ?_))
  subst he
  refine ⟨(e0.mod.nolimit.keeps fun b o e => (e0.bs b o e).1).keeps xc.toInCall.keep, codeAny_func ?_⟩
  obtain ⟨t, ht, hq⟩ := hbody callerA [] s H vs Q E rfl (hr.deeper _) hsp
  have I := inv_start (CX := CX) (E := E) S hr.hd e0 (len _ _ _ _ hsp) rv xc
  refine wpAny_mono (ht.nox.run [] s1 (start N vs) H _ I hq) (fun fl s' z => ?_) fun _ _ z => z
  have out : ∀ {σ' : L2.St} {H' : Hp} {v : V} {u : Value}, Inv (cxOf CX P w K mg base N qual (C8.fnScope st) f cdv callerA [] s H E) [] σ' H' s' → RelV v u → Q v H' → CE [] P w H s Q u s' := fun {σ' H' v u} J r q => ⟨v, H', J.os, J.bare, J.base, J.hok, r, q⟩
  rcases fl with _ | _ | _ | u
  · obtain ⟨σ', H', J, q⟩ := z
    exact out (v := V.non) (u := Value.none) J rfl q
  · obtain ⟨_, _, _, q⟩ := z
    exact absurd q id
  · obtain ⟨_, _, _, q⟩ := z
    exact absurd q id
  · obtain ⟨v, σ', H', J, r, q⟩ := z
    exact out J r q
end
section
variable {P : Program} {w : World} {K : PySem.W.Frag} {mg mb : Str → Option Value} {cs : List (Addr × Addr)} {a : Addr} {vs : List Value} {ns : List Int} {s : Shared}
open Classical in
/-- what is followed at the start: the tables, and the script unless it is written in the text -/
noncomputable def topH (K : PySem.W.Frag) (cs : List (Addr × Addr)) (a : Addr) (vs : List Value) (ns : List Int) : Hp := fun b =>
  if b ∈ cs.map (·.2) then some (.tbl #[]) else if b = a ∧ K.lookup a = none then some (.frz { cls := .type "list", data := .seq vs.toArray } (.lst (ns.map V.int))) else none
theorem topH_tab {p : Addr × Addr} (hp : p ∈ cs) : topH K cs a vs ns p.2 = some (.tbl #[]) := if_pos (List.mem_map.mpr ⟨p, hp, rfl⟩)
theorem topH_not {b : Addr} {u : HO} (e : topH K cs a vs ns b = some u) : (b ∈ cs.map (·.2) ∧ u = .tbl #[]) ∨ (b = a ∧ K.lookup a = none ∧ u = .frz { cls := .type "list", data := .seq vs.toArray } (.lst (ns.map V.int))) := by
  unfold topH at e
  split at e
  · exact .inl ⟨by assumption, (Option.some.inj e).symm⟩
  · split at e
    · rename_i h
      exact .inr ⟨h.1, h.2, (Option.some.inj e).symm⟩
    · cases e
theorem top_env (KX : K.In s.heap) (hns : s.heap.Ns mainGlobals mg) (hb : s.heap.Ns builtinsNs mb) (hbb : ∀ x : Str, x ≠ "__name__" → mb x = bootBuiltins x) (hlim : s.heap.NoLimit) (hg : s.gens = #[])
    (hT : ∀ p ∈ cs, s.heap.get? p.2 = some { cls := .none, data := .fields #[] }) (nT : ∀ p ∈ cs, K.lookup p.2 = none) (C : ∀ p ∈ cs, PySem.W.CodeHd s.heap p.1 p.2)
    (hbm : ∃ (bm : Addr) (ob : Obj), mg "__builtins__" = some (.ref bm) ∧ bm ≠ builtinsNs ∧ s.heap.get? bm = some ob ∧ ob.cls = .type "module" ∧ ob.dict = some builtinsNs ∧ ob.data = .plain)
    (ha : s.heap.get? a = some { cls := .type "list", data := .seq vs.toArray }) (hi : IntsAre vs ns) (hl : ns.length ≤ sizeLine) :
    SqL K (topH K cs a vs ns) a (ns.map V.int) ∧ (∀ p ∈ cs, TabB (hidT s.heap (topH K cs a vs ns)) mg p.1 p.2) ∧ Env0 P w K mg (hidT s.heap (topH K cs a vs ns)) callerA [] s (topH K cs a vs ns) := by
  have rv := vals_ints hi
  have tabAt : ∀ {b : Addr}, b ∈ cs.map (·.2) → s.heap.get? b = some { cls := .none, data := .fields #[] } := fun {b} q => by
    obtain ⟨p, hp, e⟩ := List.mem_map.mp q
    exact e ▸ hT p hp
  have aT : a ∉ cs.map (·.2) := fun z => by
    have q := (tabAt z).symm.trans ha
    cases q
  -- an object that is neither a list nor an empty table is not followed
  have free : ∀ {b : Addr} {o : Obj}, s.heap.get? b = some o → (∀ us n, o.data ≠ .seq us n) → o.data ≠ .fields #[] → topH K cs a vs ns b = none := fun {b o} e h1 h2 => by
    cases q : topH K cs a vs ns b with
    | none => rfl
    | some u =>
      rcases topH_not q with ⟨m, _⟩ | ⟨rfl, _, _⟩
      · cases (tabAt m).symm.trans e
        exact absurd rfl h2
      · cases ha.symm.trans e
        exact absurd rfl (h1 _ _)
  have seen : ∀ {b : Addr} {o : Obj}, s.heap.get? b = some o → (∀ us n, o.data ≠ .seq us n) → o.data ≠ .fields #[] → (hidT s.heap (topH K cs a vs ns)).get? b = some o := fun e h1 h2 => hidT_get e (free e h1 h2)
  have nsOk : ∀ {b : Addr} {m : Str → Option Value}, s.heap.Ns b m → (hidT s.heap (topH K cs a vs ns)).Ns b m := fun ⟨o, es, ep, e, d, r⟩ => ⟨o, es, ep, seen e (fun us n z => by rw [d] at z; cases z) (fun z => by rw [d] at z; cases z), d, r⟩
  have kin : K.In (hidT s.heap (topH K cs a vs ns)) := fun b o e => hidT_get (KX b o e) (by
    cases q : topH K cs a vs ns b with
    | none => rfl
    | some u =>
      rcases topH_not q with ⟨m, _⟩ | ⟨rfl, n, _⟩
      · obtain ⟨p, hp, ep⟩ := List.mem_map.mp m
        rw [← ep, nT p hp] at e
        cases e
      · rw [n] at e
        cases e)
  have hok : HOk P w (topH K cs a vs ns) s.heap := fun b u z => by
    rcases topH_not z with ⟨m, rfl⟩ | ⟨rfl, _, rfl⟩
    · exact tabAt m
    · exact ⟨ha, by rw [List.length_map]; exact hl, vs, _, rv, ha⟩
  refine ⟨?_, fun p hp => ?_, ⟨rfl, ⟨kin, nsOk hns, ⟨mb, nsOk hb, hbb⟩, let ⟨mc, h1, h2⟩ := hlim; ⟨mc, nsOk h1, h2⟩⟩, fun b o e => of_hidT e, Nat.le_of_eq (hidT_size _ _), trivial, fun b q => absurd (show b ∈ ([] : List Addr) from q) (by simp), hok, .of_eq hg⟩⟩
  · cases hk : K.lookup a with
    | none => exact .inl (.inr ⟨_, by unfold topH; rw [if_neg aT, if_pos ⟨rfl, hk⟩]⟩)
    | some o =>
      cases (KX a o hk).symm.trans ha
      exact .inr ⟨_, vs.toArray, _, hk, rfl, rfl, rfl, by rw [List.size_toArray, hi.length]; exact hl, by simpa using rv⟩
  · refine ⟨?_, ?_, fun z => ?_⟩
    · obtain ⟨o, us, fi, tf, fl, tg, inF, tx, tt, e1, r1, r2, r3, r⟩ := C p hp
      exact ⟨o, us, fi, tf, fl, tg, inF, tx, tt, seen e1 (fun vs n z => by rw [r2] at z; cases z) (fun z => by rw [r2] at z; cases z; simp at r3), r1, r2, r3, r⟩
    · obtain ⟨bm, ob, b1, b2, b3, b4, b5, b6⟩ := hbm
      refine ⟨bm, ob, b1, b2, fun q => ?_, fun q => ?_, seen b3 (fun vs n z => by rw [b6] at z; cases z) (fun z => by rw [b6] at z; cases z), b4, b5, b6⟩
      · obtain ⟨o, es, ep, e, hd, _⟩ := hns
        rw [← q, b3] at e
        cases e
        rw [b6] at hd
        cases hd
      · rw [q, hT p hp] at b3
        cases b3
        cases b6
    · obtain ⟨o, es, ep, e, hd, _⟩ := hns
      rw [z, hT p hp] at e
      cases e
      cases hd
theorem top_old {H' : Hp} {s' : Shared} (hT : ∀ p ∈ cs, s.heap.get? p.2 = some { cls := .none, data := .fields #[] }) (C : ∀ p ∈ cs, PySem.W.CodeHd s.heap p.1 p.2) (hok : HOk P w (topH K cs a vs ns) s.heap) (un : Un (frs []) [] (topH K cs a vs ns) H' s.heap s'.heap) (hok' : HOk P w H' s'.heap) : OldK s.heap s'.heap := by
  have grown : ∀ b ∈ cs.map (·.2), ∃ p ∈ cs, p.2 = b ∧ ∃ more : Array Value, s'.heap.get? b = some { cls := .none, data := .fields more } := fun b hb => by
    obtain ⟨p, hp, rfl⟩ := List.mem_map.mp hb
    obtain ⟨more, z⟩ := un.tbls p.2 #[] (topH_tab hp)
    exact ⟨p, hp, rfl, _, hok' _ _ z⟩
  have stays : ∀ {b : Addr} {o : Obj}, b ∉ cs.map (·.2) → s.heap.get? b = some o → s'.heap.get? b = some o := fun {b o} nb e => by
    cases q : topH K cs a vs ns b with
    | none => exact un.keep b o e q (fun z => absurd (show b ∈ ([] : List Addr) from z) (by simp)) (by simp)
    | some u =>
      rcases topH_not q with ⟨m, _⟩ | ⟨_, _, rfl⟩
      · exact absurd m nb
      · have e1 := (hok b _ q).1
        rw [e] at e1
        cases e1
        exact (hok' b _ (un.frzs b _ _ q)).1
  refine ⟨fun b o e => ?_, fun b o e => ?_⟩
  · by_cases hb : b ∈ cs.map (·.2)
    · obtain ⟨p, hp, rfl, more, z⟩ := grown b hb
      cases (hT p hp).symm.trans e
      exact .inr (.inl ⟨((C p hp).tab (hT p hp)).isCodeTable, rfl, #[], more, rfl, by rw [Array.empty_append]; exact z⟩)
    · exact .inl (stays hb e)
  · by_cases hb : b ∈ cs.map (·.2)
    · obtain ⟨p, hp, rfl, more, z⟩ := grown b hb
      exact ⟨_, z⟩
    · exact ⟨o, stays hb e⟩
end
/-- what is known of the law's promise to the topmost caller at the head's heap -/
def LawTop (l : PySem.W.OpenLaw) (w : World) (K : PySem.W.Frag) (CX : CXT) (n : Nat) (x : Str) (mg : Str → Option Value) (fa : Addr) (h : Heap) : Prop :=
  ∃ (fd : FuncData) (cs : List (Addr × Addr)) (sp : Sp), (∀ p ∈ cs, h.get? p.2 = some { cls := .none, data := .fields #[] }) ∧ (∀ p ∈ cs, K.lookup p.2 = none) ∧ (∀ p ∈ cs, PySem.W.CodeHd h p.1 p.2) ∧ (∀ (s : Shared) (u : Value), BindsTo s fd ⟨[u], []⟩ [(x, u)]) ∧
    (∀ (H : Hp) (a : Addr) (ns : List Int), ns.length ≤ n → (∀ z ∈ ns, Builtin.Int.intBits z ≤ 1048576) → (∀ p ∈ cs, H p.2 = some (.tbl #[])) → SqL K H a (ns.map V.int) → sp [.ref a] H (fun v _ => v = .bl true) fun _ _ _ => False) ∧
    ∀ base : Heap, K.In base → base.Ns mainGlobals mg → (∀ p ∈ cs, TabB base mg p.1 p.2) → TopOk l.prog w K mg base CX fa fd [x] sp
theorem walk_ofTop {l : PySem.W.OpenLaw} {n : Nat} {q : Program} {loose : List Str} {XP : (Str → Option Value) → Heap → Prop} {YP : World → Heap → Prop} {d : DefRec} {K : Params → PySem.W.Frag} {CX : World → CXT} {x : Str} {ys : List Str}
    (hn : l.most = some n) (hn2 : n ≤ sizeLine) (hdf : d.params.defaults = []) (hrec : ∀ y ∈ ys, ((recsOf q).any fun e => e.name == y) = true) (hY : ∀ (w : World) (h : Heap), YP w h → (K w.params).In h)
    (F : ∀ (w : World) (mg : Str → Option Value) (fa : Addr) (h : Heap), YP w h → (K w.params).In h → h.Ns mainGlobals mg → mg d.name = some (.ref fa) → (∀ y ∈ ys, ∃ c P, TabD mg h y c P) → LawTop l w (K w.params) (CX w) n x mg fa h)
    (hCX : ∀ (w : World) (H : Hp) (s : Shared) (e : Value) (s' : Shared), CX w [] H s (fun _ _ _ => False) e s' → False) :
    PySem.W.WalkO q loose XP YP l.row.toRowW d [] (fun f vs => PySem.call f vs) := by
  refine Att.attach_callB hn hdf fun w s₀ s₁ mg mb fa o pm cd doc a vs ns G Y ho hd hcd hmg hobj hints hlen hbits hg => ?_
  have KX := hY w _ Y
  have tabs : ∀ y ∈ ys, ∃ c P, TabD mg s₁.heap y c P := fun y hy => by
    obtain ⟨dL, hm, hn1⟩ := List.any_eq_true.mp (hrec y hy)
    have hn2 : dL.name = y := beq_iff_eq.mp hn1
    obtain ⟨a', o', fd', c', P', h1, h2, h3, h4, h5, h6⟩ := G.T.tab dL hm
    rw [hn2] at h1
    exact ⟨c', P', a', o', fd', h1, h2, h3, h4, PySem.W.CodeHd.of h5 h6, h6.2⟩
  obtain ⟨fd, cs, sp, hT, nT, C, hb, hsp, hF⟩ := F w mg fa _ Y KX G.T.g hmg tabs
  obtain ⟨hS, TB, e0⟩ := top_env (P := l.prog) (w := w) KX G.T.g G.T.b G.T.builtins G.T.nolimit hg hT nT C G.T.bmain hobj hints (Nat.le_trans hlen hn2)
  refine codeAny_mono ((hF _ e0.mod.kin e0.mod.glob TB).run s₁ _ ⟨[.ref a], []⟩ [.ref a] [.ref a] _ _ e0 (hb s₁ (.ref a)) (.cons rfl .nil) (hsp _ a ns hlen hbits (fun p hp => topH_tab hp) hS)) fun r s' z => ?_
  rcases r with er | (_ | _ | _ | u)
  · exact (hCX w _ s₁ er s' z).elim
  · exact absurd z id
  · exact absurd z id
  · exact absurd z id
  · obtain ⟨v, H', os, bare, un, hok', rv, q⟩ := z
    have q' : v = .bl true := q
    subst q'
    obtain rfl : u = Value.bool true := rv
    exact ⟨rfl, top_old hT C e0.hok un hok', os, bare⟩
end Fk

set_option maxHeartbeats 4000000
/-! repr of tuples, lists and dicts of data, where nothing is being shown. -/
namespace Fk
open PySem PySem.Spec PyProof.Rows L2
def keyD : Key → PyData
  | .inl i => .int i
  | .inr x => .str x
mutual
/-- a value is this datum, dicts too -/
inductive Dq (K : PySem.W.Frag) (H : Hp) : V → PyData → Prop
  | non : Dq K H .non .none
  | bl (b : Bool) : Dq K H (.bl b) (.bool b)
  | int (i : Int) : Dq K H (.int i) (.int i)
  | str (x : Str) : Dq K H (.str x) (.str x)
  | tup {a : Addr} {xs : List V} {ds : List PyData} : SqT K H a xs → DqAll K H xs ds → Dq K H (.ref a) (.tuple ds)
  | lst {a : Addr} {xs : List V} {ds : List PyData} : SqL K H a xs → a ≠ sysModules → DqAll K H xs ds → Dq K H (.ref a) (.list ds)
  | dic {a : Addr} {ks : List (Key × V)} {ds : List PyData} : H a = some (.dK ks) → DqAll K H (ks.map (·.2)) ds → Dq K H (.ref a) (.dict ((ks.map fun p => keyD p.1).zip ds))
inductive DqAll (K : PySem.W.Frag) (H : Hp) : List V → List PyData → Prop
  | nil : DqAll K H [] []
  | cons {v : V} {vs : List V} {d : PyData} {ds : List PyData} : Dq K H v d → DqAll K H vs ds → DqAll K H (v :: vs) (d :: ds)
end
theorem DqAll.length {K : PySem.W.Frag} {H : Hp} : ∀ {vs : List V} {ds : List PyData}, DqAll K H vs ds → vs.length = ds.length
  | [], _, h => by cases h; rfl
  | _ :: _, _, h => by
    cases h with
    | cons _ t => exact congrArg (· + 1) t.length
theorem readsAll_keys {prog : Program} {w : World} {h : Heap} : ∀ {ks : List (Key × V)} {vs : List (Key × Value)} {es : List DictEntry}, KV ks vs → Pairs (mixKind prog w) es vs → ReadsAll h (es.map (·.key)) (ks.map fun p => keyD p.1) [] ∧ es.map (·.val) = vs.map (·.2)
  | _, _, _, .nil, p => by
    cases p
    exact ⟨.nil, rfl⟩
  | _, _, _, .cons h1 t, p => by
    cases p with
    | cons k v r =>
      obtain ⟨i1, i2⟩ := readsAll_keys (h := h) t r
      refine ⟨?_, ?_⟩
      · refine ReadsAll.cons (as := []) (bs := []) ?_ i1
        rcases keyIs_shape (show keyIs _ _ = true from k) with ⟨i, tk, e1, e2⟩ | ⟨x, tk, e1, e2⟩
        · dsimp only
          rw [e2, h1.1, e1]
          exact .int i tk
        · dsimp only
          rw [e2, h1.1, e1]
          exact .str x tk
      · rw [List.map_cons, List.map_cons, i2, v]
section
variable {X : Cx} {pins : List (Addr × Obj)} {σ : L2.St} {H : Hp} {s : Shared}
theorem kv_vals : ∀ {ks : List (Key × V)} {vs : List (Key × Value)}, KV ks vs → Vals (ks.map (·.2)) (vs.map (·.2))
  | _, _, .nil => .nil
  | _, _, .cons h t => .cons h.2 (kv_vals t)
theorem Dq.reads (I : Inv X pins σ H s) {v : V} {d : PyData} (h : Dq X.K H v d) : ∀ u, RelV v u → ∃ as, Reads s.heap u d as ∧ sysModules ∉ as := by
  refine Dq.rec (K := X.K) (H := H) (motive_1 := fun v d _ => ∀ u, RelV v u → ∃ as, Reads s.heap u d as ∧ sysModules ∉ as) (motive_2 := fun vs ds _ => ∀ us, Vals vs us → ∃ as, ReadsAll s.heap us ds as ∧ sysModules ∉ as) ?_ ?_ ?_ ?_ ?_ ?_ ?_ ?_ ?_ h
  · intro u r
    obtain rfl : u = Value.none := r
    exact ⟨[], .none, by simp⟩
  · intro b u r
    obtain rfl : u = Value.bool b := r
    exact ⟨[], .bool b, by simp⟩
  · intro i u r
    obtain ⟨t, rfl⟩ := (show ∃ t, u = Value.int i t from r)
    exact ⟨[], .int i t, by simp⟩
  · intro x u r
    obtain ⟨t, rfl⟩ := (show ∃ t, u = Value.str x t from r)
    exact ⟨[], .str x t, by simp⟩
  · intro a xs ds hq _ ih u r
    obtain rfl : u = Value.ref a := r
    obtain ⟨us, rv, ⟨o, e, c, n, dd⟩, _⟩ := I.tuple hq
    obtain ⟨as, r1, n1⟩ := ih us rv
    exact ⟨as, .tuple e c dd (by simpa using r1), n1⟩
  · intro a xs ds hq ne _ ih u r
    obtain rfl : u = Value.ref a := r
    obtain ⟨us, rv, ⟨o, n, e, c, _, dd⟩, _⟩ := I.list hq
    obtain ⟨as, r1, n1⟩ := ih us rv
    exact ⟨a :: as, .list e c dd (by simpa using r1), fun z => by
      rcases List.mem_cons.mp z with z | z
      · exact ne z.symm
      · exact n1 z⟩
  · intro a ks ds hq hd ih u r
    obtain rfl : u = Value.ref a := r
    obtain ⟨_, ns, vs, kv, o, es, ep, e, x, dd, _, pr, _⟩ := (show ObjOk X.prog X.w H s.heap a (.dK ks) from I.hok a _ hq)
    obtain ⟨rk, ev⟩ := readsAll_keys (h := s.heap) kv pr
    obtain ⟨bs, r1, n1⟩ := ih _ (kv_vals kv)
    have ll : (ks.map fun p => keyD p.1).length = ds.length := by
      rw [← hd.length, List.length_map, List.length_map]
    refine ⟨a :: [] ++ bs, .dict e x.1 dd ?_ ?_, fun z => ?_⟩
    · rw [List.map_fst_zip (Nat.le_of_eq ll)]
      exact rk
    · rw [List.map_snd_zip (Nat.le_of_eq ll.symm), ev]
      exact r1
    · rcases List.mem_append.mp z with z | z
      · rw [List.mem_singleton.mp z] at ns
        simp at ns
      · exact n1 z
  · intro us r
    cases r
    exact ⟨[], .nil, by simp⟩
  · intro v vs d ds _ _ i1 i2 us r
    cases r with
    | cons ra rb =>
      obtain ⟨as, r1, n1⟩ := i1 _ ra
      obtain ⟨bs, r2, n2⟩ := i2 _ rb
      exact ⟨as ++ bs, .cons r1 r2, fun z => (List.mem_append.mp z).elim n1 n2⟩
end
/-- repr of a container -/
def rRep (K : PySem.W.Frag) : List V → Hp → VK → Prop := fun xs H Q => ∃ (a : Addr) (d : PyData), xs = [.ref a] ∧ Dq K H (.ref a) d ∧ d.showable = true ∧ d.depth ≤ 60 ∧ d.shown.length ≤ sizeLine ∧ Q (.str d.shown) H
theorem call_rep {X : Cx} (hg : X.A.guards = some []) (hu : X.A.units + 64 < cLine) : CallR X (.builtin "repr") (rRep X.K) := by
  intro pins s σ H xs us Q I r h
  obtain ⟨a, d, rfl, hd, hs, hdep, hsz, q⟩ := h
  obtain ⟨u, rfl, ru⟩ := vals1 r
  obtain rfl : u = Value.ref a := ru
  obtain ⟨as, r1, n1⟩ := hd.reads I _ rfl
  exact PySem.repr_of_reads' r1 hs (fun _ => n1) hg (by omega) (fun _ _ e => e) (fun h' u tk hk => ⟨.str d.shown, H, I.kept (t' := tk) hk, ⟨u, rfl⟩, q⟩) hsz
end Fk

set_option maxHeartbeats 4000000
namespace Fk
open PySem PySem.Spec PyProof.Rows L2
def top (i : Nat) : Stmt := PySem.Challenge.pw_forkhaul_k41_whole_sums_of_changes.main.body.getD i (.Pass ⟨0, 0, 0, 0⟩)
abbrev s__wall : Stmt := top 0
theorem sc__wall : FnScope ["k"] ["k"] (C8.fnScope s__wall) := C8.fnScope_by (by decide +kernel)

abbrev s_ForkError_init : Stmt := inClass (top 2) 0
theorem sc_ForkError_init : FnScope ["self", "why"] ["self", "why"] (C8.fnScope s_ForkError_init) := C8.fnScope_by (by decide +kernel)

abbrev s_is_id : Stmt := top 8
theorem sc_is_id : FnScope ["thing"] ["thing"] (C8.fnScope s_is_id) := C8.fnScope_by (by decide +kernel)

abbrev s_is_path : Stmt := top 9
theorem sc_is_path : FnScope ["thing", "segments", "segment"] ["thing"] (C8.fnScope s_is_path) := C8.fnScope_by (by decide +kernel)

abbrev s_is_segment : Stmt := top 10
theorem sc_is_segment : FnScope ["thing"] ["thing"] (C8.fnScope s_is_segment) := C8.fnScope_by (by decide +kernel)

abbrev s_ascending : Stmt := top 11
theorem sc_ascending : FnScope ["names", "name"] ["names"] (C8.fnScope s_ascending) := C8.fnScope_by (by decide +kernel)

abbrev s_prefixes : Stmt := top 12
theorem sc_prefixes : FnScope ["path", "segments", "many"] ["path"] (C8.fnScope s_prefixes) := C8.fnScope_by (by decide +kernel)

abbrev s__is_word : Stmt := top 13
theorem sc__is_word : FnScope ["thing", "signs"] ["thing", "signs"] (C8.fnScope s__is_word) := C8.fnScope_by (by decide +kernel)

abbrev s_is_value : Stmt := top 16
theorem sc_is_value : FnScope ["thing", "kinds", "kind", "name"] ["thing", "kinds"] (C8.fnScope s_is_value) := C8.fnScope_by (by decide +kernel)

abbrev s_Change_init : Stmt := inClass (top 18) 0
theorem sc_Change_init : FnScope ["self", "rows", "path"] ["self", "rows"] (C8.fnScope s_Change_init) := C8.fnScope_by (by decide +kernel)

abbrev s_Change_rows : Stmt := inClass (top 18) 1
theorem sc_Change_rows : FnScope ["self"] ["self"] (C8.fnScope s_Change_rows) := C8.fnScope_by (by decide +kernel)

abbrev s_Change_between : Stmt := inClass (top 18) 2
theorem sc_Change_between : FnScope ["cls", "old", "new"] ["cls", "old", "new"] (C8.fnScope s_Change_between) := C8.fnScope_by (by decide +kernel)

abbrev s_Change_plain : Stmt := inClass (top 18) 3
theorem sc_Change_plain : FnScope ["self", "path", "old", "new"] ["self"] (C8.fnScope s_Change_plain) := C8.fnScope_by (by decide +kernel)

abbrev s_Change_on : Stmt := inClass (top 18) 4
theorem sc_Change_on : FnScope ["self", "files"] ["self", "files"] (C8.fnScope s_Change_on) := C8.fnScope_by (by decide +kernel)

abbrev s_Change_is_apart : Stmt := inClass (top 18) 5
theorem sc_Change_is_apart : FnScope ["self", "other"] ["self", "other"] (C8.fnScope s_Change_is_apart) := C8.fnScope_by (by decide +kernel)

abbrev s_Change_add : Stmt := inClass (top 18) 6
theorem sc_Change_add : FnScope ["self", "other", "shared", "path", "joined"] ["self", "other"] (C8.fnScope s_Change_add) := C8.fnScope_by (by decide +kernel)

abbrev s_Change_neg : Stmt := inClass (top 18) 7
theorem sc_Change_neg : FnScope ["self", "path"] ["self"] (C8.fnScope s_Change_neg) := C8.fnScope_by (by decide +kernel)

abbrev s_Change_eq : Stmt := inClass (top 18) 8
theorem sc_Change_eq : FnScope ["self", "other"] ["self", "other"] (C8.fnScope s_Change_eq) := C8.fnScope_by (by decide +kernel)

abbrev s__check_change : Stmt := top 19
theorem sc__check_change : FnScope ["thing"] ["thing"] (C8.fnScope s__check_change) := C8.fnScope_by (by decide +kernel)

abbrev s__is_row : Stmt := top 20
theorem sc__is_row : FnScope ["thing"] ["thing"] (C8.fnScope s__is_row) := C8.fnScope_by (by decide +kernel)

abbrev s__is_value_or_none : Stmt := top 21
theorem sc__is_value_or_none : FnScope ["thing"] ["thing"] (C8.fnScope s__is_value_or_none) := C8.fnScope_by (by decide +kernel)

abbrev s__lie_at_or_below : Stmt := top 22
theorem sc__lie_at_or_below : FnScope ["rows", "others", "path", "place"] ["rows", "others"] (C8.fnScope s__lie_at_or_below) := C8.fnScope_by (by decide +kernel)

abbrev s_l_cell_at : Stmt := top 24
theorem sc_l_cell_at : FnScope ["_law_script", "_law_k"] ["_law_script", "_law_k"] (C8.fnScope s_l_cell_at) := C8.fnScope_by (by decide +kernel)

abbrev s_l_well : Stmt := top 25
theorem sc_l_well : FnScope ["_law_cell"] ["_law_cell"] (C8.fnScope s_l_well) := C8.fnScope_by (by decide +kernel)

abbrev s_l_draw : Stmt := top 26
theorem sc_l_draw : FnScope ["_law_well_here", "_law_size", "_law_found", "_law_seed", "_law_mixed"] ["_law_well_here", "_law_size"] (C8.fnScope s_l_draw) := C8.fnScope_by (by decide +kernel)

abbrev s_l_pick : Stmt := top 27
theorem sc_l_pick : FnScope ["_law_well_here", "_law_some"] ["_law_well_here", "_law_some"] (C8.fnScope s_l_pick) := C8.fnScope_by (by decide +kernel)

abbrev s_l_some_files : Stmt := top 28
theorem sc_l_some_files : FnScope ["_law_well_here", "_law_most", "_law_found", "_law_k", "_law_value_here"] ["_law_well_here", "_law_most"] (C8.fnScope s_l_some_files) := C8.fnScope_by (by decide +kernel)

abbrev s_l_near : Stmt := top 29
theorem sc_l_near : FnScope ["_law_well_here", "_law_files", "_law_found", "_law_k", "_law_more", "_law_path"] ["_law_well_here", "_law_files"] (C8.fnScope s_l_near) := C8.fnScope_by (by decide +kernel)

abbrev s_l_clashes : Stmt := top 30
theorem sc_l_clashes : FnScope ["_law_files", "_law_found", "_law_path", "_law_other", "_law_k"] ["_law_files"] (C8.fnScope s_l_clashes) := C8.fnScope_by (by decide +kernel)

abbrev s_l_value : Stmt := top 31
theorem sc_l_value : FnScope ["_law_well_here"] ["_law_well_here"] (C8.fnScope s_l_value) := C8.fnScope_by (by decide +kernel)

abbrev s_l_rows : Stmt := top 32
theorem sc_l_rows : FnScope ["_law_well_here", "_law_near_here", "_law_found", "_law_k", "_law_path", "_law_old"] ["_law_well_here", "_law_near_here"] (C8.fnScope s_l_rows) := C8.fnScope_by (by decide +kernel)

abbrev s_l_sum : Stmt := top 33
theorem sc_l_sum : FnScope ["_law_one", "_law_other", "_law_found", "_law_path"] ["_law_one", "_law_other"] (C8.fnScope s_l_sum) := C8.fnScope_by (by decide +kernel)

abbrev s_l_added : Stmt := top 34
theorem sc_l_added : FnScope ["_law_one", "_law_other"] ["_law_one", "_law_other"] (C8.fnScope s_l_added) := C8.fnScope_by (by decide +kernel)

abbrev s_l_is : Stmt := top 35
theorem sc_l_is : FnScope ["_law_change", "_law_rows_here", "_law_wanted", "_law_path", "_law_told"] ["_law_change", "_law_rows_here"] (C8.fnScope s_l_is) := C8.fnScope_by (by decide +kernel)

abbrev s_l_refused : Stmt := top 36
theorem sc_l_refused : FnScope ["_law_thing", "_law_found"] ["_law_thing"] (C8.fnScope s_l_refused) := C8.fnScope_by (by decide +kernel)

abbrev s_l_refuses : Stmt := top 37
theorem sc_l_refuses : FnScope ["_law_change", "_law_thing", "_law_way", "_law_found", "_law_good"] ["_law_change", "_law_thing"] (C8.fnScope s_l_refuses) := C8.fnScope_by (by decide +kernel)

abbrev s_l_one_right : Stmt := top 38
theorem sc_l_one_right : FnScope ["_law_change", "_law_rows_here", "_law_back", "_law_path", "_law_plain_rows", "_law_still"] ["_law_change", "_law_rows_here"] (C8.fnScope s_l_one_right) := C8.fnScope_by (by decide +kernel)

abbrev s_law : Stmt := top 39
theorem sc_law : FnScope ["_law_script", "_law_cell", "_law_well_here", "_law_first", "_law_second", "_law_third", "_law_turned", "_law_path", "_law_c", "_law_d", "_law_e", "_law_kept", "_law_change", "_law_rows_here", "_law_one", "_law_last", "_law_some", "_law_odd"] ["_law_script"] (C8.fnScope s_law) := C8.fnScope_by (by decide +kernel)

structure Top (K : PySem.W.Frag) (mg : Str → Option Value) : Prop where
  d_is_id : IsDef K mg "is_id" s_is_id
  d_is_path : IsDef K mg "is_path" s_is_path
  d_is_segment : IsDef K mg "is_segment" s_is_segment
  d_ascending : IsDef K mg "ascending" s_ascending
  d__is_word : IsDef K mg "_is_word" s__is_word
  d_is_value : IsDef K mg "is_value" s_is_value
  d__check_change : IsDef K mg "_check_change" s__check_change
  d__is_row : IsDef K mg "_is_row" s__is_row
  d__is_value_or_none : IsDef K mg "_is_value_or_none" s__is_value_or_none
  d_l_cell_at : IsDef K mg "_law_cell_at" s_l_cell_at
  d_l_well : IsDef K mg "_law_well" s_l_well
  d_l_draw : IsDef K mg "_law_draw" s_l_draw
  d_l_pick : IsDef K mg "_law_pick" s_l_pick
  d_l_value : IsDef K mg "_law_value" s_l_value
  d_l_rows : IsDef K mg "_law_rows" s_l_rows
  d_l_sum : IsDef K mg "_law_sum" s_l_sum
  d_l_added : IsDef K mg "_law_added" s_l_added
  d_l_is : IsDef K mg "_law_is" s_l_is
  d_l_refused : IsDef K mg "_law_refused" s_l_refused
  d_l_refuses : IsDef K mg "_law_refuses" s_l_refuses
  d_l_one_right : IsDef K mg "_law_one_right" s_l_one_right
  d_law : IsDef K mg "law" s_law
  z_ValueError : mg "ValueError" = none
  z_all : mg "all" = none
  z_any : mg "any" = none
  z_dict : mg "dict" = none
  z_int : mg "int" = none
  z_isinstance : mg "isinstance" = none
  z_len : mg "len" = none
  z_list : mg "list" = none
  z_range : mg "range" = none
  z_sorted : mg "sorted" = none
  z_str : mg "str" = none
  z_tuple : mg "tuple" = none
  g_HEX_DIGITS : ∃ u, mg "HEX_DIGITS" = some u ∧ RelV (V.str (Str.ofString "0123456789abcdef")) u
  g_SEGMENT_SIGNS : ∃ u, mg "SEGMENT_SIGNS" = some u ∧ RelV (V.str (Str.ofString "abcdefghijklmnopqrstuvwxyz0123456789._-")) u
  g_LONGEST_WORD : ∃ u, mg "LONGEST_WORD" = some u ∧ RelV (V.int 12) u
section
variable {P : Program} {w : World} {K : PySem.W.Frag} {mg : Str → Option Value} {base : Heap}
def spIsWord : Sp := fun vs H Q _ => ∃ (v : V) (y : Str), vs = [v, .str y] ∧ Thing H v ∧ ∀ H', Same H H' → Q (.bl (evalV (isWordF y) v)) H'
theorem c__is_word (T : Top K mg) : C8.Cal P w K mg base 2 "_is_word" spIsWord [] := by
  refine cal_of T.d__is_word sc__is_word (fun _ _ _ _ _ _ us hl => match us, hl with | [_, _], _ => rfl) (fun vs H Q E h => ?_) (fun f cdv A outer s H vs Q E hr h => ?_)
  · obtain ⟨x, y, rfl, _⟩ := h
    rfl
  · obtain ⟨v, y, rfl, t, q⟩ := h
    refine ⟨_, (pss_one (ps_ret (pe_and (pe_callB call_isi (by rfl) T.z_isinstance (by decide +kernel) (pa_cons (pv 0) (pa_cons (pe_bltn (v := .ty "str") (by rfl) T.z_str (by decide +kernel) rfl) pa_nil))) (pe_and (pe_chain op_le op_le pe_int (pe_callB call_len_str (by rfl) T.z_len (by decide +kernel) (pa_cons (pv 0) pa_nil)) (C8.pe_gc (by rfl) T.g_LONGEST_WORD)) (pe_one (pe_cmpR op_eq (pe_bm PySem.F.plainAttrs_str PySem.F.slot_str_strip PySem.F.type_str_strip mt_stripChars (pv 0) (pa_cons (pv 1) pa_nil)) pe_str (nomark _))))))), ?_⟩
    refine ⟨v, rfl, ?_⟩
    dsimp only [tCons, tC, tNil]
    refine t.isi ?_
    refine ⟨_, rfl, ?_⟩
    rcases t.cases with ⟨x, rfl, hx, ho⟩ | hn
    · refine iteT ⟨.str x, rfl, x, rfl, small_line (by omega), _, _, rfl, rfl, _, rfl, ite2 (fun h1 => ?_) (fun h1 => ?_)⟩
      · have h1 := of_decide_eq_true h1
        refine ⟨_, _, rfl, rfl, _, rfl, ite2 (fun h2 => ?_) (fun h2 => ?_)⟩
        · have h2 := of_decide_eq_true h2
          refine ⟨.str x, rfl, rfl, .str y, rfl, x, y, rfl, rfl, small_line (by omega), rfl, of_ev (q _ (Same.refl _)) (Eq.trans ?_ (strip_none x y).symm)⟩
          unfold isWordF
          rw [decide_eq_true (by omega), decide_eq_true (by omega)]
          rfl
        · have h2 : ¬ x.length ≤ 12 := fun z => h2 (decide_eq_true (by omega))
          refine of_ev (q _ (Same.refl _)) ?_
          unfold isWordF
          rw [decide_eq_false h2, Bool.false_and, Bool.and_false]
      · have h1 : ¬ 1 ≤ x.length := fun z => h1 (decide_eq_true (by omega))
        refine ⟨_, rfl, iteF (of_ev (q _ (Same.refl _)) ?_)⟩
        unfold isWordF
        rw [decide_eq_false h1, Bool.false_and]
    · rw [hn]
      exact iteF (of_ev0 hn (q _ (Same.refl _)))
theorem evalV_split {f : Str → Bool} : evalV f = fun v => match v with | .str x => f x | _ => false := rfl
theorem c_is_segment (T : Top K mg) : C8.Cal P w K mg base 3 "is_segment" (spWord isSegF) [] := by
  refine cal_of T.d_is_segment sc_is_segment (fun _ _ _ _ _ _ us hl => match us, hl with | [_], _ => rfl) (fun vs H Q E h => ?_) (fun f cdv A outer s H vs Q E hr h => ?_)
  · obtain ⟨x, rfl, _⟩ := h
    rfl
  · obtain ⟨v, rfl, t, q⟩ := h
    refine ⟨_, (pss_one (ps_ret (pe_and (C8.pe_c (c__is_word T) hr (by decide) (by rfl) (pa_cons (pv 0) (pa_cons (C8.pe_gc (by rfl) T.g_SEGMENT_SIGNS) pa_nil))) (pe_and (pe_cmpR op_ne (pv 0) pe_str (nomark _)) (pe_one (pe_cmpR op_notin_str pe_str (pv 0) rfl)))))), ?_⟩
    refine ⟨v, rfl, v, SSG, rfl, t, fun H1 s1 => ⟨_, rfl, ?_⟩⟩
    rcases t.cases with ⟨x, rfl, hx, ho⟩ | hn
    · refine ite2 (fun h1 => ?_) (fun h1 => ?_)
      · have h1 : isWordF SSG x = true := h1
        refine ⟨.str x, rfl, rfl, _, rfl, ite2 (fun h2 => ?_) (fun h2 => ?_)⟩
        · refine ⟨.str x, rfl, _, x, rfl, rfl, of_ev (q _ s1) ?_⟩
          have h2 : ¬ x = "." := fun z => by
            rw [z] at h2
            simp at h2
          unfold isSegF
          rw [h1, decide_eq_false h2]
          rfl
        · refine of_ev (q _ s1) ?_
          have h2 : x = "." := Decidable.byContradiction fun z => h2 (by rw [decide_eq_false (fun e => z (V.str.inj e))]; rfl)
          unfold isSegF
          rw [decide_eq_true h2]
          simp
      · have h1 : isWordF SSG x = false := Bool.eq_false_iff.mpr h1
        refine of_ev (q _ s1) ?_
        unfold isSegF
        rw [h1, Bool.false_and]
    · rw [hn]
      exact iteF (of_ev0 hn (q _ s1))
theorem c_is_id (T : Top K mg) : C8.Cal P w K mg base 2 "is_id" (spWord isIdF) [] := by
  refine cal_of T.d_is_id sc_is_id (fun _ _ _ _ _ _ us hl => match us, hl with | [_], _ => rfl) (fun vs H Q E h => ?_) (fun f cdv A outer s H vs Q E hr h => ?_)
  · obtain ⟨x, rfl, _⟩ := h
    rfl
  · obtain ⟨v, rfl, t, q⟩ := h
    refine ⟨_, (pss_one (ps_ret (pe_and (pe_callB call_isi (by rfl) T.z_isinstance (by decide +kernel) (pa_cons (pv 0) (pa_cons (pe_bltn (v := .ty "str") (by rfl) T.z_str (by decide +kernel) rfl) pa_nil))) (pe_and (pe_cmpR op_eq (pe_callB call_len_str (by rfl) T.z_len (by decide +kernel) (pa_cons (pv 0) pa_nil)) pe_int (nomark _)) (pe_one (pe_cmpR op_eq (pe_bm PySem.F.plainAttrs_str PySem.F.slot_str_strip PySem.F.type_str_strip mt_stripChars (pv 0) (pa_cons (C8.pe_gc (by rfl) T.g_HEX_DIGITS) pa_nil)) pe_str (nomark _))))))), ?_⟩
    refine ⟨v, rfl, ?_⟩
    dsimp only [tCons, tC, tNil]
    refine t.isi ?_
    refine ⟨_, rfl, ?_⟩
    rcases t.cases with ⟨x, rfl, hx, ho⟩ | hn
    · refine iteT ⟨.str x, rfl, x, rfl, small_line (by omega), rfl, _, rfl, ite2 (fun h1 => ?_) (fun h1 => ?_)⟩
      · have h1 := V.int.inj (of_decide_eq_true h1)
        refine ⟨.str x, rfl, rfl, x, HEX, rfl, rfl, small_line (by omega), rfl, of_ev (q _ (Same.refl _)) (Eq.trans ?_ (strip_none x HEX).symm)⟩
        unfold isIdF
        rw [decide_eq_true (by omega)]
        rfl
      · have h1 : ¬ x.length = 16 := fun z => h1 (decide_eq_true (by rw [z]; rfl))
        refine of_ev (q _ (Same.refl _)) ?_
        unfold isIdF
        rw [decide_eq_false h1, Bool.false_and]
    · rw [hn]
      exact iteF (of_ev0 hn (q _ (Same.refl _)))
theorem c_is_path (T : Top K mg) : C8.Cal P w K mg base 4 "is_path" (spWord isPathF) [] := by
  refine cal_of T.d_is_path sc_is_path (fun _ _ _ _ _ _ us hl => match us, hl with | [_], _ => rfl) (fun vs H Q E h => ?_) (fun f cdv A outer s H vs Q E hr h => ?_)
  · obtain ⟨x, rfl, _⟩ := h
    rfl
  · obtain ⟨v, rfl, t, q⟩ := h
    refine ⟨_, (pss_cons (ps_if (pt_not (pt_val (pe_callB call_isi (by rfl) T.z_isinstance (by decide +kernel) (pa_cons (pv 0) (pa_cons (pe_bltn (v := .ty "str") (by rfl) T.z_str (by decide +kernel) rfl) pa_nil)))))
      (pss_one (ps_ret pe_bl))
      pss_nil)
      (pss_cons (ps_set (i := 1) sc_is_path.nd rfl (Or.inl rfl) (pe_split (pv 0) pe_str))
      (pss_one (ps_ret (pe_and (pe_cmpR op_le (pe_callB call_len_seq (by rfl) T.z_len (by decide +kernel) (pa_cons (pv 1) pa_nil)) pe_int (nomark _)) (pe_one (pe_callB (cr_all rfl) (by rfl) T.z_all (by decide +kernel) (pa_cons (pe_lc (own := [("segment", 2)]) (g := gName 2) (by rfl) sc_is_path.nd (pi_list (pv 1)) (blkOk_by (own := [("segment", 2)]) (N := ["thing", "segments", "segment"]) (sc := C8.fnScope s_is_path) (by decide +kernel)) (fun _ _ _ _ _ => (pg_name (i := 2) sc_is_path.nd rfl (Or.inl rfl))) (fun _ _ _ _ _ => pts_nil) (fun _ _ _ _ _ => (C8.pe_c (c_is_segment T) hr (by decide) (by rfl) (pa_cons (pv 2) pa_nil)))) pa_nil)))))))), ?_⟩
    refine ⟨v, rfl, ?_⟩
    dsimp only [tCons, tC, tNil]
    refine t.isi ?_
    refine ⟨_, rfl, ?_⟩
    rcases t.cases with ⟨x, rfl, hx, ho⟩ | hn
    · obtain ⟨hl1, hl2⟩ := segs_len x hx
      have ho2 := segs_ok x ho
      refine iteF ⟨.str x, rfl, ⟨x, rfl⟩, x, _, rfl, rfl, rfl, small_line (by omega), fun p hp => ?_⟩
      have sm := same_new (o := .lst ((segs x).map V.str)) hp
      refine ⟨.ref p, rfl, p, (segs x).map V.str, rfl, .inl (.inl (.inl upd_same)), _, _, rfl, rfl, _, rfl, ite2 (fun h1 => ?_) (fun h1 => ?_)⟩
      · have h1 : (segs x).length ≤ 6 := by
          have h1 := of_decide_eq_true h1
          rw [List.length_map] at h1
          omega
        refine ⟨.ref p, rfl, p, rfl, ⟨_, .inl (.inl upd_same)⟩, fun D hD => ?_⟩
        have np : p ≠ D := ne_of_none upd_same hD
        refine lc_pure (i := 2) (us := segs x) (g := V.str) yields_list (fun u => .bl (isSegF u)) (fun _ => true) hD (fun H s => .inl (.inl (s _ _ upd_same))) (fun H u _ hu R r => r H (Same.refl H))
          (fun H u _ hu _ R r => ⟨.str u, rfl, .str u, rfl, .str u (hl2 u hu) (ho2 u hu), fun H' s' => r H' s'⟩) (by omega) (fun H2 s2 h2 => ?_)
        refine ⟨D, (segs x).map isSegF, rfl, .inl (.inl ?_), of_ev (q _ (sm.trans s2)) ?_⟩
        · rw [h2, filt_all, List.map_map]
          rfl
        · unfold isPathF
          rw [decide_eq_true h1, List.all_map]
          rfl
      · have h1 : ¬ (segs x).length ≤ 6 := fun z => h1 (decide_eq_true (by rw [List.length_map]; omega))
        refine of_ev (q _ sm) ?_
        unfold isPathF
        rw [decide_eq_false h1, Bool.false_and]
    · rw [hn]
      exact iteT (of_ev0 hn (q _ (Same.refl _)))
def spAsc : Sp := fun vs H Q _ => ∃ (a : Addr) (t : Tab), vs = [.ref a] ∧ H a = some (.dK (kT t)) ∧ t.length < 64 ∧ ∀ (ys : List Str) (p : Addr) (H' : Hp), ys.Perm (t.map (·.1)) → sortedS ys = true → H p = none → Same H H' → H' p = some (.tup (ys.map V.str)) → Q (.ref p) H'
theorem c_ascending (T : Top K mg) : C8.Cal P w K mg base 1 "ascending" spAsc [] := by
  refine cal_of T.d_ascending sc_ascending (fun _ _ _ _ _ _ us hl => match us, hl with | [_], _ => rfl) (fun vs H Q E h => ?_) (fun f cdv A outer s H vs Q E hr h => ?_)
  · obtain ⟨a, t, rfl, _⟩ := h
    rfl
  · obtain ⟨a, t, rfl, ha, hl, q⟩ := h
    refine ⟨_, (pss_one (ps_ret (pe_callTy call_tuple_of (by rfl) T.z_tuple (by decide +kernel) (pa_cons (pe_callB (cr_sortedS) (by rfl) T.z_sorted (by decide +kernel) (pa_cons (pe_lock (pe_lc (own := [("name", 1)]) (g := gName 1) (by rfl) sc_ascending.nd (pi_keys (pv 0)) (blkOk_by (own := [("name", 1)]) (N := ["names", "name"]) (sc := C8.fnScope s_ascending) (by decide +kernel)) (fun _ _ _ _ _ => (pg_name (i := 1) sc_ascending.nd rfl (Or.inl rfl))) (fun _ _ _ _ _ => pts_nil) (fun _ _ _ _ _ => (pe_callTy SkE.call_str_str (by rfl) T.z_str (by decide +kernel) (pa_cons (pv 1) pa_nil))))) pa_nil)) pa_nil)))), ?_⟩
    refine ⟨a, _, ha, trivial, fun od => ⟨.ref a, rfl, a, od, rfl, .inl ⟨kT t, upd_same, fun D hD => ?_⟩⟩⟩
    have na : D ≠ a := fun z => by
      rw [z, upd_same] at hD
      cases hD
    have Y : Yields (Itk a od (kT t)) ((t.map (·.1)).map V.str) (fun H => H a = some (.frz od (.dK (kT t)))) := by
      rw [← kV_kT]
      exact yields_keys
    refine lc_pure (i := 1) (us := t.map (·.1)) (g := V.str) Y V.str (fun _ => true) hD (fun H s => s _ _ upd_same) (fun H u _ hu R r => r H (Same.refl H))
      (fun H u _ hu _ R r => ⟨_, rfl, u, rfl, r H (Same.refl H)⟩) (by rw [List.length_map]; omega) (fun H2 s2 h2 => ?_)
    rw [filt_all] at h2
    have sm : Same H (upd H2 a (.dK (kT t))) := fun b o e => by
      by_cases hb : b = a
      · rw [hb, upd_same, ← ha, ← hb, e]
      · rw [upd_ne hb]
        exact s2 _ _ (by rw [upd_ne hb]; exact e)
    have hD' : H D = none := by rw [upd_ne na] at hD; exact hD
    refine ⟨s2 _ _ upd_same, D, t.map (·.1), rfl, .inl (.inl ?_), by rw [List.length_map]; exact hl, fun ys p hp hs hn => ?_⟩
    · rw [upd_ne na]
      exact h2
    · refine ⟨p, _, rfl, .inl ⟨.inl (.inl upd_same), fun l hl => ?_⟩⟩
      have np : H p = none := sm.free hn
      have nl : H l = none := (sm.trans (same_new hn)).free hl
      exact q ys l _ hp hs nl ((sm.trans (same_new hn)).trans (same_new hl)) upd_same
end

end Fk

set_option maxHeartbeats 4000000
namespace Fk
open PySem PySem.Spec PyProof.Rows L2
def OTY41 : List String := ["NoneType", "int", "list", "tuple", "dict"]
/-- the class, its error, the kinds of files -/
structure TopC (K : PySem.W.Frag) (mg : Str → Option Value) (C fk cE iF : Addr) : Prop extends Top K mg where
  insC : C8.InsC K C
  mgC : mg "Change" = some (.ref C)
  ini : ∃ f fd, Mk K C f ∧ C8.Fun K "__init__" "Change.__init__" s_Change_init f fd ∧ fd.defaults = .none
  odd : ∀ Ty ∈ OTY41, PySem.W.kitOne K (.type Ty) (.ref C) = some false
  g_FILE_KINDS : ∃ u, mg "FILE_KINDS" = some u ∧ RelV (.ref fk) u
  kF : KTup K fk (FKS.map V.str)
  d_plain : MDef K C "plain" "Change.plain" s_Change_plain
  d_apart : MDef K C "is_apart" "Change.is_apart" s_Change_is_apart
  d_add : MDef K C "__add__" "Change.__add__" s_Change_add
  d_neg : MDef K C "__neg__" "Change.__neg__" s_Change_neg
  d_eq : MDef K C "__eq__" "Change.__eq__" s_Change_eq
  pRows : PDef K C "rows" "Change.rows" s_Change_rows
  nR : NoAttr K C "_rows"
  ne : PySem.W.findIn K (.ref C) "__ne__" = some (some (.builtin "object.__ne__"))
  addF : AddF K C
  addT : ∀ Ty ∈ OTY41, ∃ fo ro, PySem.W.findIn K (.type Ty) "__add__" = some fo ∧ PySem.W.findIn K (.type Ty) "__radd__" = some ro ∧ PySem.W.subIn K (.type Ty) (.ref C) = some false
  notF : ∀ Ty ∈ OTY41, PySem.W.notFirst K C (.type Ty) = true
  notC : PySem.W.notFirst K C (.ref C) = true
  eC : ErrC K mg "BadChange" "why" cE iF
  exC : PySem.W.exmOne K (.ref cE) (.ref cE) = some true
theorem flat_strs (ys : List Str) : (ys.map V.str).all flatV = true := by
  rw [List.all_map]
  exact List.all_eq_true.mpr fun y _ => rfl
section
variable {P : Program} {w : World} {K : PySem.W.Frag} {mg : Str → Option Value} {base : Heap} {C fk cE iF : Addr}
theorem TopC.cl (T : TopC K mg C fk cE iF) : Cls K C := T.insC.cl
theorem TopC.g_Change (T : TopC K mg C fk cE iF) : ∃ u, mg "Change" = some u ∧ RelV (.ref C) u := ⟨_, T.mgC, rfl⟩
theorem isi_tup {H : Hp} {p : Addr} {xs : List V} {Q : VK} (h : TupK K H p xs) (k : Q (.bl true) H) : rIsi K [.ref p, .ty "tuple"] H Q := by
  rcases h with e | ⟨o, its, n, lk, c, _⟩
  · exact ⟨_, _, .type "tuple", .type "tuple", true, rfl, .ty "tuple", .base (.tup e), kit_ty (by decide +kernel), k⟩
  · exact ⟨_, _, .type "tuple", .type "tuple", true, rfl, .ty "tuple", .kTuple lk c, kit_ty (by decide +kernel), k⟩
/-- what is no tuple -/
def NoTup (K : PySem.W.Frag) (H : Hp) (v : V) : Prop := ∃ Ty ∈ (["NoneType", "int", "str", "list", "dict"] : List String), TyX K H v (.type Ty)
theorem noTup_isi {H : Hp} {v : V} (h : NoTup K H v) {R : VK} (r : R (.bl false) H) : rIsi K [v, .ty "tuple"] H R := by
  obtain ⟨Ty, hT, ty⟩ := h
  refine ⟨_, _, .type Ty, .type "tuple", false, rfl, .ty "tuple", ty, ?_, r⟩
  simp only [List.mem_cons, List.not_mem_nil, or_false] at hT
  rcases hT with rfl | rfl | rfl | rfl | rfl <;> exact kit_ty (by decide +kernel)
def spValue (K : PySem.W.Frag) : Sp := fun vs H Q _ => ∃ (v : V) (k : Addr), vs = [v, .ref k] ∧ TupK K H k (FKS.map V.str) ∧ ((∃ (q : Addr) (p : Str × Str), v = .ref q ∧ TupK K H q [.str p.1, .str p.2] ∧ p.1 ∈ FKS ∧ isIdF p.2 = true ∧ ∀ H', Same H H' → Q (.bl true) H') ∨ (NoTup K H v ∧ Q (.bl false) H))
theorem c_is_value (T : Top K mg) : C8.Cal P w K mg base 3 "is_value" (spValue K) [] := by
  refine cal_of T.d_is_value sc_is_value (fun _ _ _ _ _ _ us hl => match us, hl with | [_, _], _ => rfl) (fun vs H Q E h => ?_) (fun f cdv A outer s H vs Q E hr h => ?_)
  · obtain ⟨v, k, rfl, _⟩ := h
    rfl
  · obtain ⟨v, k, rfl, hk, h⟩ := h
    refine ⟨_, (pss_cons (ps_if (PW.pt (pw_or (pt_not (pt_val (pe_callB call_isi (by rfl) T.z_isinstance (by decide +kernel) (pa_cons (pv 0) (pa_cons (pe_bltn (v := .ty "tuple") (by rfl) T.z_tuple (by decide +kernel) rfl) pa_nil))))) (pw_or1 (pt_cmpR op_ne (pe_callB call_len_seq (by rfl) T.z_len (by decide +kernel) (pa_cons (pv 0) pa_nil)) pe_int (nomark _)))))
      (pss_one (ps_ret pe_bl))
      pss_nil)
      (pss_cons (ps_asg (pv 0) (pg_tup rfl (pgs_cons (pg_name (i := 2) sc_is_value.nd rfl (Or.inl rfl)) (pgs_cons (pg_name (i := 3) sc_is_value.nd rfl (Or.inl rfl)) pgs_nil))))
      (pss_one (ps_ret (pe_and (pe_cmpR op_in_seq (pv 2) (pv 1) rfl) (pe_one (C8.pe_c (c_is_id T) hr (by decide) (by rfl) (pa_cons (pv 3) pa_nil)))))))), ?_⟩
    refine ⟨v, rfl, ?_⟩
    dsimp only [tCons, tC, tNil]
    rcases h with ⟨p, pp, rfl, hp, hm, hi, q⟩ | ⟨nt, q⟩
    · refine isi_tup hp ⟨_, rfl, iteF ?_⟩
      refine ⟨.ref p, rfl, p, _, rfl, .inr hp.sq, rfl, _, rfl, iteF ?_⟩
      refine ⟨.ref p, rfl, p, _, rfl, hp.sq, rfl, _, _, rfl, _, _, rfl, rfl, ?_⟩
      refine ⟨.str pp.1, rfl, .ref k, rfl, k, _, rfl, .inr hk.sq, rfl, flat_strs FKS, _, rfl, ifT ?_ ?_⟩
      · unfold inV
        rw [if_neg Bool.false_ne_true, List.any_eq_true]
        exact ⟨.str pp.1, List.mem_map.mpr ⟨pp.1, hm, rfl⟩, by show (pp.1 == pp.1) = true; exact beq_self_eq_true _⟩
      · exact ⟨.str pp.2, rfl, .str pp.2, rfl, .str pp.2 (by have := (ok_idF hi).2; omega) (ok_idF hi).1, fun H' s' => by
          rw [show evalV isIdF (.str pp.2) = true from hi]
          exact q H' s'⟩
    · exact noTup_isi nt ⟨_, rfl, iteT q⟩
/-- what may stand in a row and what may not -/
def spVn (K : PySem.W.Frag) : Sp := fun vs H Q _ => ∃ v : V, vs = [v] ∧ ((∃ f, FvV K H v f ∧ GoodF f ∧ ∀ H', Same H H' → Q (.bl true) H') ∨ (NoTup K H v ∧ v ≠ .non ∧ Q (.bl false) H))
theorem c__is_value_or_none (T : TopC K mg C fk cE iF) : C8.Cal P w K mg base 4 "_is_value_or_none" (spVn K) [] := by
  refine cal_of T.d__is_value_or_none sc__is_value_or_none (fun _ _ _ _ _ _ us hl => match us, hl with | [_], _ => rfl) (fun vs H Q E h => ?_) (fun f cdv A outer s H vs Q E hr h => ?_)
  · obtain ⟨v, rfl, _⟩ := h
    rfl
  · obtain ⟨v, rfl, h⟩ := h
    refine ⟨_, (pss_one (ps_ret (pe_or (pe_cmpR op_isN (pv 0) pe_non (nomark _)) (pe_one (C8.pe_c (c_is_value T.toTop) hr (by decide) (by rfl) (pa_cons (pv 0) (pa_cons (C8.pe_gc (by rfl) T.g_FILE_KINDS) pa_nil))))))), ?_⟩
    refine ⟨v, rfl, rfl, _, rfl, ?_⟩
    rcases h with ⟨g, hv, gg, q⟩ | ⟨nt, nn, q⟩
    · cases g with
      | none =>
        obtain rfl : v = .non := hv
        exact iteT (q _ (Same.refl _))
      | some p =>
        obtain ⟨a, rfl, ha⟩ := hv
        obtain ⟨g1, g2⟩ := gg p rfl
        rw [decide_eq_false (fun z => by cases z)]
        exact iteF ⟨.ref a, rfl, .ref a, fk, rfl, .inr T.kF, .inl ⟨a, p, rfl, ha, g1, g2, q⟩⟩
    · rw [decide_eq_false nn]
      exact iteF ⟨v, rfl, v, fk, rfl, .inr T.kF, .inr ⟨nt, q⟩⟩
/-- what is no row -/
def BadRow (K : PySem.W.Frag) (H : Hp) (v : V) : Prop := NoTup K H v ∨ (∃ q x, v = .ref q ∧ TupK K H q [x]) ∨ ∃ q x y, v = .ref q ∧ TupK K H q [x, y] ∧ NoTup K H x ∧ x ≠ .non
def spRow (K : PySem.W.Frag) : Sp := fun vs H Q _ => ∃ v : V, vs = [v] ∧ ((∃ r, RwV K H v r ∧ GoodR r ∧ ∀ H', Same H H' → Q (.bl true) H') ∨ (BadRow K H v ∧ Q (.bl false) H))
theorem c__is_row (T : TopC K mg C fk cE iF) : C8.Cal P w K mg base 5 "_is_row" (spRow K) [] := by
  refine cal_of T.d__is_row sc__is_row (fun _ _ _ _ _ _ us hl => match us, hl with | [_], _ => rfl) (fun vs H Q E h => ?_) (fun f cdv A outer s H vs Q E hr h => ?_)
  · obtain ⟨v, rfl, _⟩ := h
    rfl
  · obtain ⟨v, rfl, h⟩ := h
    refine ⟨_, (pss_one (ps_ret (pe_and (pe_callB call_isi (by rfl) T.z_isinstance (by decide +kernel) (pa_cons (pv 0) (pa_cons (pe_bltn (v := .ty "tuple") (by rfl) T.z_tuple (by decide +kernel) rfl) pa_nil))) (pe_and (pe_cmpR op_eq (pe_callB call_len_seq (by rfl) T.z_len (by decide +kernel) (pa_cons (pv 0) pa_nil)) pe_int (nomark _)) (pe_and (C8.pe_c (c__is_value_or_none T) hr (by decide) (by rfl) (pa_cons (pe_ix ix_tup (pv 0) pe_int (fun _ _ => rfl)) pa_nil)) (pe_one (C8.pe_c (c__is_value_or_none T) hr (by decide) (by rfl) (pa_cons (pe_ix ix_tup (pv 0) pe_int (fun _ _ => rfl)) pa_nil)))))))), ?_⟩
    refine ⟨v, rfl, ?_⟩
    dsimp only [tCons, tC, tNil]
    rcases h with ⟨r, ⟨a, v1, v2, rfl, ha, h1, h2⟩, ⟨g1, g2⟩, q⟩ | ⟨h, q⟩
    · refine isi_tup ha ⟨_, rfl, iteT ?_⟩
      refine ⟨.ref a, rfl, a, _, rfl, .inr ha.sq, rfl, _, rfl, iteT ?_⟩
      refine ⟨.ref a, rfl, a, _, 0, v1, rfl, rfl, ha.sq, rfl, v1, rfl, .inl ⟨r.1, h1, g1, fun H1 s1 => ⟨_, rfl, iteT ?_⟩⟩⟩
      refine ⟨.ref a, rfl, a, _, 1, v2, rfl, rfl, (ha.keep (TupKeep.of s1)).sq, rfl, v2, rfl, .inl ⟨r.2, h2.keep (TupKeep.of s1), g2, fun H2 s2 => q _ (s1.trans s2)⟩⟩
    · rcases h with nt | ⟨a, x, rfl, ha⟩ | ⟨a, x, y, rfl, ha, nt, nn⟩
      · exact noTup_isi nt ⟨_, rfl, iteF q⟩
      · refine isi_tup ha ⟨_, rfl, iteT ?_⟩
        exact ⟨.ref a, rfl, a, _, rfl, .inr ha.sq, rfl, _, rfl, iteF q⟩
      · refine isi_tup ha ⟨_, rfl, iteT ?_⟩
        refine ⟨.ref a, rfl, a, _, rfl, .inr ha.sq, rfl, _, rfl, iteT ?_⟩
        exact ⟨.ref a, rfl, a, _, 0, x, rfl, rfl, ha.sq, rfl, x, rfl, .inr ⟨nt, nn, _, rfl, iteF q⟩⟩
end

end Fk

set_option maxHeartbeats 4000000
namespace Fk
open PySem PySem.Spec PyProof.Rows L2
theorem fr_sets {a : Addr} {H H1 : Hp} (s : Same H H1) {o : HO} : Fr a H (upd H1 a o) := (Fr.same s).trans Fr.at
section
variable {P : Program} {w : World} {K : PySem.W.Frag} {mg : Str → Option Value} {base : Heap} {C fk cE iF : Addr}
def spChI (K : PySem.W.Frag) (C : Addr) : Sp := fun vs H Q _ => ∃ (a e dx : Addr) (n : Nat) (m : Mp Rw), vs = [.ref a, .ref e] ∧ H a = some (.ins C dx []) ∧ RowsAt K H e n m ∧ n ≤ 60 ∧ ∀ d H', H d = none → Fr a H H' → ChAt K C H' a dx d n m → Q .non H'
theorem k_Change (T : TopC K mg C fk cE iF) : C8.Mak P w K mg base 6 "Change" C (spChI K C) [] := by
  obtain ⟨f, fd, M, F, df⟩ := T.ini
  refine C8.mak0 M T.mgC F (F.binds (ps := ["self", "rows"]) df fun _ _ _ _ _ _ us hl => match us, hl with | [_, _], _ => rfl) .nil sc_Change_init (fun vs H Q E h => ?_) (fun cdv A outer s H vs Q E hr h => ?_)
  · obtain ⟨a, e, dx, n, m, rfl, _⟩ := h
    rfl
  · obtain ⟨a, e, dx, n, m, rfl, ha, ⟨t, he, hH, hO⟩, hn, q⟩ := h
    have nae : a ≠ e := fun z => by rw [z, he] at ha; cases ha
    have hl : t.length ≤ 60 := Nat.le_trans hO.len hn
    refine ⟨_, (pss_cons (ps_if (PW.pt (pw_or (pt_not (pt_val (pe_callB call_isi (by rfl) T.z_isinstance (by decide +kernel) (pa_cons (pv 1) (pa_cons (pe_bltn (v := .ty "dict") (by rfl) T.z_dict (by decide +kernel) rfl) pa_nil))))) (pw_or1 (pt_not (pt_val (pe_callB (cr_all rfl) (by rfl) T.z_all (by decide +kernel) (pa_cons (pe_lock (pe_lc (own := [("path", 2)]) (g := gName 2) (by rfl) sc_Change_init.nd (pi_keys (pv 1)) (blkOk_by (own := [("path", 2)]) (N := ["self", "rows", "path"]) (sc := C8.fnScope s_Change_init) (by decide +kernel)) (fun _ _ _ _ _ => (pg_name (i := 2) sc_Change_init.nd rfl (Or.inl rfl))) (fun _ _ _ _ _ => pts_nil) (fun _ _ _ _ _ => (pe_and (C8.pe_c (c_is_path T.toTop) hr (by decide) (by rfl) (pa_cons (pv 2) pa_nil)) (pe_one (C8.pe_c (c__is_row T) hr (by decide) (by rfl) (pa_cons (pe_dget (hu_of hr) (pv 1) (pv 2) (fun _ _ => rfl)) pa_nil))))))) pa_nil)))))))
      (pss_one ps_never)
      pss_nil)
      (pss_one (ps_fld (pv 0) (pe_dc (own := [("path", 2)]) (g := gName 2) (by rfl) sc_Change_init.nd (pi_tup (C8.pe_c (c_ascending T.toTop) hr (by decide) (by rfl) (pa_cons (pv 1) pa_nil))) (blkOk_by (own := [("path", 2)]) (N := ["self", "rows", "path"]) (sc := C8.fnScope s_Change_init) (by decide +kernel)) (fun _ _ _ _ _ => (pg_name (i := 2) sc_Change_init.nd rfl (Or.inl rfl))) (fun _ _ _ _ _ => pts_nil) (fun _ _ _ _ _ => (pv 2)) (fun _ _ _ _ _ => (pe_dget (hu_of hr) (pv 1) (pv 2) (fun _ _ => rfl)))) rfl))), ?_⟩
    refine ⟨.ref e, rfl, ?_⟩
    dsimp only [tCons, tC, tNil]
    refine ⟨_, _, .type "dict", .type "dict", true, rfl, .ty "dict", .base (.dK he), kit_ty (by decide +kernel), _, rfl, iteF ?_⟩
    refine ⟨e, _, he, trivial, fun od => ⟨.ref e, rfl, e, od, rfl, .inl ⟨kT t, upd_same, fun D hD => ?_⟩⟩⟩
    have Y : Yields (Itk e od (kT t)) ((t.map (·.1)).map V.str) (fun H => H e = some (.frz od (.dK (kT t)))) := by
      rw [← kV_kT]
      exact yields_keys
    have nDe : D ≠ e := lock_ne hD
    have fD : H D = none := lock_free hD
    have k0 : TupKeep H (upd H e (.frz od (.dK (kT t)))) := TupKeep.at fun xs z => by rw [he] at z; cases z
    refine lc_pure (i := 2) (us := t.map (·.1)) (g := V.str) Y (fun _ => .bl true) (fun _ => true) hD (fun H s => s _ _ upd_same) (fun H u _ hu R r => r H (Same.refl H))
      (fun H1 u s1 hu _ R r => ?_) (by rw [List.length_map]; omega) (fun H2 s2 h2 => ?_)
    · obtain ⟨p1, p2, p3⟩ := hO.path u hu
      refine ⟨.str u, rfl, .str u, rfl, .str u (by omega) p3, fun H3 s3 => ⟨_, rfl, ?_⟩⟩
      rw [show evalV isPathF (.str u) = true from p1]
      refine iteT ?_
      have z := hH.mem.mp hu
      cases y : m u with
      | none => rw [y] at z; cases z
      | some r0 =>
        obtain ⟨v, hv, rv⟩ := hH.at y
        have g1 := dget_kT (.inr ⟨od, s3 _ _ (s1 _ _ upd_same)⟩) u
        rw [hv] at g1
        exact ⟨.ref e, rfl, .str u, rfl, e, _, rfl, g1, v, rfl, .inl ⟨r0, (rv.keep k0).keep (TupKeep.of (s1.trans s3)), hO.good u r0 y, fun H4 s4 => r H4 (s3.trans s4)⟩⟩
    · rw [filt_all] at h2
      refine ⟨s2 _ _ upd_same, D, (t.map (·.1)).map fun _ => true, rfl, .inl (.inl ?_), ?_⟩
      · rw [upd_ne nDe, h2, List.map_map, List.map_map, List.map_map]
        rfl
      have hall : ((t.map (·.1)).map fun _ => true).all id = true := List.all_eq_true.mpr fun x hx => by
        obtain ⟨_, _, rfl⟩ := List.mem_map.mp hx
        rfl
      rw [hall]
      refine ⟨_, rfl, iteF ?_⟩
      have s02 : Same H (upd H2 e (.dK (kT t))) := same_unlock s2 he
      generalize upd H2 e (.dK (kT t)) = H3 at s02
      refine ⟨.ref e, rfl, e, t, rfl, s02 _ _ he, by omega, fun ys p H4 hp hs hpn s4 h4 => ?_⟩
      have s04 := s02.trans s4
      have hy : ∀ y ∈ ys, y ∈ t.map (·.1) := fun y hy => hp.mem_iff.mp hy
      refine ⟨p, rfl, ⟨_, SqT.of h4⟩, fun D2 hD2 => ?_⟩
      refine dc_tab (us := ys) (val := V.str) yields_tup (fun y => y) (fun y => (valV t y).getD .non) (fun _ => true) (fun y => [some (.ref a), some (.ref e), some (.str y)]) hD2 (fun H s => SqT.of (s _ _ h4)) (fun _ _ => rfl)
        (fun H u _ _ R k => k) (fun H u _ _ R k => k H (Same.refl H)) (fun H u _ _ _ R k => ⟨_, rfl, k H (Same.refl H)⟩) (fun H5 u s5 hu _ R k => ?_) (by have := hp.length_eq; rw [List.length_map] at this; omega) (by rw [filt_all, List.map_id']; exact hp.nodup_iff.mpr hO.nd) (fun H5 s5 h5 => ?_)
      · have z := mem_val.mp (hy u hu)
        cases hv : valV t u with
        | none => rw [hv] at z; cases z
        | some v =>
          have g1 := dget_kT (.inl (s5 _ _ (s04 _ _ he))) u
          rw [hv] at g1
          rw [hv] at k
          exact ⟨.ref e, rfl, .str u, rfl, e, _, rfl, g1, k H5 (Same.refl H5)⟩
      · have s05 := s04.trans s5
        have fD2 : H D2 = none := s04.free hD2
        have nDa : D2 ≠ a := ne_of_none' fD2 ha
        refine ⟨.ref a, rfl, a, C, dx, _, rfl, s05 _ _ ha, T.cl, T.nR, (by decide), ?_⟩
        refine q D2 _ fD2 (fr_sets s05) ⟨upd_same, ys.map fun y => (y, (valV t y).getD .non), ?_, ?_, ?_, ?_⟩
        · rw [upd_ne nDa, h5, filt_all]
        · refine (hH.perm hp).imp fun v r rv => rv.keep fun b xs z => fr_sets s05 _ _ (fun y => by rw [y, ha] at z; cases z) z
        · have ek : (ys.map fun y => (y, (valV t y).getD V.non)).map (·.1) = ys := by
            rw [List.map_map]
            exact List.map_id' ys
          refine ⟨nd_by (hp.nodup_iff.mpr hO.nd) _, ?_, fun x hx => ?_, hO.good⟩
          · have := hp.length_eq
            rw [List.length_map] at this ⊢
            rw [this]
            exact hO.len
          · rw [ek] at hx
            exact hO.path x (hy x hx)
        · rw [List.map_map]
          rw [show ((fun p : Str × V => p.1) ∘ fun y => (y, (valV t y).getD V.non)) = id from rfl, List.map_id]
          exact hs
end

end Fk

set_option maxHeartbeats 4000000
namespace Fk
open PySem PySem.Spec PyProof.Rows L2
/-- an error with its text, made in a heap that goes on from H -/
def Bad (c : Addr) (H : Hp) (E : XK) : Prop := ∀ (dd : Addr) (y : V) (H' : Hp), Same H H' → H' dd = some (.xd [("why", y)]) → E (.ref c) (some dd) H'
theorem Bad.same {c : Addr} {H H1 : Hp} {E : XK} (b : Bad c H E) (s : Same H H1) : Bad c H1 E := fun dd y H' s' h => b dd y H' (s.trans s') h
theorem made_same {x dx : Addr} {H H2 : Hp} {o u : HO} (hx : H x = none) (hdx : H dx = none) (f : Fr x (upd (upd H dx o) x u) H2) : Same H H2 := fun b q z => by
  have n1 := ne_of_none z hx
  exact f b q n1 (by rw [upd_ne n1, upd_ne (ne_of_none z hdx)]; exact z)
/-- a table is read, also while it is locked -/
theorem dget_two {H H1 : Hp} {d e : Addr} {od : Obj} {t u : Tab} (hd : H d = some (.dK (kT t))) (he : H e = some (.dK (kT u))) (s : Same (upd H d (.frz od (.dK (kT t)))) H1) (x : Str) : DGet H1 e (.str x) (valV u x) := by
  by_cases z : e = d
  · subst z
    rw [hd] at he
    have e1 : kT t = kT u := by injection he with he; injection he
    refine dget_kT (.inr ⟨od, ?_⟩) x
    rw [← e1]
    exact s _ _ upd_same
  · exact dget_kT (.inl (s _ _ (by rw [upd_ne z]; exact he))) x
def fitsM (m m' : Mp Rw) : Prop := ∀ x r r', m x = some r → m' x = some r' → r.2 = r'.1
def sumM (m m' : Mp Rw) : Mp Rw := fun x => match m x, m' x with
  | some r, some r' => some (r.1, r'.2)
  | some r, none => some r
  | none, o => o
section
variable {P : Program} {w : World} {K : PySem.W.Frag} {mg : Str → Option Value} {base : Heap} {C fk cE iF : Addr}
/-- what is no change -/
def NotCh (K : PySem.W.Frag) (H : Hp) (v : V) : Prop := ∃ Ty ∈ OTY41, TyX K H v (.type Ty)
theorem TopC.isC (T : TopC K mg C fk cE iF) {H : Hp} {a dx : Addr} {fs : List (Str × V)} {Q : VK} (h : H a = some (.ins C dx fs)) (k : Q (.bl true) H) : rIsi K [.ref a, .ref C] H Q :=
  ⟨_, _, .ref C, .ref C, _, rfl, .own _, .base (.ins h T.insC.cl T.insC.ha T.insC.hn T.insC.htk T.insC.hm), T.insC.me, k⟩
theorem TopC.isN (T : TopC K mg C fk cE iF) {H : Hp} {v : V} {Q : VK} (h : NotCh K H v) (k : Q (.bl false) H) : rIsi K [v, .ref C] H Q := by
  obtain ⟨Ty, hT, ty⟩ := h
  exact ⟨_, _, .type Ty, .ref C, false, rfl, .own _, ty, T.odd Ty hT, k⟩
def spChk (K : PySem.W.Frag) (C cE : Addr) : Sp := fun vs H Q E => ∃ v : V, vs = [v] ∧ ((∃ a dx fs, v = .ref a ∧ H a = some (.ins C dx fs) ∧ Q .non H) ∨ (NotCh K H v ∧ Bad cE H E))
theorem calX_of {x : Str} {st : Stmt} {N ps : List Str} {k : Nat} {sp : Sp} (D : IsDef K mg x st) (S : FnScope N ps (C8.fnScope st))
    (hb : ∀ (kV doc pm : Value) (an : Option Addr) (cdv ct : Value) (us : List Value), us.length = ps.length → bindArgs (PySem.W.fnOf x x (C8.fnArgs st) (C8.fnBody st) (C8.fnScope st) .none kV doc pm an cdv ct) ⟨us, []⟩ = pure (ps.zip us))
    (len : ∀ vs H Q E, sp vs H Q E → vs.length = ps.length)
    (hbody : ∀ (f : Addr) (cdv : Value) (A : Around) (outer : List Env) (s : Shared) (H : Hp) (vs : List V) (Q : VK) (E : XK), Room k (A.deeper (envOfC x (C8.fnScope st) s.heap.objs.size f cdv)) → sp vs H Q E →
      ∃ t, PSs (cxOf (L2.CX P w) P w K mg base N x (C8.fnScope st) f cdv A outer s H E) (C8.fnBody st) t ∧ t { nx := fun _ H' => Q .non H', rt := Q } (start N vs) H) : CalX P w K mg base (L2.CX P w) (k + 1) x sp [] := by
  obtain ⟨f, fd, D, df⟩ := D
  obtain ⟨oc, od, dV, kV, doc, pm, an, cdv, ct, osl, rfl, lk, hcd⟩ := D.fn.ex
  exact ⟨f, _, ps, [], fn_of lk hcd S len fun A outer s H vs Q E hr hsp => hbody f cdv A outer s H vs Q E hr hsp, D.mgf, D.kp, D.fn.binds df hb, .nil⟩
theorem cx__check_change (T : TopC K mg C fk cE iF) : CalX P w K mg base (L2.CX P w) 3 "_check_change" (spChk K C cE) [] := by
  refine calX_of T.d__check_change sc__check_change (fun _ _ _ _ _ _ us hl => match us, hl with | [_], _ => rfl) (fun vs H Q E h => ?_) (fun f cdv A outer s H vs Q E hr h => ?_)
  · obtain ⟨v, rfl, _⟩ := h
    rfl
  · obtain ⟨v, rfl, h⟩ := h
    refine ⟨_, (pss_one (ps_if (pt_not (pt_val (pe_callB call_isi (by rfl) T.z_isinstance (by decide +kernel) (pa_cons (pv 0) (pa_cons (C8.pe_gc (by rfl) T.g_Change) pa_nil)))))
      (pss_one (ps_raise rfl (takes_of rfl rfl rfl rfl) (rs_of T.eC (hr.mono (by decide)) (by rfl) (pa_cons pe_str pa_nil))))
      pss_nil)), ?_⟩
    refine ⟨v, rfl, ?_⟩
    dsimp only [tCons, tC, tNil]
    rcases h with ⟨a, dx, fs, rfl, ha, q⟩ | ⟨nt, q⟩
    · exact T.isC ha ⟨_, rfl, iteF q⟩
    · exact T.isN nt ⟨_, rfl, iteT ⟨(by show 1 ≤ 1000; decide), do_raise T.eC fun dd H3 s3 _ h3 => q dd _ H3 s3 h3⟩⟩
/-- a change's rows, told: a new dict, in order -/
def spRowsP (K : PySem.W.Frag) (C : Addr) : Sp := fun vs H Q _ => ∃ (a dx d : Addr) (n : Nat) (m : Mp Rw), vs = [.ref a] ∧ ChAt K C H a dx d n m ∧ ∀ p H' t, H p = none → Same H H' → H' p = some (.dK (kT t)) → Holds (RwV K H') t m → RowsOk n t m → sortedS (t.map (·.1)) = true → Q (.ref p) H'
theorem p_Change_rows (T : TopC K mg C fk cE iF) : Prp P w K mg base 1 C "rows" (spRowsP K C) := by
  refine prp_of T.cl T.pRows sc_Change_rows (fun _ _ _ _ _ _ us hl => match us, hl with | [_], _ => rfl) (fun vs H Q E h => ?_) (fun f cdv A outer s H vs Q E hr h => ?_)
  · obtain ⟨a, dx, d, n, m, rfl, _⟩ := h
    rfl
  · obtain ⟨a, dx, d, n, m, rfl, ⟨ha, t, hd, hH, hO, hs⟩, q⟩ := h
    refine ⟨_, (pss_one (ps_ret (pe_callTy call_dictD (by rfl) T.z_dict (by decide +kernel) (pa_cons (pe_fld (pv 0) rfl) pa_nil)))), ?_⟩
    refine ⟨.ref a, rfl, a, C, dx, _, _, rfl, ha, T.cl, T.nR, rfl, d, kT t, rfl, .inl hd, fun p np => ?_⟩
    have sm := same_new (o := .dK (kT t)) np
    exact q p _ t np sm upd_same (hH.imp fun _ _ x => x.keep (TupKeep.of sm)) hO hs
end

end Fk

set_option maxHeartbeats 4000000
namespace Fk
open PySem PySem.Spec PyProof.Rows L2
section
variable {P : Program} {w : World} {K : PySem.W.Frag} {mg : Str → Option Value} {base : Heap} {C fk cE iF : Addr}
def spAdd (K : PySem.W.Frag) (C cE : Addr) : Sp := fun vs H Q E => ∃ (a dx d : Addr) (n : Nat) (m : Mp Rw) (y : V), vs = [.ref a, y] ∧ ChAt K C H a dx d n m ∧
  ((∃ (b dx' d' : Addr) (n' : Nat) (m' : Mp Rw), y = .ref b ∧ ChAt K C H b dx' d' n' m' ∧ n + n' + n ≤ 60 ∧ ((fitsM m m' ∧ ∀ c dx3 d3 H', H c = none → H d3 = none → Same H H' → ChAt K C H' c dx3 d3 (n + n' + n) (sumM m m') → Q (.ref c) H') ∨ (¬ fitsM m m' ∧ Bad cE H E))) ∨ (NotCh K H y ∧ Bad cE H E))
theorem mx_Change_add (T : TopC K mg C fk cE iF) : MetX P w K mg base (L2.CX P w) 8 C "__add__" (spAdd K C cE) [] := by
  refine metX_of T.cl T.d_add sc_Change_add (fun _ _ _ _ _ _ us hl => match us, hl with | [_, _], _ => rfl) (fun vs H Q E h => ?_) (fun f cdv A outer s H vs Q E hr h => ?_)
  · obtain ⟨a, dx, d, n, m, y, rfl, _⟩ := h
    rfl
  · obtain ⟨a, dx, d, n, m, y, rfl, ⟨ha, t, hd, hH, hO, hs⟩, h⟩ := h
    refine ⟨_, (pss_cons (ps_expr (pe_cx (cx__check_change T) hr (by decide) (fun _ => passAt (takes_of rfl rfl rfl rfl) _) (by rfl) (pa_cons (pv 1) pa_nil)))
      (pss_cons (ps_lock (ps_setLc (i := 2) (own := [("path", 3)]) (g := gName 3) (by rfl) sc_Change_add.nd rfl rfl (sw_true rfl rfl rfl (by decide +kernel)) (pi_keys (pe_fld (pv 0) rfl)) (blkOk_by (own := [("path", 3)]) (N := ["self", "other", "shared", "path", "joined"]) (sc := C8.fnScope s_Change_add) (by decide +kernel)) (fun _ _ _ _ _ => (pg_name (i := 3) sc_Change_add.nd rfl (Or.inl rfl))) (fun _ _ _ _ _ => pts_one (pt_cmp (pc_din (hu_of hr) (pv 3) (pe_fldK (K := K) rfl (pv 1) rfl)))) (fun _ _ _ _ _ => (pv 3))))
      (pss_cons (ps_if (pt_not (pt_val (pe_callB (cr_all rfl) (by rfl) T.z_all (by decide +kernel) (pa_cons (pe_lc (own := [("path", 3)]) (g := gName 3) (by rfl) sc_Change_add.nd (pi_list (pv 2)) (blkOk_by (own := [("path", 3)]) (N := ["self", "other", "shared", "path", "joined"]) (sc := C8.fnScope s_Change_add) (by decide +kernel)) (fun _ _ _ _ _ => (pg_name (i := 3) sc_Change_add.nd rfl (Or.inl rfl))) (fun _ _ _ _ _ => pts_nil) (fun _ _ _ _ _ => (pe_cmpR (op_eqFv (K := K) rfl hr.units) (pe_ix (ixK_tup (K := K) rfl) (pe_dget (hu_of hr) (pe_fldK (K := K) rfl (pv 0) rfl) (pv 3) (fun _ _ => rfl)) pe_int (fun _ _ => rfl)) (pe_ix (ixK_tup (K := K) rfl) (pe_dget (hu_of hr) (pe_fldK (K := K) rfl (pv 1) rfl) (pv 3) (fun _ _ => rfl)) pe_int (fun _ _ => rfl)) (nomark _)))) pa_nil))))
      (pss_one (ps_raise rfl (takes_of rfl rfl rfl rfl) (rs_of T.eC (hr.mono (by decide)) (by rfl) (pa_cons pe_str pa_nil))))
      pss_nil)
      (pss_cons (ps_setDc (i := 4) (own := [("path", 3)]) (g := gName 3) (by rfl) sc_Change_add.nd rfl rfl (sw_trueD rfl rfl rfl (by decide +kernel)) (pi_list (pv 2)) (blkOk_by (own := [("path", 3)]) (N := ["self", "other", "shared", "path", "joined"]) (sc := C8.fnScope s_Change_add) (by decide +kernel)) (fun _ _ _ _ _ => (pg_name (i := 3) sc_Change_add.nd rfl (Or.inl rfl))) (fun _ _ _ _ _ => pts_nil) (fun _ _ _ _ _ => (pv 3)) (fun _ _ _ _ _ => (pe_tup (pa_cons (pe_ix (ixK_tup (K := K) rfl) (pe_dget (hu_of hr) (pe_fldK (K := K) rfl (pv 0) rfl) (pv 3) (fun _ _ => rfl)) pe_int (fun _ _ => rfl)) (pa_cons (pe_ix (ixK_tup (K := K) rfl) (pe_dget (hu_of hr) (pe_fldK (K := K) rfl (pv 1) rfl) (pv 3) (fun _ _ => rfl)) pe_int (fun _ _ => rfl)) pa_nil)))))
      (pss_one (ps_ret (C8.pe_mk (k_Change T) hr (by decide) (by rfl) (pa_cons (pe_stars (.cons (pe_fld (pv 0) rfl) (.cons (pe_fld (pv 1) rfl) (.cons (pv 4) .nil))) (by decide) rfl) pa_nil)))))))), ?_⟩
    refine ⟨y, rfl, y, rfl, ?_⟩
    rcases h with ⟨b, dx', d', n', m', rfl, ⟨hb, u, hd', kH, kO, ks⟩, hn, h⟩ | ⟨nc, q⟩
    case inr => exact .inr ⟨nc, q⟩
    refine .inl ⟨b, dx', _, rfl, hb, ?_⟩
    refine ⟨d, _, hd, trivial, fun od => ⟨.ref a, rfl, a, C, dx, _, _, rfl, (by rw [upd_ne (fun z => by rw [z, hd] at ha; cases ha)]; exact ha), T.cl, T.nR, rfl, d, od, rfl, .inl ⟨kT t, upd_same, fun D hD => ?_⟩⟩⟩
    have Y : Yields (Itk d od (kT t)) ((t.map (·.1)).map V.str) (fun H => H d = some (.frz od (.dK (kT t)))) := by
      rw [← kV_kT]
      exact yields_keys
    have nDd : D ≠ d := lock_ne hD
    have fD : H D = none := lock_free hD
    have nbd : b ≠ d := fun z => by rw [z, hd] at hb; cases hb
    have lt : t.length ≤ n := hO.len
    have lu : u.length ≤ n' := kO.len
    refine lc_pure (i := 3) (us := t.map (·.1)) (g := V.str) Y V.str (fun x => (valV u x).isSome) hD (fun H s => s _ _ upd_same) (fun H1 x s1 hx R r => ?_)
      (fun H1 x s1 hx _ R r => ⟨_, rfl, r H1 (Same.refl H1)⟩) (by rw [List.length_map]; omega) (fun H2 s2 h2 => ?_)
    · exact ⟨.str x, rfl, .ref b, rfl, b, C, dx', _, _, rfl, s1 _ _ (by rw [upd_ne nbd]; exact hb), T.cl, T.nR, rfl, d', _, rfl, dget_two hd hd' s1 x, _, rfl, r H1 (Same.refl H1)⟩
    · refine ⟨s2 _ _ upd_same, ?_⟩
      have s02 : Same H (upd H2 d (.dK (kT t))) := same_unlock s2 hd
      have hL : (upd H2 d (.dK (kT t))) D = some (.lst (((t.map (·.1)).filter fun x => (valV u x).isSome).map V.str)) := by rw [upd_ne nDd]; exact h2
      generalize upd H2 d (.dK (kT t)) = H3 at s02 hL
      generalize hsh : ((t.map (·.1)).filter fun x => (valV u x).isSome) = sh at hL
      have msh : ∀ x, x ∈ sh ↔ (m x).isSome = true ∧ (m' x).isSome = true := fun x => by rw [← hsh, List.mem_filter, hH.mem, kH.isSome]
      have lsh : sh.length ≤ n := by
        have := List.length_filter_le (fun x => (valV u x).isSome) (t.map (·.1))
        rw [hsh, List.length_map] at this
        omega
      have ndsh : sh.Nodup := by rw [← hsh]; exact hO.nd.filter _
      refine ⟨.ref D, rfl, D, rfl, ⟨_, SqL.of hL⟩, fun D2 hD2 => ?_⟩
      have row : ∀ {H4 : Hp}, Same H H4 → ∀ x ∈ sh, ∃ q1 q2 v1 v2 w1 w2 r r', m x = some r ∧ m' x = some r' ∧ valV t x = some (.ref q1) ∧ valV u x = some (.ref q2) ∧ TupK K H4 q1 [v1, v2] ∧ TupK K H4 q2 [w1, w2] ∧ FvV K H4 v1 r.1 ∧ FvV K H4 v2 r.2 ∧ FvV K H4 w1 r'.1 ∧ FvV K H4 w2 r'.2 := fun {H4} s4 x hx => by
        obtain ⟨h1, h2⟩ := (msh x).mp hx
        cases e1 : m x with
        | none => rw [e1] at h1; cases h1
        | some r =>
          cases e2 : m' x with
          | none => rw [e2] at h2; cases h2
          | some r' =>
            obtain ⟨v, hv, q1, v1, v2, rfl, t1, f1, f2⟩ := hH.at e1
            obtain ⟨w, hw, q2, w1, w2, rfl, t2, g1, g2⟩ := kH.at e2
            have k4 := TupKeep.of s4
            exact ⟨q1, q2, v1, v2, w1, w2, r, r', rfl, rfl, hv, hw, t1.keep k4, t2.keep k4, f1.keep k4, f2.keep k4, g1.keep k4, g2.keep k4⟩
      refine lc_pure (i := 3) (us := sh) (g := V.str) yields_list (fun x => .bl (decide ((m x).map (·.2) = (m' x).map (·.1)))) (fun _ => true) hD2 (fun H s => SqL.of (s _ _ hL)) (fun H4 x s4 hx R r => r H4 (Same.refl H4))
        (fun H4 x s4 hx _ R k => ?_) (by omega) (fun H4 s4 h4 => ?_)
      · obtain ⟨q1, q2, v1, v2, w1, w2, r, r', e1, e2, hv, hw, t1, t2, f1, f2, g1, g2⟩ := row (s02.trans s4) x hx
        have d1 := dget_kT (.inl (s4 _ _ (s02 _ _ hd))) x
        have d2 := dget_kT (.inl (s4 _ _ (s02 _ _ hd'))) x
        rw [hv] at d1
        rw [hw] at d2
        refine ⟨.ref a, rfl, a, C, dx, _, _, rfl, s4 _ _ (s02 _ _ ha), T.cl, T.nR, rfl, .str x, rfl, d, _, rfl, d1, q1, _, 1, v2, rfl, rfl, t1.sq, rfl, ?_⟩
        refine ⟨.ref b, rfl, b, C, dx', _, _, rfl, s4 _ _ (s02 _ _ hb), T.cl, T.nR, rfl, .str x, rfl, d', _, rfl, d2, q2, _, 0, w1, rfl, rfl, t2.sq, rfl, ?_⟩
        rw [e1, e2] at k
        refine ⟨r.2, r'.1, f2, g1, (hO.good x r e1).2, (kO.good x r' e2).1, ?_⟩
        have e3 : decide (Option.map (fun x : Rw => x.2) (some r) = Option.map (fun x : Rw => x.1) (some r')) = decide (r.2 = r'.1) := decide_eq_decide.mpr ⟨fun z => Option.some.inj z, fun z => congrArg some z⟩
        rw [← e3]
        exact k H4 (Same.refl H4)
      · rw [filt_all] at h4
        have s04 := s02.trans s4
        refine ⟨D2, sh.map fun x => decide ((m x).map (·.2) = (m' x).map (·.1)), rfl, .inl (.inl (by rw [h4, List.map_map]; rfl)), ?_⟩
        have hall : ((sh.map fun x => decide ((m x).map (·.2) = (m' x).map (·.1))).all id = true) ↔ fitsM m m' := by
          rw [List.all_map, List.all_eq_true]
          constructor
          · intro hh x r r' e1 e2
            have := hh x ((msh x).mpr (by rw [e1, e2]; exact ⟨rfl, rfl⟩))
            have := of_decide_eq_true this
            rw [e1, e2] at this
            exact Option.some.inj this
          · intro hh x hx
            obtain ⟨h1, h2⟩ := (msh x).mp hx
            cases e1 : m x with
            | none => rw [e1] at h1; cases h1
            | some r =>
              cases e2 : m' x with
              | none => rw [e2] at h2; cases h2
              | some r' =>
                show decide ((m x).map (·.2) = (m' x).map (·.1)) = true
                rw [e1, e2]
                exact decide_eq_true (congrArg some (hh x r r' e1 e2))
        rcases h with ⟨fit, q⟩ | ⟨nf, q⟩
        · rw [hall.mpr fit]
          refine ⟨_, rfl, iteF ?_⟩
          refine ⟨.ref D, rfl, D, rfl, ⟨_, SqL.of (s4 _ _ hL)⟩, fun D3 hD3 => ?_⟩
          let rf : Str → Rw := fun x => (((m x).getD (none, none)).1, ((m' x).getD (none, none)).2)
          refine dc_hold (us := sh) (val := V.str) yields_list (fun x => x) (RwV K) rf (fun _ => true) (fun x => [some (.ref a), some (.ref b), some (.ref D), some (.str x), none]) hD3 (fun H5 s5 => SqL.of (s5 _ _ (s4 _ _ hL))) (fun _ _ => rfl)
            (fun H5 x _ _ S k => k) (fun H5 x _ _ S k => k H5 (Same.refl H5)) (fun H5 x _ _ _ S k => ⟨_, rfl, k H5 (Same.refl H5)⟩) (fun _ _ _ _ k h => h.keep k) (fun H5 x s5 hx _ S k => ?_) (by omega) (by rw [List.map_id']; exact ndsh) (fun H5 tab s5 h5 pr => ?_)
          · have s05 := s04.trans s5
            obtain ⟨q1, q2, v1, v2, w1, w2, r, r', e1, e2, hv, hw, t1, t2, f1, f2, g1, g2⟩ := row s05 x hx
            have d1 := dget_kT (.inl (s05 _ _ hd)) x
            have d2 := dget_kT (.inl (s05 _ _ hd')) x
            rw [hv] at d1
            rw [hw] at d2
            refine ⟨.ref a, rfl, a, C, dx, _, _, rfl, s05 _ _ ha, T.cl, T.nR, rfl, .str x, rfl, d, _, rfl, d1, q1, _, 0, v1, rfl, rfl, t1.sq, rfl, ?_⟩
            refine ⟨.ref b, rfl, b, C, dx', _, _, rfl, s05 _ _ hb, T.cl, T.nR, rfl, .str x, rfl, d', _, rfl, d2, q2, _, 1, w2, rfl, rfl, t2.sq, rfl, (by show 2 ≤ sizeLine; decide), fun tp ntp => ?_⟩
            have st := same_new (o := .tup [v1, w2]) ntp
            refine k (.ref tp) _ st ⟨tp, v1, w2, rfl, .inl upd_same, ?_, ?_⟩
            · show FvV K _ v1 ((m x).getD (none, none)).1
              rw [e1]
              exact f1.keep (TupKeep.of st)
            · show FvV K _ w2 ((m' x).getD (none, none)).2
              rw [e2]
              exact g2.keep (TupKeep.of st)
          · rw [filt_all] at pr
            have s05 := s04.trans s5
            have ek : tab.map (·.1) = sh := by
              have := paired_keys (R := fun v x => RwV K H5 v (rf x)) pr
              rwa [List.map_id'] at this
            have jH : Holds (RwV K H5) tab (fun x => if x ∈ sh then some (rf x) else none) := holds_paired pr (by rw [List.map_id']; exact ndsh) (fun x hx => if_pos hx) (fun x hx => if_neg (by rwa [List.map_id'] at hx))
            have hH5 := hH.imp fun _ _ x => RwV.keep x (TupKeep.of s05)
            have kH5 := kH.imp fun _ _ x => RwV.keep x (TupKeep.of s05)
            have ndt : Nd tab := by unfold Nd; rw [ek]; exact ndsh
            have ltab : tab.length = sh.length := by rw [← ek, List.length_map]
            obtain ⟨m1, e1, n1, l1, h1⟩ := (Holds.nil (R := RwV K H5)).merge hH5 (by unfold Nd; exact List.nodup_nil) hO.nd
            obtain ⟨m2, e2, n2, l2, h2⟩ := h1.merge kH5 n1 kO.nd
            obtain ⟨m3, e3, n3, l3, h3⟩ := h2.merge jH n2 ndt
            intro p np
            have npd : ∀ {c : Addr} {o : HO}, H5 c = some o → p ≠ c := fun {c o} z y => by rw [y, z] at np; cases np
            have pd := npd (s05 _ _ hd)
            have pd' := npd (s05 _ _ hd')
            have pD := npd h5
            have len0 : ([] : Tab).length = 0 := rfl
            refine ⟨.ref a, rfl, a, C, dx, _, _, rfl, (by rw [upd_ne (npd (s05 _ _ ha)).symm]; exact s05 _ _ ha), T.cl, T.nR, rfl, d, [], kT t, rfl, pd, upd_same, (by rw [upd_ne pd.symm]; exact s05 _ _ hd), small_line (by rw [len_kT]; show 0 + _ ≤ _; omega), ?_⟩
            rw [show ([] : List (Key × V)) = kT [] from rfl, e1, upd_upd]
            refine ⟨.ref b, rfl, b, C, dx', _, _, rfl, (by rw [upd_ne (npd (s05 _ _ hb)).symm]; exact s05 _ _ hb), T.cl, T.nR, rfl, d', kT m1, kT u, rfl, pd', upd_same, (by rw [upd_ne pd'.symm]; exact s05 _ _ hd'), small_line (by rw [len_kT, len_kT]; omega), ?_⟩
            rw [e2, upd_upd]
            refine ⟨.ref D3, rfl, D3, kT m2, kT tab, rfl, pD, upd_same, (by rw [upd_ne pD.symm]; exact h5), small_line (by rw [len_kT, len_kT]; omega), ?_⟩
            rw [e3, upd_upd]
            have sp := same_new (o := .dK (kT m3)) np
            have hp : (upd H5 p (.dK (kT m3))) p = some (.dK (kT m3)) := upd_same
            have h3' := h3.imp fun _ _ x => RwV.keep x (TupKeep.of sp)
            have s06 := s05.trans sp
            generalize upd H5 p (.dK (kT m3)) = H6 at sp hp h3' s06
            have eM : orM (orM (orM (fun _ => none) m) m') (fun x => if x ∈ sh then some (rf x) else none) = sumM m m' := by
              funext x
              unfold orM sumM
              dsimp only
              by_cases hx : x ∈ sh
              · obtain ⟨z1, z2⟩ := (msh x).mp hx
                rw [if_pos hx]
                cases c1 : m x with
                | none => rw [c1] at z1; cases z1
                | some r =>
                  cases c2 : m' x with
                  | none => rw [c2] at z2; cases z2
                  | some r' =>
                    show some (rf x) = _
                    show some (((m x).getD (none, none)).1, ((m' x).getD (none, none)).2) = _
                    rw [c1, c2]
                    rfl
              · rw [if_neg hx]
                cases c1 : m x with
                | none => cases c2 : m' x <;> rfl
                | some r =>
                  cases c2 : m' x with
                  | none => rfl
                  | some r' => exact absurd ((msh x).mpr (by rw [c1, c2]; exact ⟨rfl, rfl⟩)) hx
            rw [eM] at h3'
            have rO : RowsOk (n + n' + n) m3 (sumM m m') := by
              refine ⟨n3, by omega, fun x hx => ?_, fun x r e => ?_⟩
              · have z := h3'.mem.mp hx
                unfold sumM at z
                cases c1 : m x with
                | some r => exact hO.path x (hH.mem.mpr (by rw [c1]; rfl))
                | none =>
                  cases c2 : m' x with
                  | some r => exact kO.path x (kH.mem.mpr (by rw [c2]; rfl))
                  | none => rw [c1, c2] at z; cases z
              · unfold sumM at e
                cases c1 : m x with
                | none =>
                  rw [c1] at e
                  exact kO.good x r e
                | some r1 =>
                  cases c2 : m' x with
                  | none => rw [c1, c2] at e; cases e; exact hO.good x _ c1
                  | some r2 => rw [c1, c2] at e; cases e; exact ⟨(hO.good x _ c1).1, (kO.good x _ c2).2⟩
            refine fun A0 dx0 hA hdx ndx => ⟨A0, p, dx0, n + n' + n, sumM m m', rfl, upd_same, ?_, hn, fun d3 H7 hd3 f7 k7 => ⟨rfl, ?_⟩⟩
            · have sA : Same H6 (upd (upd H6 dx0 (.own A0)) A0 (.ins C dx0 [])) := fun b q z => by
                rw [upd_ne (ne_of_none z hA), upd_ne (ne_of_none z hdx)]
                exact z
              exact RowsAt.same ⟨m3, hp, h3', rO⟩ sA
            · have s67 := made_same hA hdx f7
              have fd3 : H d3 = none := s06.free (by
                have := hd3
                by_cases z : d3 = A0
                · rw [z]; exact hA
                · rw [upd_ne z] at this
                  by_cases z2 : d3 = dx0
                  · rw [z2]; exact hdx
                  · rwa [upd_ne z2] at this)
              exact q A0 dx0 d3 H7 (s06.free hA) fd3 (s06.trans s67) k7
        · rw [Bool.eq_false_iff.mpr fun z => nf (hall.mp z)]
          exact ⟨_, rfl, iteT ⟨(by show 1 ≤ 1000; decide), do_raise T.eC fun dd H5 s5 _ h5 => q dd _ H5 (s04.trans s5) h5⟩⟩
end

end Fk

set_option maxHeartbeats 4000000
namespace Fk
open PySem PySem.Spec PyProof.Rows L2
theorem val_memE {t : Tab} (nd : Nd t) {p : Str × V} (hp : p ∈ t) : valV t p.1 = some p.2 := by
  induction t with
  | nil => cases hp
  | cons q l ih =>
    obtain ⟨h1, h2⟩ := List.nodup_cons.mp (show ((q :: l).map (·.1)).Nodup from nd)
    rcases List.mem_cons.mp hp with z | z
    · rw [z, show q = (q.1, q.2) from rfl, valV_pos rfl]
    · rw [valV_neg (fun e => h1 (by dsimp only; rw [e]; exact List.mem_map.mpr ⟨p, z, rfl⟩))]
      exact ih h2 z
/-- the rows of a table, one by one -/
theorem rows_list {K : PySem.W.Frag} {H : Hp} {t : Tab} {m : Mp Rw} (nd : Nd t) (h : Holds (RwV K H) t m) : ∃ us : List (Str × V × V × Rw), us.map (·.1) = t.map (·.1) ∧ us.length = t.length ∧
    ∀ (k : Nat) (u : Str × V × V × Rw), us[k]? = some u → ∃ q : Addr, t[k]? = some (u.1, .ref q) ∧ TupK K H q [u.2.1, u.2.2.1] ∧ FvV K H u.2.1 u.2.2.2.1 ∧ FvV K H u.2.2.1 u.2.2.2.2 ∧ m u.1 = some u.2.2.2 := by
  have key : ∀ l : Tab, (∀ p ∈ l, p ∈ t) → ∃ us : List (Str × V × V × Rw), us.map (·.1) = l.map (·.1) ∧ us.length = l.length ∧ ∀ (k : Nat) (u : Str × V × V × Rw), us[k]? = some u → ∃ q : Addr, l[k]? = some (u.1, .ref q) ∧ TupK K H q [u.2.1, u.2.2.1] ∧ FvV K H u.2.1 u.2.2.2.1 ∧ FvV K H u.2.2.1 u.2.2.2.2 ∧ m u.1 = some u.2.2.2 := by
    intro l
    induction l with
    | nil => intro _; exact ⟨[], rfl, rfl, fun k u e => by simp at e⟩
    | cons p l ih =>
      intro hl
      obtain ⟨us, e1, e2, e3⟩ := ih fun q hq => hl q (List.mem_cons_of_mem _ hq)
      obtain ⟨r, hr, q, v1, v2, ev, t1, f1, f2⟩ := h.at' (val_memE nd (hl p List.mem_cons_self))
      refine ⟨(p.1, v1, v2, r) :: us, by rw [List.map_cons, List.map_cons, e1], by rw [List.length_cons, List.length_cons, e2], fun k u e => ?_⟩
      cases k with
      | zero =>
        rw [List.getElem?_cons_zero] at e
        cases e
        exact ⟨q, by rw [List.getElem?_cons_zero, ← ev], t1, f1, f2, hr⟩
      | succ k =>
        rw [List.getElem?_cons_succ] at e ⊢
        exact e3 k u e
  exact key t fun p hp => hp
def negM (m : Mp Rw) : Mp Rw := fun x => (m x).map fun r => (r.2, r.1)
def plainM (m : Mp Rw) : Mp Rw := fun x => (m x).bind fun r => if r.1 = r.2 then none else some r
section
variable {P : Program} {w : World} {K : PySem.W.Frag} {mg : Str → Option Value} {base : Heap} {C fk cE iF : Addr}
/-- Change(a dict of rows) -/
theorem do_change {H : Hp} {p : Addr} {n : Nat} {m : Mp Rw} {Q : VK} (hp : RowsAt K H p n m) (hn : n ≤ 60) (q : ∀ c dx3 d3 H', H c = none → H d3 = none → Same H H' → ChAt K C H' c dx3 d3 n m → Q (.ref c) H') :
    ∀ x dx, H x = none → H dx = none → dx ≠ x → spChI K C (.ref x :: ([.ref p] ++ [])) (upd (upd H dx (.own x)) x (.ins C dx [])) (fun v H2 => v = .non ∧ Q (.ref x) H2) C8.E0 := by
  intro A0 dx0 hA hdx ndx
  refine ⟨A0, p, dx0, n, m, rfl, upd_same, ?_, hn, fun d3 H7 hd3 f7 k7 => ⟨rfl, ?_⟩⟩
  · exact hp.same fun b q z => by
      rw [upd_ne (ne_of_none z hA), upd_ne (ne_of_none z hdx)]
      exact z
  · have s67 := made_same hA hdx f7
    have fd3 : H d3 = none := by
      have := hd3
      by_cases z : d3 = A0
      · rw [z]; exact hA
      · rw [upd_ne z] at this
        by_cases z2 : d3 = dx0
        · rw [z2]; exact hdx
        · rwa [upd_ne z2] at this
    exact q A0 dx0 d3 H7 hA fd3 s67 k7
def spNeg (K : PySem.W.Frag) (C : Addr) : Sp := fun vs H Q _ => ∃ (a dx d : Addr) (n : Nat) (m : Mp Rw), vs = [.ref a] ∧ ChAt K C H a dx d n m ∧ n ≤ 60 ∧ ∀ c dx3 d3 H', H c = none → H d3 = none → Same H H' → ChAt K C H' c dx3 d3 n (negM m) → Q (.ref c) H'
theorem m_Change_neg (T : TopC K mg C fk cE iF) : C8.Met P w K mg base 8 C "__neg__" (spNeg K C) [] := by
  refine met_of T.cl T.d_neg sc_Change_neg (fun _ _ _ _ _ _ us hl => match us, hl with | [_], _ => rfl) (fun vs H Q E h => ?_) (fun f cdv A outer s H vs Q E hr h => ?_)
  · obtain ⟨a, dx, d, n, m, rfl, _⟩ := h
    rfl
  · obtain ⟨a, dx, d, n, m, rfl, ⟨ha, t, hd, hH, hO, hs⟩, hn, q⟩ := h
    refine ⟨_, (pss_one (ps_ret (C8.pe_mk (k_Change T) hr (by decide) (by rfl) (pa_cons (pe_lock (pe_dc (own := [("path", 1)]) (g := gName 1) (by rfl) sc_Change_neg.nd (pi_keys (pe_fld (pv 0) rfl)) (blkOk_by (own := [("path", 1)]) (N := ["self", "path"]) (sc := C8.fnScope s_Change_neg) (by decide +kernel)) (fun _ _ _ _ _ => (pg_name (i := 1) sc_Change_neg.nd rfl (Or.inl rfl))) (fun _ _ _ _ _ => pts_nil) (fun _ _ _ _ _ => (pv 1)) (fun _ _ _ _ _ => (pe_tup (pa_cons (pe_ix (ixK_tup (K := K) rfl) (pe_dget (hu_of hr) (pe_fldK (K := K) rfl (pv 0) rfl) (pv 1) (fun _ _ => rfl)) pe_int (fun _ _ => rfl)) (pa_cons (pe_ix (ixK_tup (K := K) rfl) (pe_dget (hu_of hr) (pe_fldK (K := K) rfl (pv 0) rfl) (pv 1) (fun _ _ => rfl)) pe_int (fun _ _ => rfl)) pa_nil)))))) pa_nil)))), ?_⟩
    have nad : a ≠ d := fun z => by rw [z, hd] at ha; cases ha
    have lt : t.length ≤ n := hO.len
    refine ⟨d, _, hd, trivial, fun od => ⟨.ref a, rfl, a, C, dx, _, _, rfl, (by rw [upd_ne nad]; exact ha), T.cl, T.nR, rfl, d, od, rfl, .inl ⟨kT t, upd_same, fun D hD => ?_⟩⟩⟩
    have Y : Yields (Itk d od (kT t)) ((t.map (·.1)).map V.str) (fun H => H d = some (.frz od (.dK (kT t)))) := by
      rw [← kV_kT]
      exact yields_keys
    have nDd : D ≠ d := lock_ne hD
    have fD : H D = none := lock_free hD
    have k0 : TupKeep H (upd H d (.frz od (.dK (kT t)))) := TupKeep.at fun xs z => by rw [hd] at z; cases z
    let rf : Str → Rw := fun x => (((m x).getD (none, none)).2, ((m x).getD (none, none)).1)
    refine dc_hold (us := t.map (·.1)) (val := V.str) Y (fun x => x) (RwV K) rf (fun _ => true) (fun x => [some (.ref a), some (.str x)]) hD (fun H5 s5 => s5 _ _ upd_same) (fun _ _ => rfl)
      (fun H5 x _ _ S k => k) (fun H5 x _ _ S k => k H5 (Same.refl H5)) (fun H5 x _ _ _ S k => ⟨_, rfl, k H5 (Same.refl H5)⟩) (fun _ _ _ _ k h => h.keep k) (fun H5 x s5 hx _ S k => ?_) (by rw [List.length_map]; omega) (by rw [List.map_id']; exact hO.nd) (fun H5 tab s5 h5 pr => ?_)
    · have z := hH.mem.mp hx
      cases e1 : m x with
      | none => rw [e1] at z; cases z
      | some r =>
        obtain ⟨v, hv, q1, v1, v2, rfl, t1, f1, f2⟩ := hH.at e1
        have k5 := k0.trans (TupKeep.of s5)
        have d1 := dget_kT (.inr ⟨od, s5 _ _ upd_same⟩) x
        rw [hv] at d1
        have ha5 : H5 a = some (.ins C dx [("_rows", .ref d)]) := s5 _ _ (by rw [upd_ne nad]; exact ha)
        refine ⟨.ref a, rfl, a, C, dx, _, _, rfl, ha5, T.cl, T.nR, rfl, .str x, rfl, d, _, rfl, d1, q1, _, 1, v2, rfl, rfl, (t1.keep k5).sq, rfl, ?_⟩
        refine ⟨.ref a, rfl, a, C, dx, _, _, rfl, ha5, T.cl, T.nR, rfl, .str x, rfl, d, _, rfl, d1, q1, _, 0, v1, rfl, rfl, (t1.keep k5).sq, rfl, (by show 2 ≤ sizeLine; decide), fun tp ntp => ?_⟩
        have st := same_new (o := .tup [v2, v1]) ntp
        refine k (.ref tp) _ st ⟨tp, v2, v1, rfl, .inl upd_same, ?_, ?_⟩
        · show FvV K _ v2 ((m x).getD (none, none)).2
          rw [e1]
          exact (f2.keep k5).keep (TupKeep.of st)
        · show FvV K _ v1 ((m x).getD (none, none)).1
          rw [e1]
          exact (f1.keep k5).keep (TupKeep.of st)
    · rw [filt_all] at pr
      refine ⟨s5 _ _ upd_same, ?_⟩
      have s06 : Same H (upd H5 d (.dK (kT t))) := same_unlock s5 hd
      have k6 : TupKeep H5 (upd H5 d (.dK (kT t))) := TupKeep.at fun xs z => by rw [s5 _ _ upd_same] at z; cases z
      have ek : tab.map (·.1) = t.map (·.1) := by
        have := paired_keys (R := fun v x => RwV K H5 v (rf x)) pr
        rwa [List.map_id'] at this
      have jH : Holds (RwV K H5) tab (negM m) := by
        refine holds_paired pr (by rw [List.map_id']; exact hO.nd) (fun x hx => ?_) (fun x hx => ?_)
        · have z := hH.mem.mp hx
          unfold negM
          cases e1 : m x with
          | none => rw [e1] at z; cases z
          | some r =>
            show some (r.2, r.1) = some (((m x).getD (none, none)).2, ((m x).getD (none, none)).1)
            rw [e1]
            rfl
        · rw [List.map_id'] at hx
          unfold negM
          cases e1 : m x with
          | none => rfl
          | some r => exact absurd (hH.mem.mpr (by rw [e1]; rfl)) hx
      have hR : RowsAt K (upd H5 d (.dK (kT t))) D n (negM m) := by
        refine ⟨tab, by rw [upd_ne nDd]; exact h5, jH.imp fun _ _ x => x.keep k6, by unfold Nd; rw [ek]; exact hO.nd, ?_, fun x hx => hO.path x (by rw [← ek]; exact hx), fun x r e => ?_⟩
        · have := congrArg List.length ek
          rw [List.length_map, List.length_map] at this
          omega
        · unfold negM at e
          cases e1 : m x with
          | none => rw [e1] at e; cases e
          | some r1 =>
            rw [e1] at e
            cases e
            exact ⟨(hO.good x r1 e1).2, (hO.good x r1 e1).1⟩
      exact do_change hR hn fun c dx3 d3 H' f1 f2 s' k' => q c dx3 d3 H' (s06.free f1) (s06.free f2) (s06.trans s') k'
def spPlain (K : PySem.W.Frag) (C : Addr) : Sp := fun vs H Q _ => ∃ (a dx d : Addr) (n : Nat) (m : Mp Rw), vs = [.ref a] ∧ ChAt K C H a dx d n m ∧ n ≤ 60 ∧ ∀ c dx3 d3 H', H c = none → H d3 = none → Same H H' → ChAt K C H' c dx3 d3 n (plainM m) → Q (.ref c) H'
theorem m_Change_plain (T : TopC K mg C fk cE iF) : C8.Met P w K mg base 8 C "plain" (spPlain K C) [] := by
  refine met_of T.cl T.d_plain sc_Change_plain (fun _ _ _ _ _ _ us hl => match us, hl with | [_], _ => rfl) (fun vs H Q E h => ?_) (fun f cdv A outer s H vs Q E hr h => ?_)
  · obtain ⟨a, dx, d, n, m, rfl, _⟩ := h
    rfl
  · obtain ⟨a, dx, d, n, m, rfl, ⟨ha, t, hd, hH, hO, hs⟩, hn, q⟩ := h
    refine ⟨_, (pss_one (ps_ret (C8.pe_mk (k_Change T) hr (by decide) (by rfl) (pa_cons (pe_lock (pe_dc (own := [("path", 1), ("old", 2), ("new", 3)]) (g := _) (by rfl) sc_Change_plain.nd (pi_items (pe_fld (pv 0) rfl)) (blkOk_by (own := [("path", 1), ("old", 2), ("new", 3)]) (N := ["self", "path", "old", "new"]) (sc := C8.fnScope s_Change_plain) (by decide +kernel)) (fun _ _ _ _ _ => (pg_tupK (K := K) (n := 2) rfl rfl (pgs_cons (pg_name (i := 1) sc_Change_plain.nd rfl (Or.inl rfl)) (pgs_cons (pg_tupK (K := K) (n := 2) rfl rfl (pgs_cons (pg_name (i := 2) sc_Change_plain.nd rfl (Or.inl rfl)) (pgs_cons (pg_name (i := 3) sc_Change_plain.nd rfl (Or.inl rfl)) pgs_nil))) pgs_nil)))) (fun _ _ _ _ _ => pts_one (pt_cmpR (op_neFv (K := K) rfl hr.units) (pv 2) (pv 3) (nomark _))) (fun _ _ _ _ _ => (pv 1)) (fun _ _ _ _ _ => (pe_tup (pa_cons (pv 2) (pa_cons (pv 3) pa_nil)))))) pa_nil)))), ?_⟩
    have nad : a ≠ d := fun z => by rw [z, hd] at ha; cases ha
    have lt : t.length ≤ n := hO.len
    refine ⟨d, _, hd, trivial, fun od => ⟨.ref a, rfl, a, C, dx, _, _, rfl, (by rw [upd_ne nad]; exact ha), T.cl, T.nR, rfl, d, od, _, rfl, upd_same, fun D hD => ?_⟩⟩
    have nDd : D ≠ d := lock_ne hD
    have fD : H D = none := lock_free hD
    have k0 : TupKeep H (upd H d (.frz od (.dK (kT t)))) := TupKeep.at fun xs z => by rw [hd] at z; cases z
    obtain ⟨us, eu, lu, ur⟩ := rows_list hO.nd hH
    have ndu : (us.map (·.1)).Nodup := by rw [eu]; exact hO.nd
    have lk : (kT t).length = us.length := by rw [len_kT, lu]
    have at_ : ∀ {H5 : Hp} {u : Str × V × V × Rw}, Same (upd H d (.frz od (.dK (kT t)))) H5 → u ∈ us → ∃ q0, TupK K H5 q0 [u.2.1, u.2.2.1] ∧ FvV K H5 u.2.1 u.2.2.2.1 ∧ FvV K H5 u.2.2.1 u.2.2.2.2 ∧ m u.1 = some u.2.2.2 := fun {H5 u} s5 hu => by
      obtain ⟨k, hk⟩ := List.getElem?_of_mem hu
      obtain ⟨q0, _, t1, f1, f2, e⟩ := ur k u hk
      have k5 := k0.trans (TupKeep.of s5)
      exact ⟨q0, t1.keep k5, f1.keep k5, f2.keep k5, e⟩
    refine dc_holdS (us := us) (G := fun H5 => H5 d = some (.frz od (.dK (kT t)))) (fun k H5 g hk => ⟨g, by rw [lk]; exact hk⟩) (fun H5 g => ⟨g, Nat.le_of_eq lk⟩) (fun u => u.1) (RwV K) (fun u => u.2.2.2) (fun u => !decide (u.2.2.2.1 = u.2.2.2.2)) (fun u => [some (.ref a), some (.str u.1), some u.2.1, some u.2.2.1]) hD (fun H5 s5 => s5 _ _ upd_same) (fun _ _ => rfl)
      (fun k H5 u x H6 s5 hu hy => ?_) (fun H5 u s5 hu S k => ?_) (fun H5 u s5 hu _ S k => ⟨_, rfl, k H5 (Same.refl H5)⟩) (fun _ _ _ _ k h => h.keep k) (fun H5 u s5 hu _ S k => ?_) (by rw [lu]; omega) ndu (fun H5 tab s5 h5 pr => ?_)
    · obtain ⟨T0, k', v, hkv, rfl, nT, rfl⟩ := hy
      have sT := same_new (o := .tup [kV k', v]) nT
      refine ⟨sT, fun S hS => ?_⟩
      have hm : u ∈ us := List.mem_of_getElem? hu
      obtain ⟨q0, e1, t1, f1, f2, _⟩ := ur k u hu
      have e2 : (kT t)[k]? = some (.inr u.1, .ref q0) := by
        unfold kT
        rw [List.getElem?_map, e1]
        rfl
      rw [e2] at hkv
      cases hkv
      have t1' : TupK K (upd H5 T0 (.tup [V.str u.1, .ref q0])) q0 [u.2.1, u.2.2.1] := (t1.keep k0).keep (TupKeep.of (s5.trans sT))
      exact ⟨T0, _, rfl, SqT.of upd_same, rfl, _, _, rfl, _, _, rfl, q0, _, rfl, t1'.sq, rfl, _, _, rfl, _, _, rfl, rfl, rfl, hS⟩
    · obtain ⟨q0, t1, f1, f2, e⟩ := at_ s5 hu
      have g := hO.good u.1 _ e
      exact ⟨u.2.1, rfl, u.2.2.1, rfl, _, _, f1, f2, g.1, g.2, _, rfl, k H5 (Same.refl H5)⟩
    · obtain ⟨q0, t1, f1, f2, e⟩ := at_ s5 hu
      refine ⟨_, rfl, _, rfl, (by show 2 ≤ sizeLine; decide), fun tp ntp => ?_⟩
      have st := same_new (o := .tup [u.2.1, u.2.2.1]) ntp
      exact k (.ref tp) _ st ⟨tp, _, _, rfl, .inl upd_same, f1.keep (TupKeep.of st), f2.keep (TupKeep.of st)⟩
    · refine ⟨s5 _ _ upd_same, ?_⟩
      have s06 : Same H (upd H5 d (.dK (kT t))) := same_unlock s5 hd
      have k6 : TupKeep H5 (upd H5 d (.dK (kT t))) := TupKeep.at fun xs z => by rw [s5 _ _ upd_same] at z; cases z
      have mu : ∀ x, x ∈ us.map (·.1) ↔ (m x).isSome = true := fun x => by rw [eu, hH.mem]
      have sub : ((us.filter fun u => !decide (u.2.2.2.1 = u.2.2.2.2)).map (·.1)).Nodup := ndu.sublist ((List.filter_sublist).map _)
      have ek := paired_keys (R := fun v (u : Str × V × V × Rw) => RwV K H5 v u.2.2.2) pr
      have uniq : ∀ u ∈ us, m u.1 = some u.2.2.2 := fun u hu => by
        obtain ⟨k, hk⟩ := List.getElem?_of_mem hu
        obtain ⟨_, _, _, _, _, e⟩ := ur k u hk
        exact e
      have jH : Holds (RwV K H5) tab (plainM m) := by
        refine holds_paired pr sub (fun u hu => ?_) (fun x hx => ?_)
        · obtain ⟨h1, h2⟩ := List.mem_filter.mp hu
          unfold plainM
          rw [uniq u h1]
          show (if u.2.2.2.1 = u.2.2.2.2 then none else some u.2.2.2) = _
          rw [if_neg (fun z => by rw [decide_eq_true z] at h2; cases h2)]
        · unfold plainM
          cases e1 : m x with
          | none => rfl
          | some r =>
            show (if r.1 = r.2 then none else some r) = none
            by_cases z : r.1 = r.2
            · rw [if_pos z]
            · exfalso
              obtain ⟨u, hu, rfl⟩ := List.mem_map.mp ((mu x).mpr (by rw [e1]; rfl))
              have e2 := uniq u hu
              rw [e1] at e2
              cases e2
              exact hx (List.mem_map.mpr ⟨u, List.mem_filter.mpr ⟨hu, by rw [decide_eq_false z]; rfl⟩, rfl⟩)
      have hR : RowsAt K (upd H5 d (.dK (kT t))) D n (plainM m) := by
        refine ⟨tab, by rw [upd_ne nDd]; exact h5, jH.imp fun _ _ x => x.keep k6, by unfold Nd; rw [ek]; exact sub, ?_, fun x hx => ?_, fun x r e => ?_⟩
        · have e2 := congrArg List.length ek
          have := List.length_filter_le (fun u : Str × V × V × Rw => !decide (u.2.2.2.1 = u.2.2.2.2)) us
          rw [List.length_map, List.length_map] at e2
          omega
        · rw [ek] at hx
          obtain ⟨u, hu, rfl⟩ := List.mem_map.mp hx
          exact hO.path _ (by rw [← eu]; exact List.mem_map.mpr ⟨u, (List.mem_filter.mp hu).1, rfl⟩)
        · unfold plainM at e
          cases e1 : m x with
          | none => rw [e1] at e; cases e
          | some r1 =>
            rw [e1] at e
            have e : (if r1.1 = r1.2 then none else some r1) = some r := e
            split at e
            · cases e
            · cases e
              exact hO.good x r e1
      exact do_change hR hn fun c dx3 d3 H' f1 f2 s' k' => q c dx3 d3 H' (s06.free f1) (s06.free f2) (s06.trans s') k'
end

end Fk

set_option maxHeartbeats 4000000
namespace Fk
open PySem PySem.Spec PyProof.Rows L2
theorem pss_vac {X : Cx} {sts : List Stmt} : PSs X sts (fun _ _ _ => False) := ⟨fun _ _ _ _ _ _ h => h.elim⟩
section
variable {P : Program} {w : World} {K : PySem.W.Frag} {mg : Str → Option Value} {base : Heap} {C fk cE iF : Addr}
def spEqC (K : PySem.W.Frag) (C : Addr) : Sp := fun vs H Q _ => ∃ (a dx d : Addr) (n : Nat) (m : Mp Rw) (y : V), vs = [.ref a, y] ∧ ChAt K C H a dx d n m ∧
  ((∃ (b dx' d' : Addr) (n' : Nat) (m' : Mp Rw), y = .ref b ∧ ChAt K C H b dx' d' n' m' ∧ ∀ c : Bool, (c = true ↔ m = m') → Q (.bl c) H) ∨ (NotCh K H y ∧ Q (.bl false) H))
theorem m_Change_eq (T : TopC K mg C fk cE iF) : C8.Met P w K mg base 1 C "__eq__" (spEqC K C) [] := by
  refine met_of T.cl T.d_eq sc_Change_eq (fun _ _ _ _ _ _ us hl => match us, hl with | [_, _], _ => rfl) (fun vs H Q E h => ?_) (fun f cdv A outer s H vs Q E hr h => ?_)
  · obtain ⟨a, dx, d, n, m, y, rfl, _⟩ := h
    rfl
  · obtain ⟨a, dx, d, n, m, y, rfl, ⟨ha, t, hd, hH, hO, hs⟩, h⟩ := h
    refine ⟨_, (pss_one (ps_ret (pe_and (pe_callB call_isi (by rfl) T.z_isinstance (by decide +kernel) (pa_cons (pv 1) (pa_cons (C8.pe_gc (by rfl) T.g_Change) pa_nil))) (pe_one (pe_cmpR (op_eqDD (room66 hr)) (pe_fld (pv 0) rfl) (pe_fld (pv 1) rfl) (nomark _)))))), ?_⟩
    refine ⟨y, rfl, ?_⟩
    dsimp only [tCons, tC, tNil]
    rcases h with ⟨b, dx', d', n', m', rfl, ⟨hb, u, hd', kH, kO, ks⟩, q⟩ | ⟨nc, q⟩
    · refine T.isC hb ⟨_, rfl, iteT ?_⟩
      refine ⟨.ref a, rfl, a, C, dx, _, _, rfl, ha, T.cl, T.nR, rfl, .ref b, rfl, b, C, dx', _, _, rfl, hb, T.cl, T.nR, rfl, ?_⟩
      have := Classical.propDecidable (m = m')
      exact rows_eq (c := decide (m = m')) hd hd' hH kH hO kO (by rw [decide_eq_true_eq]) (q _ (by rw [decide_eq_true_eq]))
    · exact T.isN nc ⟨_, rfl, iteF q⟩
theorem ownX_of {CX : CXT} {k : Nat} {m : Str} {sp : Sp} (M : MetX P w K mg base CX k C m sp []) : OwnM P w K mg base CX k C m sp := by
  obtain ⟨f, fd, ps, ds, _, hm, F, b, d⟩ := M.ex
  cases d
  exact ⟨f, fd, ps, hm.at_, hm.fn, F, b⟩
def spApart (K : PySem.W.Frag) (C cE : Addr) : Sp := fun vs H _ E => ∃ (a : Addr) (y : V), vs = [.ref a, y] ∧ NotCh K H y ∧ Bad cE H E
theorem m_Change_is_apart (T : TopC K mg C fk cE iF) : MetX P w K mg base (L2.CX P w) 4 C "is_apart" (spApart K C cE) [] := by
  refine metX_of T.cl T.d_apart sc_Change_is_apart (fun _ _ _ _ _ _ us hl => match us, hl with | [_, _], _ => rfl) (fun vs H Q E h => ?_) (fun f cdv A outer s H vs Q E hr h => ?_)
  · obtain ⟨a, y, rfl, _⟩ := h
    rfl
  · obtain ⟨a, y, rfl, nc, q⟩ := h
    refine ⟨_, (pss_cons (ps_expr (pe_cx (cx__check_change T) hr (by decide) (fun _ => passAt (takes_of rfl rfl rfl rfl) _) (by rfl) (pa_cons (pv 1) pa_nil)))
      pss_vac), ?_⟩
    exact ⟨y, rfl, y, rfl, .inr ⟨nc, q⟩⟩
/-- what is no dict -/
def NoDict (K : PySem.W.Frag) (H : Hp) (v : V) : Prop := ∃ Ty ∈ (["NoneType", "int", "list", "tuple"] : List String), TyX K H v (.type Ty)
theorem noDict_isi {H : Hp} {v : V} (h : NoDict K H v) {R : VK} (r : R (.bl false) H) : rIsi K [v, .ty "dict"] H R := by
  obtain ⟨Ty, hT, ty⟩ := h
  refine ⟨_, _, .type Ty, .type "dict", false, rfl, .ty "dict", ty, ?_, r⟩
  simp only [List.mem_cons, List.not_mem_nil, or_false] at hT
  rcases hT with rfl | rfl | rfl | rfl <;> exact kit_ty (by decide +kernel)
/-- what is no dict of rows: something else, or a dict with one entry that is bad -/
def BadRows (K : PySem.W.Frag) (H : Hp) (v : V) : Prop := NoDict K H v ∨ ∃ (e : Addr) (x : Str) (v1 : V), v = .ref e ∧ H e = some (.dK (kT [(x, v1)])) ∧ x.length ≤ 1000 ∧ OkS x ∧ (isPathF x = false ∨ (isPathF x = true ∧ ∀ H', TupKeep H H' → (∀ b o, b ≠ e → H b = some o → H' b = some o) → BadRow K H' v1))
def spChN (K : PySem.W.Frag) (C cE : Addr) : Sp := fun vs H _ E => ∃ (a : Addr) (v : V), vs = [.ref a, v] ∧ BadRows K H v ∧ Bad cE H E
theorem k_ChangeX (T : TopC K mg C fk cE iF) : MakX P w K mg base (L2.CX P w) 6 "Change" C (spChN K C cE) [] := by
  obtain ⟨f, fd, M, F, df⟩ := T.ini
  refine ⟨f, fd, ["self", "rows"], [], M, ?_, T.mgC, F.binds df fun _ _ _ _ _ _ us hl => match us, hl with | [_, _], _ => rfl, .nil⟩
  obtain ⟨oc, od, dV, kV, doc, pm, an, cdv, ct, osl, rfl, lk, hcd⟩ := F.ex
  refine fn_of lk hcd sc_Change_init (fun vs H Q E h => ?_) (fun A outer s H vs Q E hr h => ?_)
  · obtain ⟨a, v, rfl, _⟩ := h
    rfl
  · obtain ⟨a, v, rfl, hv, q⟩ := h
    refine ⟨_, (pss_cons (ps_if (PW.pt (pw_or (pt_not (pt_val (pe_callB call_isi (by rfl) T.z_isinstance (by decide +kernel) (pa_cons (pv 1) (pa_cons (pe_bltn (v := .ty "dict") (by rfl) T.z_dict (by decide +kernel) rfl) pa_nil))))) (pw_or1 (pt_not (pt_val (pe_callB (cr_all rfl) (by rfl) T.z_all (by decide +kernel) (pa_cons (pe_lock (pe_lc (own := [("path", 2)]) (g := gName 2) (by rfl) sc_Change_init.nd (pi_keys (pv 1)) (blkOk_by (own := [("path", 2)]) (N := ["self", "rows", "path"]) (sc := C8.fnScope s_Change_init) (by decide +kernel)) (fun _ _ _ _ _ => (pg_name (i := 2) sc_Change_init.nd rfl (Or.inl rfl))) (fun _ _ _ _ _ => pts_nil) (fun _ _ _ _ _ => (pe_and (C8.pe_c (c_is_path T.toTop) hr (by decide) (by rfl) (pa_cons (pv 2) pa_nil)) (pe_one (C8.pe_c (c__is_row T) hr (by decide) (by rfl) (pa_cons (pe_dget (hu_of hr) (pv 1) (pv 2) (fun _ _ => rfl)) pa_nil))))))) pa_nil)))))))
      (pss_one (ps_raise rfl (takes_of rfl rfl rfl rfl) (rs_of T.eC (hr.mono (by decide)) (by rfl) (pa_cons pe_str pa_nil))))
      pss_nil)
      (pss_one (ps_fld (pv 0) (pe_dc (own := [("path", 2)]) (g := gName 2) (by rfl) sc_Change_init.nd (pi_tup (C8.pe_c (c_ascending T.toTop) hr (by decide) (by rfl) (pa_cons (pv 1) pa_nil))) (blkOk_by (own := [("path", 2)]) (N := ["self", "rows", "path"]) (sc := C8.fnScope s_Change_init) (by decide +kernel)) (fun _ _ _ _ _ => (pg_name (i := 2) sc_Change_init.nd rfl (Or.inl rfl))) (fun _ _ _ _ _ => pts_nil) (fun _ _ _ _ _ => (pv 2)) (fun _ _ _ _ _ => (pe_dget (hu_of hr) (pv 1) (pv 2) (fun _ _ => rfl)))) rfl))), ?_⟩
    refine ⟨v, rfl, ?_⟩
    dsimp only [tCons, tC, tNil]
    rcases hv with nd | ⟨e, x, v1, rfl, he, lx, ox, hbad⟩
    · exact noDict_isi nd ⟨_, rfl, iteT ⟨(by show 1 ≤ 1000; decide), do_raise T.eC fun dd H3 s3 _ h3 => q dd _ H3 s3 h3⟩⟩
    · refine ⟨_, _, .type "dict", .type "dict", true, rfl, .ty "dict", .base (.dK he), kit_ty (by decide +kernel), _, rfl, iteF ?_⟩
      refine ⟨e, _, he, trivial, fun od => ⟨.ref e, rfl, e, od, rfl, .inl ⟨kT [(x, v1)], upd_same, fun D hD => ?_⟩⟩⟩
      have Y : Yields (Itk e od (kT [(x, v1)])) (([x] : List Str).map V.str) (fun H => H e = some (.frz od (.dK (kT [(x, v1)])))) := by
        have := yields_keys (d := e) (o := od) (kvs := kT [(x, v1)])
        exact this
      have nDe : D ≠ e := lock_ne hD
      have k0 : TupKeep H (upd H e (.frz od (.dK (kT [(x, v1)])))) := TupKeep.at fun xs z => by rw [he] at z; cases z
      refine lc_pure (i := 2) (us := [x]) (g := V.str) Y (fun _ => .bl false) (fun _ => true) hD (fun H s => s _ _ upd_same) (fun H u _ hu R r => r H (Same.refl H))
        (fun H1 u s1 hu _ R r => ?_) (by show 1 ≤ 1000000; decide) (fun H2 s2 h2 => ?_)
      · rw [List.mem_singleton.mp hu]
        refine ⟨.str x, rfl, .str x, rfl, .str x (by omega) ox, fun H3 s3 => ⟨_, rfl, ?_⟩⟩
        rcases hbad with hp | ⟨hp, hb⟩
        · rw [show evalV isPathF (.str x) = false from hp]
          exact iteF (r H3 s3)
        · rw [show evalV isPathF (.str x) = true from hp]
          refine iteT ?_
          have g1 := dget_kT (.inr ⟨od, s3 _ _ (s1 _ _ upd_same)⟩) x
          rw [show valV [(x, v1)] x = some v1 from valV_pos rfl] at g1
          exact ⟨.ref e, rfl, .str x, rfl, e, _, rfl, g1, v1, rfl, .inr ⟨hb _ (k0.trans (TupKeep.of (s1.trans s3))) (fun b o n z => (s1.trans s3) _ _ (by rw [upd_ne n]; exact z)), r H3 s3⟩⟩
      · refine ⟨s2 _ _ upd_same, D, [false], rfl, .inl (.inl (by rw [upd_ne nDe, h2]; rfl)), ?_⟩
        refine ⟨_, rfl, iteT ⟨(by show 1 ≤ 1000; decide), do_raise T.eC fun dd H3 s3 _ h3 => q dd _ H3 ((same_unlock s2 he).trans s3) h3⟩⟩
end
section
variable {X : Cx} {CX : CXT} {k j : Nat} {C : Addr} {x : Str} {sp : Sp} {dvs : List V} {E : XK} {e : Expr} {es : List Expr} {t : TA} {p pos : Pos}
theorem pe_mkX (c : MakX X.prog X.w X.K X.mg X.base CX k x C sp dvs) (hr : Room j X.A) (hk : k + 1 ≤ j) (hg : Gl X x) (hx : Passes CX X E) (ha : PA X (e :: es) t)
    (hdb : (x == ("__debug__" : Str)) = false := by decide) (he : starEach (e :: es) X.env = (false, eval e X.env) :: starEach es X.env := by rfl) (hpl : (backTo pos (starEach es X.env)).any (·.1) = false := by rfl) :
    PE X (.Call (.Name x p) (e :: es) [] pos) (tMake C sp dvs E t) := by
  obtain ⟨f, fd, ps, ds, M, F, hm, b, d⟩ := c.ex
  exact pe_make M F (hr.mono hk) hg hm b d hx ha hdb he hpl
end

end Fk

set_option maxHeartbeats 4000000
namespace Fk
open PySem PySem.Spec PyProof.Rows L2
section
variable {P : Program} {w : World} {K : PySem.W.Frag} {mg : Str → Option Value} {base : Heap}
/-! ### the wells -/
def spCellAt (K : PySem.W.Frag) : Sp := fun vs H Q _ => ∃ (a : Addr) (ns : List Int) (k : Nat), vs = [.ref a, .int k] ∧ SqL K H a (ns.map V.int) ∧ ∀ v : Int, Q (.int v) H
theorem c_l_cell_at (T : Top K mg) : C8.Cal P w K mg base 1 "_law_cell_at" (spCellAt K) [] := by
  refine cal_of T.d_l_cell_at sc_l_cell_at (fun _ _ _ _ _ _ us hl => match us, hl with | [_, _], _ => rfl) (fun vs H Q E h => ?_) (fun f cdv A outer s H vs Q E hr h => ?_)
  · obtain ⟨a, ns, k, rfl, _⟩ := h
    rfl
  · obtain ⟨a, ns, k, rfl, hS, q⟩ := h
    refine ⟨_, (pss_cons (ps_if (pt_cmpR op_lt (pv 1) (pe_callB call_len_seq (by rfl) T.z_len (by decide +kernel) (pa_cons (pv 0) pa_nil)) (nomark _))
      (pss_one (ps_ret (pe_ix ix_list (pv 0) (pv 1) (fun _ _ => rfl))))
      pss_nil)
      (pss_one (ps_ret pe_int))), ?_⟩
    refine ⟨.int k, rfl, .ref a, rfl, a, _, rfl, .inl hS, _, _, rfl, rfl, _, rfl, ite2 (fun h1 => ?_) (fun h1 => ?_)⟩
    · have h1 := of_decide_eq_true h1
      rw [List.length_map] at h1
      have h2 : k < ns.length := by omega
      exact ⟨.ref a, rfl, .int k, rfl, a, _, k, .int ns[k], rfl, rfl, hS, atI_nat (by rw [List.getElem?_map, List.getElem?_eq_getElem h2]; rfl), q _⟩
    · exact q _
def spWell : Sp := fun vs H Q _ => ∃ (x : Int), vs = [.int x] ∧ ∀ H' a, H a = none → Same H H' → Wl H' a 0 → Q (.ref a) H'
theorem c_l_well (T : Top K mg) : C8.Cal P w K mg base 1 "_law_well" spWell [] := by
  refine cal_of T.d_l_well sc_l_well (fun _ _ _ _ _ _ us hl => match us, hl with | [_], _ => rfl) (fun vs H Q E h => ?_) (fun f cdv A outer s H vs Q E hr h => ?_)
  · obtain ⟨x, rfl, _⟩ := h
    rfl
  · obtain ⟨x, rfl, q⟩ := h
    refine ⟨_, (pss_one (ps_ret (pe_lst (pa_cons (pe_op op_mul (pv 0) (pe_callTy call_int1 (by rfl) T.z_int (by decide +kernel) (pa_cons (pe_cmpR op_ge (pv 0) (pe_op op_pow pe_int pe_int) (nomark _)) pa_nil))) (pa_cons (pv 0) (pa_cons pe_int pa_nil)))))), ?_⟩
    refine ⟨.int x, rfl, .int x, rfl, 10, 18, rfl, rfl, ⟨by decide, by decide, by decide⟩, _, _, rfl, rfl, .inr ⟨_, rfl, _, _, rfl, rfl, .inr ?_, .int x, rfl, (by show 3 ≤ sizeLine; decide), fun p hp => ?_⟩⟩
    · split <;> exact ⟨by decide, by decide⟩
    · exact q _ p hp (same_new hp) ⟨Int.le_refl _, _, _, upd_same⟩
/-- the number that is drawn; the well behind it -/
def Drawn (H : Hp) (a : Addr) (n c : Int) (Q : VK) : Prop := ∀ r x y c', 0 ≤ r → r < n → c ≤ c' → c' ≤ c + 1 → Q (.int r) (upd H a (.lst [.int x, .int y, .int c']))
def spDraw : Sp := fun vs H Q _ => ∃ (a : Addr) (n c : Int), vs = [.ref a, .int n] ∧ Wl H a c ∧ 0 < n ∧ n < 2000000000 ∧ c < 2 ^ 40 ∧ Drawn H a n c Q
theorem at3 (x y c : Int) : atI [V.int x, .int y, .int c] 0 = some (.int x) ∧ atI [V.int x, .int y, .int c] 1 = some (.int y) ∧ atI [V.int x, .int y, .int c] 2 = some (.int c) := ⟨rfl, rfl, rfl⟩
theorem pow_small {i : Int} (h0 : 0 ≤ i) (h : i < 2 ^ 62) : i.natAbs < 2 ^ 64 := by omega
theorem c_l_draw (T : Top K mg) : C8.Cal P w K mg base 1 "_law_draw" spDraw [] := by
  refine cal_of T.d_l_draw sc_l_draw (fun _ _ _ _ _ _ us hl => match us, hl with | [_, _], _ => rfl) (fun vs H Q E h => ?_) (fun f cdv A outer s H vs Q E hr h => ?_)
  · obtain ⟨a, n, c, rfl, _⟩ := h
    rfl
  · obtain ⟨a, n, c, rfl, ⟨hc0, x, y, hw⟩, hn0, hn1, hc, q⟩ := h
    refine ⟨_, (pss_cons (ps_if (pt_cmpR op_gt (pe_ix ix_list (pv 0) pe_int (fun _ _ => rfl)) pe_int (nomark _))
      (pss_cons (ps_set (i := 2) sc_l_draw.nd rfl (Or.inl rfl) (pe_op op_mod (pe_callTy call_int1 (by rfl) T.z_int (by decide +kernel) (pa_cons (pe_ix ix_list (pv 0) pe_int (fun _ _ => rfl)) pa_nil)) (pv 1)))
      (pss_cons (ps_asg (pe_op op_fdivW (pe_ix ix_list (pv 0) pe_int (fun _ _ => rfl)) (pv 1)) (pg_sub (pv 0) pe_int set_list))
      (pss_one (ps_ret (pv 2)))))
      pss_nil)
      (pss_cons (ps_asg (pe_op op_add (pe_ix ix_list (pv 0) pe_int (fun _ _ => rfl)) pe_int) (pg_sub (pv 0) pe_int set_list))
      (pss_cons (ps_set (i := 3) sc_l_draw.nd rfl (Or.inl rfl) (pe_op op_add (pe_op op_mod (pe_callTy call_int1 (by rfl) T.z_int (by decide +kernel) (pa_cons (pe_ix ix_list (pv 0) pe_int (fun _ _ => rfl)) pa_nil)) pe_int) (pe_op op_mul (pe_op op_mod (pe_callTy call_int1 (by rfl) T.z_int (by decide +kernel) (pa_cons (pe_op op_fdivW (pe_ix ix_list (pv 0) pe_int (fun _ _ => rfl)) pe_int) pa_nil)) pe_int) pe_int)))
      (pss_cons (ps_set (i := 4) sc_l_draw.nd rfl (Or.inl rfl) (pe_op op_mod (pe_callTy call_int1 (by rfl) T.z_int (by decide +kernel) (pa_cons (pe_op op_pow (pe_op op_add (pe_op op_add (pv 3) (pe_op op_mul pe_int (pe_ix ix_list (pv 0) pe_int (fun _ _ => rfl)))) pe_int) pe_int) pa_nil)) pe_int))
      (pss_cons (ps_set (i := 4) sc_l_draw.nd rfl (Or.inl rfl) (pe_op op_mod (pe_callTy call_int1 (by rfl) T.z_int (by decide +kernel) (pa_cons (pe_op op_mul (pv 4) (pe_op op_add (pe_op op_add (pe_op op_fdivW (pv 4) pe_int) pe_int) (pe_ix ix_list (pv 0) pe_int (fun _ _ => rfl)))) pa_nil)) pe_int))
      (pss_one (ps_ret (pe_op op_mod (pe_callTy call_int1 (by rfl) T.z_int (by decide +kernel) (pa_cons (pe_op op_mod (pe_callTy call_int1 (by rfl) T.z_int (by decide +kernel) (pa_cons (pe_op op_mul (pv 4) (pe_op op_add (pe_op op_fdivW (pv 4) pe_int) pe_int)) pa_nil)) pe_int) pa_nil)) (pv 1))))))))), ?_⟩
    refine ⟨.ref a, rfl, a, _, 0, _, rfl, rfl, SqL.of hw, rfl, _, _, rfl, rfl, _, rfl, ite2 (fun h1 => ?_) (fun h1 => ?_)⟩
    · refine ⟨.ref a, rfl, a, _, 0, _, rfl, rfl, SqL.of hw, rfl, .inl ⟨_, rfl, .int n, rfl, _, _, rfl, rfl, hn0, ?_⟩⟩
      refine ⟨.ref a, rfl, a, _, 0, _, rfl, rfl, SqL.of hw, rfl, .int n, rfl, _, _, rfl, rfl, wide_div (b := 31) hn0 (by omega) (by decide) (by decide), .ref a, rfl, a, _, 0, 0, rfl, rfl, hw, rfl, .int (x % n), rfl, ?_⟩
      exact q _ _ _ _ (Int.emod_nonneg _ (by omega)) (Int.emod_lt_of_pos _ hn0) (Int.le_refl _) (by omega)
    · refine ⟨.ref a, rfl, a, _, 2, _, rfl, rfl, SqL.of hw, rfl, _, _, rfl, rfl, .ref a, rfl, a, _, 2, 2, rfl, rfl, hw, rfl, ?_⟩
      have hw2 : (upd H a (.lst [V.int x, .int y, .int (c + 1)])) a = some (.lst [V.int x, .int y, .int (c + 1)]) := upd_same
      have b1 : ∀ z m : Int, 0 < m → 0 ≤ z % m ∧ z % m < m := fun z m h => ⟨Int.emod_nonneg _ (by omega), Int.emod_lt_of_pos _ h⟩
      have y1 := b1 y 2147483549 (by decide)
      have y2 := b1 (y / 2147483549) 80021 (by decide)
      refine ⟨.ref a, rfl, a, _, 1, _, rfl, rfl, SqL.of hw2, rfl, .inl ⟨_, rfl, _, _, rfl, rfl, (by show (0 : Int) < _; decide), .ref a, rfl, a, _, 1, _, rfl, rfl, SqL.of hw2, rfl, _, _, rfl, rfl, wide_div (b := 40) (by decide) (by decide) (by decide) (by decide), .inl ⟨_, rfl, _, _, rfl, rfl, (by show (0 : Int) < _; decide), _, _, rfl, rfl, .inr (by decide), _, _, rfl, rfl, ?_⟩⟩⟩
      refine ⟨_, rfl, .ref a, rfl, a, _, 2, _, rfl, rfl, SqL.of hw2, rfl, _, _, rfl, rfl, .inl (by decide), _, _, rfl, rfl, _, _, rfl, rfl, _, _, rfl, rfl, ⟨by decide, by decide, pow_small (by omega) (by omega)⟩, .inl ⟨_, rfl, _, _, rfl, rfl, (by show (0 : Int) < _; decide), ?_⟩⟩
      generalize ((y % 2147483549 + y / 2147483549 % 80021 * 37 + 5843 * (c + 1) + 17) ^ Int.toNat 5) = big
      have m1 := b1 big 2147483647 (by decide)
      refine ⟨_, rfl, _, rfl, _, _, rfl, rfl, wide_div (b := 40) (by decide) (by decide) (by decide) (by decide), _, _, rfl, rfl, .ref a, rfl, a, _, 2, _, rfl, rfl, SqL.of hw2, rfl, _, _, rfl, rfl, _, _, rfl, rfl, .inl (by omega), .inl ⟨_, rfl, _, _, rfl, rfl, (by show (0 : Int) < _; decide), ?_⟩⟩
      generalize (big % 2147483647 * (big % 2147483647 / 953 + 40993 + (c + 1))) = big2
      have m2 := b1 big2 2147483629 (by decide)
      refine ⟨_, rfl, _, rfl, _, _, rfl, rfl, wide_div (b := 40) (by decide) (by decide) (by decide) (by decide), _, _, rfl, rfl, _, _, rfl, rfl, .inl (by omega), .inl ⟨_, rfl, _, _, rfl, rfl, (by show (0 : Int) < _; decide), .inl ⟨_, rfl, .int n, rfl, _, _, rfl, rfl, hn0, ?_⟩⟩⟩
      exact q _ _ _ _ (Int.emod_nonneg _ (by omega)) (Int.emod_lt_of_pos _ hn0) (by omega) (Int.le_refl _)
def spPick (K : PySem.W.Frag) : Sp := fun vs H Q _ => ∃ (a b : Addr) (xs : List V) (c : Int), vs = [.ref a, .ref b] ∧ Wl H a c ∧ SqL K H b xs ∧ b ≠ a ∧ 0 < xs.length ∧ xs.length < 1000000 ∧ c < 2 ^ 40 ∧ ∀ v ∈ xs, Aft a c 1 H (Q v)
theorem c_l_pick (T : Top K mg) : C8.Cal P w K mg base 2 "_law_pick" (spPick K) [] := by
  refine cal_of T.d_l_pick sc_l_pick (fun _ _ _ _ _ _ us hl => match us, hl with | [_, _], _ => rfl) (fun vs H Q E h => ?_) (fun f cdv A outer s H vs Q E hr h => ?_)
  · obtain ⟨a, b, xs, c, rfl, _⟩ := h
    rfl
  · obtain ⟨a, b, xs, c, rfl, hw, hS, nb, h0, h1, hc, q⟩ := h
    refine ⟨_, (pss_one (ps_ret (pe_ix ix_list (pv 1) (C8.pe_c (c_l_draw T) hr (by decide) (by rfl) (pa_cons (pv 0) (pa_cons (pe_callB call_len_seq (by rfl) T.z_len (by decide +kernel) (pa_cons (pv 1) pa_nil)) pa_nil))) (fun _ _ => rfl)))), ?_⟩
    refine ⟨.ref b, rfl, .ref a, rfl, .ref b, rfl, b, xs, rfl, .inl hS, a, xs.length, c, rfl, hw, by omega, by omega, hc, fun r x y c' hr0 hr1 hc1 hc2 => ?_⟩
    obtain ⟨v, hv, _, e⟩ := atI_int hr0 hr1
    exact ⟨b, xs, r, v, rfl, rfl, sql_fr hS nb Fr.at, e, q v hv _ c' Fr.at (Wl.upd (by have := hw.1; omega)) hc1 hc2⟩
theorem menu {xs : List Int} {v : V} (h : v ∈ xs.map V.int) : ∃ m ∈ xs, v = .int m := by
  obtain ⟨m, hm, rfl⟩ := List.mem_map.mp h
  exact ⟨m, hm, rfl⟩
theorem do_draw {H : Hp} {a : Addr} {n k : Int} {Q : VK} (hw : Wl H a k) (h0 : 0 < n) (h1 : n < 2000000000) (hk : k < 2 ^ 39) (q : ∀ r : Nat, (r : Int) < n → ∀ H' k', Fr a H H' → Wl H' a k' → k ≤ k' → k' ≤ k + 1 → Q (.int r) H') : spDraw [.ref a, .int n] H Q C8.E0 := by
  refine ⟨a, n, k, rfl, hw, h0, h1, by omega, fun r x y k' r0 r1 k1 k2 => ?_⟩
  obtain ⟨m, rfl⟩ := Int.eq_ofNat_of_zero_le r0
  exact q m r1 _ k' Fr.at (Wl.upd (by have := hw.1; omega)) k1 k2
theorem do_pick {H : Hp} {a b : Addr} {xs : List V} {k : Int} {Q : VK} (hw : Wl H a k) (hS : H b = some (.lst xs)) (nb : b ≠ a) (h0 : 0 < xs.length) (h1 : xs.length < 1000000) (hk : k < 2 ^ 39) (q : ∀ v ∈ xs, ∀ H' k', Fr a H H' → Wl H' a k' → k ≤ k' → k' ≤ k + 1 → Q v H') : spPick K [.ref a, .ref b] H Q C8.E0 :=
  ⟨a, b, xs, k, rfl, hw, SqL.of hS, nb, h0, h1, by omega, q⟩
end
theorem TupKeep.fr {W : Addr} {H H' : Hp} {c : Int} (f : Fr W H H') (w : Wl H W c) : TupKeep H H' := fun b xs e => f b _ (fun z => by
  obtain ⟨_, x, y, h⟩ := w
  rw [z, h] at e
  cases e) e
theorem Wl.neK {W e : Addr} {H : Hp} {c : Int} {kvs : List (Key × V)} (w : Wl H W c) (h : H e = some (.dK kvs)) : e ≠ W := fun z => by
  obtain ⟨_, x, y, h'⟩ := w
  rw [z, h'] at h
  cases h
theorem RowsAt.fr {K : PySem.W.Frag} {W e : Addr} {H H' : Hp} {c : Int} {n : Nat} {m : Mp Rw} (h : RowsAt K H e n m) (f : Fr W H H') (w : Wl H W c) : RowsAt K H' e n m := by
  obtain ⟨t, h1, h2, h3⟩ := h
  exact ⟨t, f _ _ (w.neK h1) h1, h2.imp fun _ _ x => x.keep (TupKeep.fr f w), h3⟩
def ID16 (x : Str) : Str := repS x 16
theorem id_rep : isIdF (repS "0" 16) = true ∧ isIdF (repS "1" 16) = true := by decide +kernel
section
variable {P : Program} {w : World} {K : PySem.W.Frag} {mg : Str → Option Value} {base : Heap} {C fk cE iF : Addr}
def spValL (K : PySem.W.Frag) : Sp := fun vs H Q _ => ∃ (W : Addr) (c : Int), vs = [.ref W] ∧ Wl H W c ∧ c < 2 ^ 38 ∧ ∀ v f H' c', Fr W H H' → Wl H' W c' → c ≤ c' → c' ≤ c + 1 → FvV K H' v f → GoodF f → Q v H'
theorem c_l_value (T : TopC K mg C fk cE iF) : C8.Cal P w K mg base 3 "_law_value" (spValL K) [] := by
  refine cal_of T.d_l_value sc_l_value (fun _ _ _ _ _ _ us hl => match us, hl with | [_], _ => rfl) (fun vs H Q E h => ?_) (fun f cdv A outer s H vs Q E hr h => ?_)
  · obtain ⟨W, c, rfl, _⟩ := h
    rfl
  · obtain ⟨W, c, rfl, hw, hc, q⟩ := h
    refine ⟨_, (pss_one (ps_ret (C8.pe_c (c_l_pick T.toTop) hr (by decide) (by rfl) (pa_cons (pv 0) (pa_cons (pe_lst (pa_cons pe_non (pa_cons (pe_tup (pa_cons pe_str (pa_cons (pe_op op_mul_si pe_str pe_int) pa_nil))) (pa_cons (pe_tup (pa_cons pe_str (pa_cons (pe_op op_mul_si pe_str pe_int) pa_nil))) (pa_cons (pe_tup (pa_cons pe_str (pa_cons (pe_op op_mul_si pe_str pe_int) pa_nil))) pa_nil))))) pa_nil))))), ?_⟩
    refine ⟨.ref W, rfl, _, _, rfl, rfl, by decide, by decide, by decide +kernel, (by show 2 ≤ sizeLine; decide), fun t1 n1 => ?_⟩
    have s1 := same_new (o := .tup [.str "file", .str (repS "0" 16)]) n1
    have h1 : (upd H t1 (.tup [.str "file", .str (repS "0" 16)])) t1 = some (.tup [.str "file", .str (repS "0" 16)]) := upd_same
    refine ⟨_, _, rfl, rfl, by decide, by decide, by decide +kernel, (by show 2 ≤ sizeLine; decide), fun t2 n2 => ?_⟩
    have s2 := same_new (o := .tup [.str "file", .str (repS "1" 16)]) n2
    have h2 : (upd (upd H t1 (.tup [.str "file", .str (repS "0" 16)])) t2 (.tup [.str "file", .str (repS "1" 16)])) t2 = some (.tup [.str "file", .str (repS "1" 16)]) := upd_same
    refine ⟨_, _, rfl, rfl, by decide, by decide, by decide +kernel, (by show 2 ≤ sizeLine; decide), fun t3 n3 => ?_⟩
    have s3 := same_new (o := .tup [.str "exec", .str (repS "0" 16)]) n3
    have h3 : (upd (upd (upd H t1 (.tup [.str "file", .str (repS "0" 16)])) t2 (.tup [.str "file", .str (repS "1" 16)])) t3 (.tup [.str "exec", .str (repS "0" 16)])) t3 = some (.tup [.str "exec", .str (repS "0" 16)]) := upd_same
    have g1 := s3 _ _ (s2 _ _ h1)
    have g2 := s3 _ _ h2
    have sH : Same H (upd (upd (upd H t1 (.tup [.str "file", .str (repS "0" 16)])) t2 (.tup [.str "file", .str (repS "1" 16)])) t3 (.tup [.str "exec", .str (repS "0" 16)])) := (s1.trans s2).trans s3
    refine ⟨(by show 4 ≤ sizeLine; decide), fun b hb => ?_⟩
    have sb := same_new (o := .lst [V.non, .ref t1, .ref t2, .ref t3]) hb
    have hw' := (hw.same sH).same sb
    refine do_pick hw' upd_same ((hw.same sH).ne hb) (by show 0 < 4; decide) (by show 4 < 1000000; decide) (by omega) fun v hv H5 c5 f5 w5 l5 m5 => ?_
    have kp := (TupKeep.of sb).trans (TupKeep.fr f5 hw')
    have F5 : Fr W H H5 := (Fr.same (sH.trans sb)).trans f5
    have gd : ∀ a b : Str, a ∈ FKS → isIdF b = true → GoodF (some (a, b)) := fun a b h1 h2 p e => by cases e; exact ⟨h1, h2⟩
    simp only [List.mem_cons, List.not_mem_nil, or_false] at hv
    rcases hv with rfl | rfl | rfl | rfl
    · exact q .non none H5 c5 F5 w5 l5 m5 rfl (fun p e => nomatch e)
    · exact q _ (some (("file" : Str), repS "0" 16)) H5 c5 F5 w5 l5 m5 ⟨t1, rfl, .inl (kp _ _ g1)⟩ (gd _ _ (by decide) id_rep.1)
    · exact q _ (some (("file" : Str), repS "1" 16)) H5 c5 F5 w5 l5 m5 ⟨t2, rfl, .inl (kp _ _ g2)⟩ (gd _ _ (by decide) id_rep.2)
    · exact q _ (some (("exec" : Str), repS "0" 16)) H5 c5 F5 w5 l5 m5 ⟨t3, rfl, .inl (kp _ _ h3)⟩ (gd _ _ (by decide) id_rep.1)
end

end Fk

set_option maxHeartbeats 4000000
namespace Fk
open PySem PySem.Spec PyProof.Rows L2
def M5 : List Str := ["a", "b", "a/b", "c/d", "e"]
theorem m5_ok : ∀ x ∈ M5, PathOk x := by
  intro x hx
  simp only [M5, List.mem_cons, List.not_mem_nil, or_false] at hx
  rcases hx with rfl | rfl | rfl | rfl | rfl <;> exact ⟨by decide +kernel, by decide +kernel, ok_by (by decide +kernel)⟩
theorem RowsOk.put {n : Nat} {t : Tab} {m : Mp Rw} {x : Str} {v : V} {r : Rw} (h : RowsOk n t m) (px : PathOk x) (g : GoodR r) : RowsOk (n + 1) (putK t x v) (putM m x r) := by
  refine ⟨nd_put h.nd x v, Nat.le_trans (length_putK t x v) (by have := h.len; omega), fun y hy => ?_, fun y s e => ?_⟩
  · rcases mem_keys_put hy with z | z
    · exact h.path y z
    · rw [z]; exact px
  · unfold putM at e
    split at e
    · cases e; exact g
    · exact h.good y s e
section
variable {P : Program} {w : World} {K : PySem.W.Frag} {mg : Str → Option Value} {base : Heap} {C fk cE iF : Addr}
def spRowsL (K : PySem.W.Frag) : Sp := fun vs H Q _ => ∃ (W e : Addr) (c : Int) (n : Nat) (m : Mp Rw), vs = [.ref W, .ref e] ∧ Wl H W c ∧ c < 2 ^ 37 ∧ RowsAt K H e n m ∧ ∀ d H' c' m', H d = none → Fr W H H' → Wl H' W c' → c ≤ c' → c' ≤ c + 40 → RowsAt K H' d 5 m' → Q (.ref d) H'
theorem c_l_rows (T : TopC K mg C fk cE iF) : C8.Cal P w K mg base 4 "_law_rows" (spRowsL K) [] := by
  refine cal_of T.d_l_rows sc_l_rows (fun _ _ _ _ _ _ us hl => match us, hl with | [_, _], _ => rfl) (fun vs H Q E h => ?_) (fun f cdv A outer s H vs Q E hr h => ?_)
  · obtain ⟨W, e, c, n, m, rfl, _⟩ := h
    rfl
  · obtain ⟨W, e, c, n, m, rfl, hw, hc, hE, q⟩ := h
    refine ⟨_, (pss_cons (ps_set (i := 2) sc_l_rows.nd rfl (Or.inl rfl) pe_dnewK)
      (pss_cons (ps_for PassesOwn.never rfl (pi_range1 (by rfl) T.z_range (pa_cons (C8.pe_c (c_l_draw T.toTop) hr (by decide) (by rfl) (pa_cons (pv 0) (pa_cons pe_int pa_nil))) pa_nil)) (pg_name (i := 3) sc_l_rows.nd rfl (Or.inl rfl))
      (pss_cons (ps_set (i := 4) sc_l_rows.nd rfl (Or.inl rfl) (C8.pe_c (c_l_pick T.toTop) hr (by decide) (by rfl) (pa_cons (pv 0) (pa_cons (pe_lst (pa_cons pe_str (pa_cons pe_str (pa_cons pe_str (pa_cons pe_str (pa_cons pe_str pa_nil)))))) pa_nil))))
      (pss_cons (ps_set (i := 5) sc_l_rows.nd rfl (Or.inl rfl) (C8.pe_c (c_l_value T) hr (by decide) (by rfl) (pa_cons (pv 0) pa_nil)))
      (C8.pss_cut (ps_if (PW.pt (pw_and (pt_cmp (pc_din (hu_of hr) (pv 4) (pv 1))) (pw_and1 (pt_cmpR op_gt (C8.pe_c (c_l_draw T.toTop) hr (by decide) (by rfl) (pa_cons (pv 0) (pa_cons pe_int pa_nil))) pe_int (nomark _)))))
      (pss_one (ps_set (i := 5) sc_l_rows.nd rfl (Or.inl rfl) (pe_ix ix_tup (pe_dget (hu_of hr) (pv 1) (pv 4) (fun _ _ => rfl)) pe_int (fun _ _ => rfl))))
      pss_nil)
      (pss_one (ps_dput (hu_of hr) (pv 2) (pv 4) (pe_tup (pa_cons (pv 5) (pa_cons (pe_ix ix_list (pe_lst (pa_cons (C8.pe_c (c_l_value T) hr (by decide) (by rfl) (pa_cons (pv 0) pa_nil)) (pa_cons (pv 5) pa_nil))) (pe_callTy call_int1 (by rfl) T.z_int (by decide +kernel) (pa_cons (pe_cmpR op_eq (C8.pe_c (c_l_draw T.toTop) hr (by decide) (by rfl) (pa_cons (pv 0) (pa_cons pe_int pa_nil))) pe_int (nomark _)) pa_nil)) (fun _ _ => rfl)) pa_nil))) rfl))))))
      (pss_one (ps_ret (pv 2))))), ?_⟩
    intro d hd
    have wd : d ≠ W := hw.ne hd
    have w0 : Wl (upd H d (.dK [])) W c := hw.new hd
    have f0 : Fr W H (upd H d (.dK [])) := Fr.new hd
    have h0 : (upd H d (.dK [])) d = some (.dK (kT [])) := upd_same
    generalize upd H d (.dK []) = H0 at w0 f0 h0
    refine ⟨.ref W, rfl, do_draw w0 (by decide) (by decide) (by omega) fun r hr5 H1 c1 f1 w1 l1 m1 => ⟨r, rfl, by omega, by omega, ?_⟩⟩
    have e0 : ∀ {H' : Hp}, Fr W H H' → RowsAt K H' e n m := fun f => hE.fr f hw
    refine forG yields_range (fun i σ H' => ∃ (t : Tab) (m' : Mp Rw) (c' : Int) (z3 z4 z5 : Option V), σ = [some (.ref W), some (.ref e), some (.ref d), z3, z4, z5] ∧ H' d = some (.dK (kT t)) ∧ Holds (RwV K H') t m' ∧ RowsOk i t m' ∧ Fr W H H' ∧ Wl H' W c' ∧ c ≤ c' ∧ c' ≤ c + 1 + 6 * i)
      ⟨[], fun _ => none, c1, none, none, none, rfl, f1 _ _ wd h0, .nil, ⟨by unfold Nd; exact List.nodup_nil, Nat.le_refl 0, (fun x hx => nomatch hx), (fun x r e => nomatch e)⟩, f0.trans f1, w1, by omega, by omega⟩ (fun _ _ _ _ => trivial) (fun i x σ H' hx I => ?_) (fun σ H' I => ?_)
    · obtain ⟨t, m', c', z3, z4, z5, rfl, hD, hH, hO, fH, w', l', u'⟩ := I
      have hi := (List.getElem?_eq_some_iff.mp hx).1
      rw [List.length_map, List.length_range] at hi
      have hi4 : i < 5 := by omega
      refine ⟨.ref W, rfl, (by show 5 ≤ sizeLine; decide), fun b hb => ?_⟩
      have wb := w'.new (o := .lst [V.str "a", .str "b", .str "a/b", .str "c/d", .str "e"]) hb
      refine do_pick wb upd_same (w'.ne hb) (by show 0 < 5; decide) (by show 5 < 1000000; decide) (by omega) fun pv hpv H2 c2 f2 w2 l2 m2 => ?_
      obtain ⟨px, rfl, hpx⟩ : ∃ px, pv = .str px ∧ px ∈ M5 := by
        simp only [List.mem_cons, List.not_mem_nil, or_false] at hpv
        rcases hpv with rfl | rfl | rfl | rfl | rfl
        · exact ⟨_, rfl, by decide⟩
        · exact ⟨_, rfl, by decide⟩
        · exact ⟨_, rfl, by decide⟩
        · exact ⟨_, rfl, by decide⟩
        · exact ⟨_, rfl, by decide⟩
      have F2 : Fr W H' H2 := (Fr.new hb).trans f2
      refine ⟨.ref W, rfl, W, c2, rfl, w2, by omega, fun v5 g5 H3 c3 f3 w3 l3 m3 hv5 hg5 => ?_⟩
      have F3 : Fr W H' H3 := F2.trans f3
      refine ⟨fun σ H4 => ∃ (c4 : Int) (v : V) (g : Fv), σ = [some (.ref W), some (.ref e), some (.ref d), some x, some (.str px), some v] ∧ Fr W H' H4 ∧ Wl H4 W c4 ∧ c3 ≤ c4 ∧ c4 ≤ c3 + 1 ∧ FvV K H4 v g ∧ GoodF g, ?first, ?rest⟩
      case rest =>
        rintro σ' H4 ⟨c4, v, g, rfl, F4, w4, l4, m4, hv, hg⟩
        refine ⟨v, rfl, .ref W, rfl, W, c4, rfl, w4, by omega, fun v' g' H5 c5 f5 w5 l5 m5 hv' hg' => ?_⟩
        have F5 := F4.trans f5
        have k5 := TupKeep.fr f5 w4
        refine ⟨v, rfl, (by show 2 ≤ sizeLine; decide), fun L hL => ?_⟩
        have sL := same_new (o := .lst [v', v]) hL
        have w6 := w5.same sL
        refine ⟨.ref W, rfl, do_draw w6 (by decide) (by decide) (by omega) fun r6 hr6 H7 c7 f7 w7 l7 m7 => ?_⟩
        have nLW : L ≠ W := w5.ne hL
        have hL7 : H7 L = some (.lst [v', v]) := f7 _ _ nLW upd_same
        have F7 : Fr W H' H7 := F5.trans ((Fr.same sL).trans f7)
        have k7 := (TupKeep.of sL).trans (TupKeep.fr f7 w6)
        have hv7 : FvV K H7 v g := (hv.keep k5).keep k7
        have hv7' : FvV K H7 v' g' := hv'.keep k7
        have last : ∀ (vn : V) (gn : Fv), FvV K H7 vn gn → GoodF gn → ∀ tp, H7 tp = none → ∃ t2 m2 c2 z3 z4 z5, ([some (.ref W), some (.ref e), some (.ref d), some x, some (.str px), some v] : L2.St) = [some (.ref W), some (.ref e), some (.ref d), z3, z4, z5] ∧ (upd (upd H7 tp (.tup [v, vn])) d (.dK (putK (kT t) (.inr px) (.ref tp)))) d = some (.dK (kT t2)) ∧ Holds (RwV K (upd (upd H7 tp (.tup [v, vn])) d (.dK (putK (kT t) (.inr px) (.ref tp))))) t2 m2 ∧ RowsOk (i + 1) t2 m2 ∧ Fr W H (upd (upd H7 tp (.tup [v, vn])) d (.dK (putK (kT t) (.inr px) (.ref tp)))) ∧ Wl (upd (upd H7 tp (.tup [v, vn])) d (.dK (putK (kT t) (.inr px) (.ref tp)))) W c2 ∧ c ≤ c2 ∧ c2 ≤ c + 1 + 6 * ((i + 1 : Nat) : Int) := by
          intro vn gn hvn hgn tp ntp
          have hd7 : H7 d = some (.dK (kT t)) := F7 _ _ wd hD
          have st := same_new (o := .tup [v, vn]) ntp
          have kd : TupKeep (upd H7 tp (.tup [v, vn])) (upd (upd H7 tp (.tup [v, vn])) d (.dK (putK (kT t) (.inr px) (.ref tp)))) := TupKeep.at fun xs z => by rw [st _ _ hd7] at z; cases z
          have k8 := (TupKeep.of st).trans kd
          have kk : TupKeep H' H7 := TupKeep.fr F7 w'
          refine ⟨putK t px (.ref tp), putM m' px (g, gn), c7, _, _, _, rfl, by rw [upd_same, putK_kT], ?_, hO.put (m5_ok px hpx) ⟨hg, hgn⟩, ?_, ?_, by omega, by push_cast; omega⟩
          · exact (hH.imp fun _ _ y => (y.keep kk).keep k8).put ⟨tp, v, vn, rfl, .inl (kd _ _ upd_same), hv7.keep k8, hvn.keep k8⟩
          · exact ((fH.trans F7).trans (Fr.same st)).mut hd
          · exact (w7.same st).mut wd
        refine ⟨rfl, .inr ⟨_, rfl, ?_⟩⟩
        by_cases hz : ((r6 : Int)) = 0
        · refine ⟨L, [v', v], 1, v, rfl, by rw [decide_eq_true (by rw [hz])]; rfl, SqL.of hL7, rfl, (by show 2 ≤ sizeLine; decide), fun tp ntp => ?_⟩
          have hd7 : (upd H7 tp (.tup [v, v])) d = some (.dK (kT t)) := (same_new ntp) _ _ (F7 _ _ wd hD)
          exact ⟨.ref d, rfl, .str px, rfl, d, _, rfl, DPut.k (k := .inr px) hd7 (small_lt (by rw [len_kT]; have := hO.len; omega)), last v g hv7 hg tp ntp⟩
        · refine ⟨L, [v', v], 0, v', rfl, by rw [decide_eq_false (fun z => hz (by injection z))]; rfl, SqL.of hL7, rfl, (by show 2 ≤ sizeLine; decide), fun tp ntp => ?_⟩
          have hd7 : (upd H7 tp (.tup [v, v'])) d = some (.dK (kT t)) := (same_new ntp) _ _ (F7 _ _ wd hD)
          exact ⟨.ref d, rfl, .str px, rfl, d, _, rfl, DPut.k (k := .inr px) hd7 (small_lt (by rw [len_kT]; have := hO.len; omega)), last v' g' hv7' hg' tp ntp⟩
      case first =>
        obtain ⟨te, he, hH2, hO2⟩ := e0 (fH.trans F3)
        refine ⟨.str px, rfl, .ref e, rfl, e, _, rfl, dget_kT (.inl he) px, _, rfl, ?_⟩
        rcases hH2 px with ⟨a1, a2⟩ | ⟨w0', r0, a1, a2, q0, v1, v2, rfl, t1, g1, g2⟩
        · rw [a1]
          exact ifF Bool.false_ne_true ⟨c3, v5, g5, rfl, F3, w3, by omega, by omega, hv5, hg5⟩
        · rw [a1]
          refine ifT rfl ?_
          refine ⟨.ref W, rfl, do_draw w3 (by decide) (by decide) (by omega) fun r6 hr6 H7 c7 f7 w7 l7 m7 => ?_⟩
          have k7 := TupKeep.fr f7 w3
          refine ⟨_, _, rfl, rfl, _, rfl, ite2 (fun z => ?_) (fun z => ?_)⟩
          · have he7 : H7 e = some (.dK (kT te)) := f7 _ _ (w3.neK he) he
            have d1 := dget_kT (.inl he7) px
            rw [a1] at d1
            exact ⟨.ref e, rfl, .str px, rfl, e, _, rfl, d1, q0, _, 1, v2, rfl, rfl, (t1.keep k7).sq, rfl, c7, v2, r0.2, rfl, F3.trans f7, w7, by omega, by omega, g2.keep k7, (hO2.good px r0 a2).2⟩
          · exact ⟨c7, v5, g5, rfl, F3.trans f7, w7, by omega, by omega, hv5.keep k7, hg5⟩
    · obtain ⟨t, m', c', z3, z4, z5, rfl, hD, hH, hO, fH, w', l', u'⟩ := I
      rw [List.length_map, List.length_range] at hO u'
      exact ⟨_, rfl, q d H' c' m' hd fH w' l' (by omega) ⟨t, hD, hH, hO.mono (by omega)⟩⟩
end

end Fk

set_option maxHeartbeats 4000000
namespace Fk
open PySem PySem.Spec PyProof.Rows L2
/-- rows or None -/
def OptRows (K : PySem.W.Frag) (H : Hp) (v : V) (n : Nat) : Option (Mp Rw) → Prop
  | none => v = .non
  | some m => ∃ e, v = .ref e ∧ RowsAt K H e n m
theorem OptRows.same {K : PySem.W.Frag} {H H' : Hp} {v : V} {n : Nat} {o : Option (Mp Rw)} (h : OptRows K H v n o) (s : Same H H') : OptRows K H' v n o := by
  cases o with
  | none => exact h
  | some m =>
    obtain ⟨e, a, b⟩ := h
    exact ⟨e, a, b.same s⟩
open Classical in
noncomputable def sumO (a b : Option (Mp Rw)) : Option (Mp Rw) := match a, b with
  | some m, some m' => if fitsM m m' then some (sumM m m') else none
  | _, _ => none
theorem sumO_fit {a b : Mp Rw} (h : fitsM a b) : sumO (some a) (some b) = some (sumM a b) := by
  unfold sumO
  exact if_pos h
theorem sumO_not {a b : Mp Rw} (h : ¬ fitsM a b) : sumO (some a) (some b) = none := by
  unfold sumO
  exact if_neg h
theorem sumO_none (b : Option (Mp Rw)) : sumO none b = none := rfl
section
variable {P : Program} {w : World} {K : PySem.W.Frag} {mg : Str → Option Value} {base : Heap} {C fk cE iF : Addr}
def spSumL (K : PySem.W.Frag) : Sp := fun vs H Q _ => ∃ (v u : V) (n n' : Nat) (a b : Option (Mp Rw)), vs = [v, u] ∧ OptRows K H v n a ∧ OptRows K H u n' b ∧ n + n' ≤ 60 ∧ ∀ r H', Same H H' → OptRows K H' r (n + n') (sumO a b) → Q r H'
theorem c_l_sum (T : TopC K mg C fk cE iF) : C8.Cal P w K mg base 4 "_law_sum" (spSumL K) [] := by
  refine cal_of T.d_l_sum sc_l_sum (fun _ _ _ _ _ _ us hl => match us, hl with | [_, _], _ => rfl) (fun vs H Q E h => ?_) (fun f cdv A outer s H vs Q E hr h => ?_)
  · obtain ⟨v, u, n, n', a, b, rfl, _⟩ := h
    rfl
  · obtain ⟨v, u, n, n', a, b, rfl, hv, hu, hn, q⟩ := h
    refine ⟨_, (pss_cons (ps_if (PW.pt (pw_or (pt_cmpR op_isN (pv 0) pe_non (nomark _)) (pw_or1 (pt_cmpR op_isN (pv 1) pe_non (nomark _)))))
      (pss_one (ps_ret pe_non))
      pss_nil)
      (pss_cons (ps_set (i := 2) sc_l_sum.nd rfl (Or.inl rfl) (pe_callTy call_dictD (by rfl) T.z_dict (by decide +kernel) (pa_cons (pv 0) pa_nil)))
      (pss_cons (ps_lock (ps_for PassesOwn.never rfl (pi_keys (pv 1)) (pg_name (i := 3) sc_l_sum.nd rfl (Or.inl rfl))
      (C8.pss_cut (ps_if (PW.pt (pw_and (pt_cmp (pc_din (hu_of hr) (pv 3) (pv 0))) (pw_and1 (pt_cmpR (op_neFv (K := K) rfl hr.units) (pe_ix ix_tup (pe_dget (hu_of hr) (pv 0) (pv 3) (fun _ _ => rfl)) pe_int (fun _ _ => rfl)) (pe_ix ix_tup (pe_dget (hu_of hr) (pv 1) (pv 3) (fun _ _ => rfl)) pe_int (fun _ _ => rfl)) (nomark _)))))
      (pss_one (ps_ret pe_non))
      pss_nil)
      (pss_one (ps_dput (hu_of hr) (pv 2) (pv 3) (pe_tup (pa_cons (pe_ix ix_tup (pe_dget2 (hu_of hr) (pv 0) (pv 3) (pe_dget (hu_of hr) (pv 1) (pv 3) (fun _ _ => rfl)) ⟨rfl, rfl, rfl, rfl⟩) pe_int (fun _ _ => rfl)) (pa_cons (pe_ix ix_tup (pe_dget (hu_of hr) (pv 1) (pv 3) (fun _ _ => rfl)) pe_int (fun _ _ => rfl)) pa_nil))) rfl)))))
      (pss_one (ps_ret (pv 2)))))), ?_⟩
    refine ⟨v, rfl, rfl, _, rfl, ?_⟩
    cases a with
    | none =>
      obtain rfl : v = .non := hv
      refine iteT ?_
      exact q .non H (Same.refl H) (by show OptRows K H .non _ none; exact rfl)
    | some m =>
      obtain ⟨e1, rfl, t, he, hH, hO⟩ := hv
      rw [decide_eq_false (fun z => by cases z)]
      refine iteF ?_
      refine ⟨u, rfl, rfl, _, rfl, ?_⟩
      cases b with
      | none =>
        obtain rfl : u = .non := hu
        exact iteT (q .non H (Same.refl H) (by show OptRows K H .non _ none; exact rfl))
      | some m' =>
        obtain ⟨e2, rfl, t2, he2, kH, kO⟩ := hu
        rw [decide_eq_false (fun z => by cases z)]
        refine iteF ?_
        have lt : t.length ≤ n := hO.len
        have lt2 : t2.length ≤ n' := kO.len
        refine ⟨.ref e1, rfl, e1, _, rfl, .inl he, fun D hD => ?_⟩
        have s1 := same_new (o := .dK (kT t)) hD
        have hD1 : (upd H D (.dK (kT t))) D = some (.dK (kT t)) := upd_same
        generalize upd H D (.dK (kT t)) = H1 at s1 hD1
        have nD1 : D ≠ e1 := fun z => by rw [z, he] at hD; cases hD
        have nD2 : D ≠ e2 := fun z => by rw [z, he2] at hD; cases hD
        refine ⟨e2, _, s1 _ _ he2, trivial, fun od => ⟨.ref e2, rfl, e2, od, rfl, .inl ⟨kT t2, upd_same, ?_⟩⟩⟩
        have Y : Yields (Itk e2 od (kT t2)) ((t2.map (·.1)).map V.str) (fun H => H e2 = some (.frz od (.dK (kT t2)))) := by
          rw [← kV_kT]
          exact yields_keys
        have h2L : (upd H1 e2 (.frz od (.dK (kT t2)))) e2 = some (.frz od (.dK (kT t2))) := upd_same
        have kL : ∀ b o, b ≠ e2 → H1 b = some o → (upd H1 e2 (.frz od (.dK (kT t2)))) b = some o := fun b o n z => by rw [upd_ne n]; exact z
        have tL : TupKeep H1 (upd H1 e2 (.frz od (.dK (kT t2)))) := TupKeep.at fun xs z => by rw [s1 _ _ he2] at z; cases z
        generalize hHL : upd H1 e2 (.frz od (.dK (kT t2))) = HL at h2L kL tL
        have sU : ∀ {H' : Hp}, Fr D HL H' → Same H (upd H' e2 (.dK (kT t2))) := fun fr b o e => by
          by_cases hb : b = e2
          · rw [hb, upd_same, ← he2, ← hb, e]
          · rw [upd_ne hb]
            exact fr b o (ne_of_none e hD) (kL b o hb (s1 b o e))
        refine forG Y (fun i σ H' => ∃ (tt : Tab) (mm : Mp Rw) (z : Option V), σ = [some (.ref e1), some (.ref e2), some (.ref D), z] ∧ H' D = some (.dK (kT tt)) ∧ Holds (RwV K H') tt mm ∧ RowsOk (n + i) tt mm ∧ Fr D HL H' ∧ (∀ x, mm x = if x ∈ (t2.map (·.1)).take i then sumM m m' x else m x) ∧ (∀ x ∈ (t2.map (·.1)).take i, ∀ r r', m x = some r → m' x = some r' → r.2 = r'.1))
          ⟨t, m, none, rfl, kL _ _ nD2 hD1, hH.imp fun _ _ x => (x.keep (TupKeep.of s1)).keep tL, hO, Fr.refl D HL, fun x => by simp, fun x hx => by simp at hx⟩ (fun i σ H' I => ?_) (fun i x σ H' hx I => ?_) (fun σ H' I => ?_)
        · obtain ⟨_, _, _, _, _, _, _, fr, _⟩ := I
          exact fr _ _ nD2.symm h2L
        · obtain ⟨tt, mm, z, rfl, hDD, hM, hMO, fr, hmm, hfit⟩ := I
          rw [List.getElem?_map] at hx
          cases hy : (t2.map (·.1))[i]? with
          | none => rw [hy] at hx; cases hx
          | some y =>
            rw [hy] at hx
            cases hx
            have hym : y ∈ t2.map (·.1) := List.mem_of_getElem? hy
            have hi : i < t2.length := by
              have := (List.getElem?_eq_some_iff.mp hy).1
              rwa [List.length_map] at this
            have etk : (t2.map (·.1)).take (i + 1) = (t2.map (·.1)).take i ++ [y] := by
              rw [List.take_add_one, hy]
              rfl
            have hnew : y ∉ (t2.map (·.1)).take i := fun z => by
              have nd := kO.nd
              unfold Nd at nd
              rw [← List.take_append_drop (i + 1) (t2.map (·.1)), etk, List.append_assoc] at nd
              exact absurd rfl ((List.nodup_append.mp nd).2.2 y z y (List.mem_append_left _ List.mem_cons_self))
            have k0 : TupKeep H H' := (TupKeep.of s1).trans (tL.trans (fun b xs z => fr b _ (fun w => by
              have := kL D _ nD2 hD1
              rw [w, this] at z
              cases z) z))
            have g2 : DGet H' e2 (.str y) (valV t2 y) := dget_kT (.inr ⟨od, fr _ _ nD2.symm h2L⟩) y
            have g1 : DGet H' e1 (.str y) (valV t y) := by
              by_cases w : e1 = e2
              · have e0 : kT t = kT t2 := by
                  rw [w, he2] at he
                  injection he with he
                  injection he with he
                  exact he.symm
                exact dget_kT (.inr ⟨od, by rw [w, e0]; exact fr _ _ nD2.symm h2L⟩) y
              · exact dget_kT (.inl (fr _ _ nD1.symm (kL _ _ w (s1 _ _ he)))) y
            have d1 : IsD H' e1 := by
              by_cases w : e1 = e2
              · exact .inl ⟨kT t2, .inr ⟨od, by rw [w]; exact fr _ _ nD2.symm h2L⟩⟩
              · exact .inl ⟨kT t, .inl (fr _ _ nD1.symm (kL _ _ w (s1 _ _ he)))⟩
            cases em : m' y with
            | none =>
              have := kH.mem.mp hym
              rw [em] at this
              cases this
            | some r' =>
              obtain ⟨wv, hwv, q2, w1, w2, rfl, t2t, f1', f2'⟩ := kH.at em
              rw [hwv] at g2
              refine ⟨fun σ' H'' => σ' = [some (.ref e1), some (.ref e2), some (.ref D), some (.str y)] ∧ H'' = H' ∧ ∀ r, m y = some r → r.2 = r'.1, ?first, ?rest⟩
              case first =>
                refine ⟨.str y, rfl, .ref e1, rfl, e1, _, rfl, g1, _, rfl, ?_⟩
                rcases hH y with ⟨a1, a2⟩ | ⟨v0, r0, a1, a2, q0, v1, v2, rfl, t1, x1, x2⟩
                · rw [a1]
                  exact ifF Bool.false_ne_true ⟨rfl, rfl, fun r e => by rw [a2] at e; cases e⟩
                · rw [a1] at g1 ⊢
                  refine ifT rfl ?_
                  refine ⟨.ref e1, rfl, .str y, rfl, e1, _, rfl, g1, q0, _, 1, v2, rfl, rfl, (t1.keep k0).sq, rfl, ?_⟩
                  refine ⟨.ref e2, rfl, .str y, rfl, e2, _, rfl, g2, q2, _, 0, w1, rfl, rfl, (t2t.keep k0).sq, rfl, ?_⟩
                  refine ⟨r0.2, r'.1, x2.keep k0, f1'.keep k0, (hO.good y r0 a2).2, (kO.good y r' em).1, _, rfl, ?_⟩
                  by_cases c : r0.2 = r'.1
                  · rw [decide_eq_true c]
                    exact iteF ⟨rfl, rfl, fun r e => by rw [a2] at e; cases e; exact c⟩
                  · rw [decide_eq_false c]
                    refine iteT ?_
                    refine ⟨fr _ _ nD2.symm h2L, q .non _ (sU fr) ?_⟩
                    show OptRows K _ .non _ (sumO (some m) (some m'))
                    rw [sumO_not (fun ft => c (ft y r0 r' a2 em))]
                    rfl
              case rest =>
                rintro σ' H'' ⟨rfl, rfl, hfy⟩
                have fin : ∀ (vo : V) (ro : Fv), FvV K H'' vo ro → GoodF ro → sumM m m' y = some (ro, r'.2) → ∀ tp, H'' tp = none → ∃ tt2 mm2 z2, ([some (.ref e1), some (.ref e2), some (.ref D), some (.str y)] : L2.St) = [some (.ref e1), some (.ref e2), some (.ref D), z2] ∧ (upd (upd H'' tp (.tup [vo, w2])) D (.dK (putK (kT tt) (.inr y) (.ref tp)))) D = some (.dK (kT tt2)) ∧ Holds (RwV K (upd (upd H'' tp (.tup [vo, w2])) D (.dK (putK (kT tt) (.inr y) (.ref tp))))) tt2 mm2 ∧ RowsOk (n + (i + 1)) tt2 mm2 ∧ Fr D HL (upd (upd H'' tp (.tup [vo, w2])) D (.dK (putK (kT tt) (.inr y) (.ref tp)))) ∧ (∀ x, mm2 x = if x ∈ (t2.map (·.1)).take (i + 1) then sumM m m' x else m x) ∧ (∀ x ∈ (t2.map (·.1)).take (i + 1), ∀ r r', m x = some r → m' x = some r' → r.2 = r'.1) := by
                  intro vo ro hvo hro hsum tp ntp
                  have st := same_new (o := .tup [vo, w2]) ntp
                  have k7 : TupKeep (upd H'' tp (.tup [vo, w2])) (upd (upd H'' tp (.tup [vo, w2])) D (.dK (putK (kT tt) (.inr y) (.ref tp)))) := TupKeep.at fun xs z => by rw [st _ _ hDD] at z; cases z
                  have k8 := (TupKeep.of st).trans k7
                  refine ⟨putK tt y (.ref tp), putM mm y (ro, r'.2), _, rfl, by rw [upd_same, putK_kT], ?_, hMO.put (kO.path y hym) ⟨hro, (kO.good y r' em).2⟩, ?_, fun x => ?_, fun x hx => ?_⟩
                  · exact (hM.imp fun _ _ x => x.keep k8).put ⟨tp, vo, w2, rfl, .inl (k7 _ _ upd_same), hvo.keep k8, (f2'.keep k0).keep k8⟩
                  · exact (fr.trans (Fr.same st)).trans (fun b o nb z => by rw [upd_ne nb]; exact z)
                  · unfold putM
                    rw [etk]
                    by_cases e : x = y
                    · rw [if_pos e, if_pos (by rw [e]; exact List.mem_append_right _ List.mem_cons_self), e, hsum]
                    · rw [if_neg e, hmm x]
                      by_cases hm : x ∈ (t2.map (·.1)).take i
                      · rw [if_pos hm, if_pos (List.mem_append_left _ hm)]
                      · rw [if_neg hm, if_neg (fun z => (List.mem_append.mp z).elim hm fun w => e (List.mem_singleton.mp w))]
                  · rw [etk] at hx
                    rcases List.mem_append.mp hx with z | z
                    · exact hfit x z
                    · rw [List.mem_singleton.mp z]
                      intro r r2 e1 e2
                      rw [em] at e2
                      cases e2
                      exact hfy r e1
                refine ⟨.ref e1, rfl, e1, rfl, d1, .str y, rfl, .ref e2, rfl, .str y, rfl, e2, _, rfl, g2, valV t y, g1, ?_⟩
                have lD : (kT tt).length < sizeLine := small_lt (by rw [len_kT]; have := hMO.len; omega)
                rcases hH y with ⟨a1, a2⟩ | ⟨v0, r0, a1, a2, q0, v1, v2, rfl, t1, x1, x2⟩
                · rw [a1]
                  refine ⟨q2, _, 0, w1, rfl, rfl, (t2t.keep k0).sq, rfl, ?_⟩
                  refine ⟨.ref e2, rfl, .str y, rfl, e2, _, rfl, g2, q2, _, 1, w2, rfl, rfl, (t2t.keep k0).sq, rfl, (by show 2 ≤ sizeLine; decide), fun tp ntp => ?_⟩
                  exact ⟨.ref D, rfl, .str y, rfl, D, _, rfl, DPut.k (k := .inr y) ((same_new ntp) _ _ hDD) lD, fin w1 r'.1 (f1'.keep k0) (kO.good y r' em).1 (by unfold sumM; rw [a2, em]) tp ntp⟩
                · rw [a1]
                  refine ⟨q0, _, 0, v1, rfl, rfl, (t1.keep k0).sq, rfl, ?_⟩
                  refine ⟨.ref e2, rfl, .str y, rfl, e2, _, rfl, g2, q2, _, 1, w2, rfl, rfl, (t2t.keep k0).sq, rfl, (by show 2 ≤ sizeLine; decide), fun tp ntp => ?_⟩
                  exact ⟨.ref D, rfl, .str y, rfl, D, _, rfl, DPut.k (k := .inr y) ((same_new ntp) _ _ hDD) lD, fin v1 r0.1 (x1.keep k0) (hO.good y r0 a2).1 (by unfold sumM; rw [a2, em]) tp ntp⟩
        · obtain ⟨tt, mm, z, rfl, hDD, hM, hMO, fr, hmm, hfit⟩ := I
          rw [List.length_map] at hMO hmm hfit
          rw [List.take_of_length_le (by rw [List.length_map]; exact Nat.le_refl _)] at hmm hfit
          have kU : TupKeep H' (upd H' e2 (.dK (kT t2))) := TupKeep.at fun xs z => by rw [fr _ _ nD2.symm h2L] at z; cases z
          have ft : fitsM m m' := fun x r r' e1 e2 => hfit x (kH.mem.mpr (by rw [e2]; rfl)) r r' e1 e2
          have emm : mm = sumM m m' := by
            funext x
            rw [hmm x]
            by_cases hx : x ∈ t2.map (·.1)
            · rw [if_pos hx]
            · rw [if_neg hx]
              have e2 : m' x = none := by
                cases e : m' x with
                | none => rfl
                | some r => exact absurd (kH.mem.mpr (by rw [e]; rfl)) hx
              unfold sumM
              rw [e2]
              cases m x <;> rfl
          refine ⟨fr _ _ nD2.symm h2L, _, rfl, q (.ref D) _ (sU fr) ?_⟩
          show OptRows K _ (.ref D) _ (sumO (some m) (some m'))
          rw [sumO_fit ft, ← emm]
          exact ⟨D, rfl, tt, by rw [upd_ne nD2]; exact hDD, hM.imp fun _ _ x => x.keep kU, hMO.mono (by rw [List.length_map]; omega)⟩
end

end Fk

set_option maxHeartbeats 4000000
namespace Fk
open PySem PySem.Spec PyProof.Rows L2
theorem pe_ownAddK {X : Cx} {K : PySem.W.Frag} {CX : CXT} {k : Nat} {C : Addr} {sp : Sp} {E : L2.St → XK} {a b : Expr} {ta tb : TE} {pos : Pos} (e : X.K = K) (M : OwnM X.prog X.w K X.mg X.base CX k C "__add__" sp) (T : AddF K C) (hr : Room k X.A) (hx : ∀ σ, PassesAt CX X σ (E σ)) (ha : PE X a ta) (hb : PE X b tb) :
    PE X (.BinOp a .Add b pos) (tOwnAdd K C sp E ta tb) := by
  subst e
  exact pe_ownAdd M T hr hx ha hb
/-- a change or None -/
def OptCh (K : PySem.W.Frag) (C : Addr) (H : Hp) (v : V) (n : Nat) : Option (Mp Rw) → Prop
  | none => v = .non
  | some m => ∃ a dx d, v = .ref a ∧ ChAt K C H a dx d n m
theorem OptCh.same {K : PySem.W.Frag} {C : Addr} {H H' : Hp} {v : V} {n : Nat} {o : Option (Mp Rw)} (h : OptCh K C H v n o) (s : Same H H') : OptCh K C H' v n o := by
  cases o with
  | none => exact h
  | some m =>
    obtain ⟨a, dx, d, e, k⟩ := h
    exact ⟨a, dx, d, e, k.same s⟩
section
variable {P : Program} {w : World} {K : PySem.W.Frag} {mg : Str → Option Value} {base : Heap} {C fk cE iF : Addr}
def spAddedL (K : PySem.W.Frag) (C : Addr) : Sp := fun vs H Q _ => ∃ (v u : V) (n n' : Nat) (a b : Option (Mp Rw)), vs = [v, u] ∧ OptCh K C H v n a ∧ OptCh K C H u n' b ∧ n + n' + n ≤ 60 ∧ ∀ r H', Same H H' → OptCh K C H' r (n + n' + n) (sumO a b) → Q r H'
theorem c_l_added (T : TopC K mg C fk cE iF) : C8.Cal P w K mg base 10 "_law_added" (spAddedL K C) [] := by
  refine cal_of T.d_l_added sc_l_added (fun _ _ _ _ _ _ us hl => match us, hl with | [_, _], _ => rfl) (fun vs H Q E h => ?_) (fun f cdv A outer s H vs Q E hr h => ?_)
  · obtain ⟨v, u, n, n', a, b, rfl, _⟩ := h
    rfl
  · obtain ⟨v, u, n, n', a, b, rfl, hv, hu, hn, q⟩ := h
    refine' ⟨_, (pss_cons (ps_if (PW.pt (pw_or (pt_cmpR op_isN (pv 0) pe_non (nomark _)) (pw_or1 (pt_cmpR op_isN (pv 1) pe_non (nomark _)))))
      (pss_one (ps_ret pe_non))
      pss_nil)
      (pss_one (ps_tryA rfl rfl takes_none5 (fun W pn xe tk _ => ?B0) (HdA.cons ⟨rfl, by decide, .inl T.eC.mgc⟩ (fun a oe cls d pn hz hf =>
      (pss_one (ps_ret pe_non))) HdA.nil)))), ?main⟩
    case B0 => exact (pss_one (ps_ret (pe_ownAddK (K := K) rfl (ownX_of (mx_Change_add T)) T.addF (hr.mono (by decide)) (fun σ => passAt tk σ) (pv 0) (pv 1))))
    refine ⟨v, rfl, rfl, _, rfl, ?_⟩
    cases a with
    | none =>
      obtain rfl : v = .non := hv
      exact iteT (q .non H (Same.refl H) (by show OptCh K C H .non _ none; exact rfl))
    | some m =>
      obtain ⟨a, dx, d, rfl, hA⟩ := hv
      rw [decide_eq_false (fun z => by cases z)]
      refine iteF ?_
      refine ⟨u, rfl, rfl, _, rfl, ?_⟩
      cases b with
      | none =>
        obtain rfl : u = .non := hu
        exact iteT (q .non H (Same.refl H) (by show OptCh K C H .non _ none; exact rfl))
      | some m' =>
        obtain ⟨b, dx', d', rfl, hB⟩ := hu
        rw [decide_eq_false (fun z => by cases z)]
        refine iteF ?_
        refine ⟨.ref a, rfl, .ref b, rfl, a, dx, _, rfl, hA.1, .ins hB.1, a, dx, d, n, m, .ref b, rfl, hA, .inl ⟨b, dx', d', n', m', rfl, hB, hn, ?_⟩⟩
        have := Classical.propDecidable (fitsM m m')
        by_cases ft : fitsM m m'
        · refine .inl ⟨ft, fun c dx3 d3 H' hc hd3 s' k' => ⟨c, rfl, ?_⟩⟩
          refine q (.ref c) H' s' ?_
          rw [sumO_fit ft]
          exact ⟨c, dx3, d3, rfl, k'⟩
        · refine .inr ⟨ft, ?_⟩
          exact fun dd y H' s' h' => ⟨true, T.exC, fun _ a na => q .non H' s' (by rw [sumO_not ft]; rfl), fun z => Bool.noConfusion z⟩
end

end Fk

set_option maxHeartbeats 4000000
/-! Lists of pairs (key, value) with values that are new; a dict of them; tables as lists of pairs. -/
namespace Fk
open PySem PySem.Spec PyProof.Rows L2
theorem paired_snoc' {α β : Type} {R : α → β → Prop} {e : α} {u : β} (h : R e u) : ∀ {l : List α} {us : List β}, Paired R l us → Paired R (l ++ [e]) (us ++ [u])
  | _, _, .nil => .cons h .nil
  | _, _, .cons a r => .cons a (paired_snoc' h r)
section
variable {α β : Type} {J : It} {us : List α} {val : α → V} {G : Hp → Prop} {H1 : Hp} {D : Addr} {σ : L2.St} {vs : List Nat} {g : TG} {tt : TT} {te : TE} {Q : Hp → Prop}
/-- a list of new pairs -/
theorem lc_pairs (Y : Yields J (us.map val) G) (kf : α → Str) (R : Hp → V → β → Prop) (rf : α → β) (p : α → Bool) (σf : α → L2.St) (hD1 : H1 D = none) (hG : ∀ H, Same H1 H → G H) (hw : ∀ u ∈ us, wipe (σf u) vs = wipe σ vs)
    (hg : ∀ H u, Same H1 H → u ∈ us → ∀ (S : L2.St → Hp → Prop), S (σf u) H → g (val u) (wipe σ vs) H S)
    (ht : ∀ H u, Same H1 H → u ∈ us → ∀ (S : Bool → Hp → Prop), (∀ H3, Same H H3 → S (p u) H3) → tt (σf u) H S)
    (mono : ∀ H H' v r, TupKeep H H' → R H v r → R H' v r)
    (he : ∀ H u, Same H1 H → u ∈ us → p u = true → ∀ (S : VK), (∀ a v H3, Same H H3 → H3 a = some (.tup [.str (kf u), v]) → R H3 v (rf u) → S (.ref a) H3) → te (σf u) H S)
    (hl : us.length ≤ 1000000) (hd : ∀ as H, Same H1 H → H D = some (.lst (as.map V.ref)) → Paired (fun (a : Addr) u => ∃ v, H a = some (.tup [.str (kf u), v]) ∧ R H v (rf u)) as (us.filter p) → Q H) :
    ∃ W : Nat → Nat → Hp → Prop, (∃ m, W 0 m (upd H1 D (.lst []))) ∧ ∀ k m H, W k m H →
      (J.stop k H ∧ Q H) ∨ (J.go k H ∧ ∃ Nx : Hp → Prop, (∀ H', Nx H' → ∃ m', m' < m ∧ W (k + 1) m' H') ∧ ∀ x H', J.yld k H x H' → g x (wipe σ vs) H' fun σ2 H2 => wipe σ2 vs = wipe σ vs ∧ tt σ2 H2 fun b H3 =>
        if b = true then te σ2 H3 fun y H4 => ∃ acc, H4 D = some (.lst acc) ∧ acc.length < sizeLine ∧ Nx (upd H4 D (.lst (acc ++ [y]))) else Nx H3) := by
  refine lcG Y (fun k acc H => Same H1 H ∧ ∃ as : List Addr, acc = as.map V.ref ∧ Paired (fun (a : Addr) u => ∃ v, H a = some (.tup [.str (kf u), v]) ∧ R H v (rf u)) as ((us.take k).filter p)) (fun k acc H h _ => hG H h.1) ⟨same_new hD1, [], rfl, .nil⟩ (fun k acc H x hI hD hx hacc hk => ?_) (by rw [List.length_map]; exact hl) (fun acc H hI hD _ => ?_)
  · obtain ⟨sm, as, ea, pr⟩ := hI
    rw [List.getElem?_map] at hx
    cases hu : us[k]? with
    | none => rw [hu] at hx; cases hx
    | some u =>
      rw [hu] at hx
      cases hx
      have hm : u ∈ us := List.mem_of_getElem? hu
      have et : us.take (k + 1) = us.take k ++ [u] := by
        rw [List.take_add_one, hu]
        rfl
      refine hg H u sm hm _ ⟨hw u hm, ht H u sm hm _ fun H3 s3 => ?_⟩
      by_cases hp : p u = true
      · rw [if_pos hp]
        refine he H3 u (sm.trans s3) hm hp _ fun a v H4 s4 h4 rv => ?_
        have hD4 := s4 _ _ (s3 _ _ hD)
        have kp : TupKeep H4 (upd H4 D (.lst (acc ++ [V.ref a]))) := TupKeep.at fun xs z => by rw [hD4] at z; cases z
        have k2 := (TupKeep.of (s3.trans s4)).trans kp
        refine lc_take hD4 hacc hk ⟨same_mut ((sm.trans s3).trans s4) hD1, as ++ [a], by rw [ea, List.map_append]; rfl, ?_⟩
        rw [et, List.filter_append, List.filter_cons, hp]
        exact paired_snoc' ⟨v, kp _ _ h4, mono _ _ _ _ kp rv⟩ (Paired.mapP pr fun e w ⟨z, a, b⟩ => ⟨z, k2 _ _ a, mono _ _ _ _ k2 b⟩)
      · rw [if_neg hp]
        refine lc_skip (s3 _ _ hD) hacc ⟨sm.trans s3, as, ea, ?_⟩
        rw [et, List.filter_append, List.filter_cons, if_neg hp]
        simp only [List.filter_nil, List.append_nil]
        exact Paired.mapP pr fun e w ⟨z, a, b⟩ => ⟨z, TupKeep.of s3 _ _ a, mono _ _ _ _ (TupKeep.of s3) b⟩
  · obtain ⟨sm, as, ea, pr⟩ := hI
    rw [List.length_map, List.take_length] at pr
    rw [ea] at hD
    exact hd as H sm hD pr
end
theorem mergeK_nd (t u : Tab) (nd : Nd u) (dis : ∀ x ∈ u.map (·.1), x ∉ t.map (·.1)) : mergeK (kT t) (kT u) = kT (t ++ u) := by
  induction u generalizing t with
  | nil => rw [List.append_nil]; rfl
  | cons p l ih =>
    obtain ⟨h1, h2⟩ := List.nodup_cons.mp (show ((p :: l).map (·.1)).Nodup from nd)
    have new : valV t p.1 = none := by
      cases c : valV t p.1 with
      | none => rfl
      | some w => exact absurd (valV_in c) (dis p.1 (by rw [List.map_cons]; exact List.mem_cons_self))
    show mergeK (putK (kT t) (.inr p.1) p.2) (kT l) = _
    rw [putK_kT, putK_new _ new, ih (t ++ [(p.1, p.2)]) h2 (fun x hx z => ?_), List.append_assoc]
    · rfl
    · rw [List.map_append] at z
      rcases List.mem_append.mp z with z | z
      · exact dis x (by rw [List.map_cons]; exact List.mem_cons_of_mem _ hx) z
      · rw [List.map_cons, List.map_nil] at z
        rw [List.mem_singleton.mp z] at hx
        exact h1 hx
/-- the dict of a list of pairs, as a table -/
theorem pairs_tab {α β : Type} {K : PySem.W.Frag} {H : Hp} {kf : α → Str} {R : V → β → Prop} {rf : α → β} : ∀ {as : List Addr} {us : List α}, Paired (fun (a : Addr) u => ∃ v, H a = some (.tup [.str (kf u), v]) ∧ R v (rf u)) as us →
    ∃ tab : Tab, Paired (fun p kv => SqT K H p [kV kv.1, kv.2]) as (kT tab) ∧ Paired (fun e u => e.1 = kf u ∧ R e.2 (rf u)) tab us
  | _, _, .nil => ⟨[], .nil, .nil⟩
  | _, _, .cons (b := u) ⟨v, h1, h2⟩ r => by
    obtain ⟨tab, p1, p2⟩ := pairs_tab r
    exact ⟨(kf u, v) :: tab, .cons (.inl (.inl h1)) p1, .cons ⟨rfl, h2⟩ p2⟩
/-! ### tables as lists of pairs -/
def pairsD {α : Type} (dat : α → PyData) (ys : List Str) (f : Mp α) : PyData := .list (ys.map fun y => .tuple [.str y, ((f y).map dat).getD .none])
theorem eqvAll_refl : ∀ {ds : List PyData}, (∀ d ∈ ds, PyData.eqv d d = true) → PyData.eqvAll ds ds = true
  | [], _ => rfl
  | d :: r, h => by
    simp only [PyData.eqvAll, h d List.mem_cons_self, eqvAll_refl fun z hz => h z (List.mem_cons_of_mem _ hz), Bool.and_self]
theorem eqv_pairs {α : Type} {dat : α → PyData} (inj : ∀ a, PyData.eqv (dat a) (dat a) = true) (ys : List Str) (f : Mp α) : PyData.eqv (pairsD dat ys f) (pairsD dat ys f) = true := by
  unfold pairsD
  simp only [PyData.eqv]
  refine eqvAll_refl fun d hd => ?_
  obtain ⟨y, _, rfl⟩ := List.mem_map.mp hd
  have e : PyData.eqv (((f y).map dat).getD .none) (((f y).map dat).getD .none) = true := by
    cases f y with
    | none => rfl
    | some r => exact inj r
  simp only [PyData.eqv, PyData.eqvAll, e, beq_self_eq_true, Bool.and_self]
theorem layAll_of : ∀ {ds : List PyData}, (∀ d ∈ ds, PyData.canLay0 d = true) → PyData.canLayAll0 ds = true
  | [], _ => rfl
  | d :: r, h => by simp only [PyData.canLayAll0, h d List.mem_cons_self, layAll_of fun z hz => h z (List.mem_cons_of_mem _ hz), Bool.and_self]
theorem depthAll_le {n : Nat} : ∀ {ds : List PyData}, (∀ d ∈ ds, PyData.depth d ≤ n) → PyData.depthAll ds ≤ n
  | [], _ => by simp [PyData.depthAll]
  | d :: r, h => by
    simp only [PyData.depthAll]
    exact Nat.max_le.mpr ⟨h d List.mem_cons_self, depthAll_le fun z hz => h z (List.mem_cons_of_mem _ hz)⟩
theorem depth_rw (r : Rw) : PyData.depth (rwD r) ≤ 2 := by
  have d1 := depth_fv r.1
  have d2 := depth_fv r.2
  show PyData.depthAll [fvD r.1, fvD r.2] + 1 ≤ 2
  simp only [PyData.depthAll]
  omega
theorem lay_rw {r : Rw} (h : GoodR r) : PyData.canLay0 (rwD r) = true := by
  unfold rwD
  simp only [PyData.canLay0, PyData.canLayAll0, lay_fv h.1, lay_fv h.2, Bool.and_self]
theorem shaped_pairs {ys : List Str} {f : Mp Rw} (hk : ∀ y ∈ ys, OkS y) (hg : ∀ x r, f x = some r → GoodR r) : SeqAt.shaped (pairsD rwD ys f) = true := by
  unfold SeqAt.shaped pairsD
  have one : ∀ y ∈ ys, PyData.canLay0 (.tuple [.str y, ((f y).map rwD).getD .none]) = true ∧ PyData.depth (.tuple [.str y, ((f y).map rwD).getD .none]) ≤ 3 := fun y hy => by
    cases e : f y with
    | none =>
      refine ⟨?_, ?_⟩
      · show PyData.canLay0 (.tuple [.str y, .none]) = true
        simp only [PyData.canLay0, PyData.canLayAll0, strOk_of (hk y hy), Bool.and_self]
      · show PyData.depthAll [.str y, .none] + 1 ≤ 3
        simp [PyData.depthAll, PyData.depth]
    | some r =>
      refine ⟨?_, ?_⟩
      · show PyData.canLay0 (.tuple [.str y, rwD r]) = true
        simp only [PyData.canLay0, PyData.canLayAll0, strOk_of (hk y hy), lay_rw (hg y r e), Bool.and_self]
      · show PyData.depthAll [.str y, rwD r] + 1 ≤ 3
        have := depth_rw r
        simp only [PyData.depthAll, PyData.depth]
        omega
  have c : PyData.canLay0 (.list (ys.map fun y => .tuple [.str y, ((f y).map rwD).getD .none])) = true := by
    simp only [PyData.canLay0]
    exact layAll_of fun d hd => by
      obtain ⟨y, hy, rfl⟩ := List.mem_map.mp hd
      exact (one y hy).1
  rw [c, Bool.true_and]
  refine decide_eq_true ?_
  show PyData.depthAll (ys.map fun y => .tuple [.str y, ((f y).map rwD).getD .none]) + 1 ≤ 64
  have : PyData.depthAll (ys.map fun y => .tuple [.str y, ((f y).map rwD).getD .none]) ≤ 3 := depthAll_le fun d hd => by
    obtain ⟨y, hy, rfl⟩ := List.mem_map.mp hd
    exact (one y hy).2
  omega
/-- addresses of pairs with known rows, as data -/
theorem dp_pairs {K : PySem.W.Frag} {H : Hp} {p : Addr} {f : Mp Rw} : ∀ {as : List Addr} {ys : List Str}, Paired (fun (a : Addr) y => ∃ v r, H a = some (.tup [.str y, v]) ∧ f y = some r ∧ RwV K H v r) as ys → DpAll K H (as.map V.ref) (ys.map fun y => .tuple [.str y, ((f y).map rwD).getD .none])
  | _, _, .nil => .nil
  | _, _, .cons (b := y) ⟨v, r, h1, h2, h3⟩ l => by
    refine .cons (.tup (.inl (.inl h1)) (.cons (.str y) (.cons ?_ .nil))) (dp_pairs (p := p) l)
    rw [h2]
    exact h3.dp
end Fk

set_option maxHeartbeats 4000000
namespace Fk
open PySem PySem.Spec PyProof.Rows L2
theorem dp_tups {K : PySem.W.Frag} {H : Hp} {f : Mp Rw} {vf : Str → V} : ∀ {as : List Addr} {ys : List Str}, Tups H as (ys.map fun y => [.str y, vf y]) → (∀ y ∈ ys, ∃ r, f y = some r ∧ RwV K H (vf y) r) → DpAll K H (as.map V.ref) (ys.map fun y => .tuple [.str y, ((f y).map rwD).getD .none])
  | [], [], _, _ => .nil
  | a :: as, [], t, _ => by cases t.1
  | [], y :: ys, t, _ => by cases t.1
  | a :: as, y :: ys, t, h => by
    obtain ⟨r, e1, e2⟩ := h y List.mem_cons_self
    have h0 : H a = some (.tup [.str y, vf y]) := t.2 0 _ _ rfl rfl
    refine .cons (.tup (.inl (.inl h0)) (.cons (.str y) (.cons ?_ .nil))) (dp_tups (vf := vf) ⟨Nat.succ.inj t.1, fun i b l hb hl => t.2 (i + 1) b l (by rw [List.getElem?_cons_succ]; exact hb) (by rw [List.map_cons, List.getElem?_cons_succ]; exact hl)⟩ fun z hz => h z (List.mem_cons_of_mem _ hz))
    rw [e1]
    exact e2.dp
/-- the items of a table of rows, in its order -/
theorem dp_items {K : PySem.W.Frag} {H : Hp} {f : Mp Rw} : ∀ {ts : List Addr} {t : Tab}, Paired (fun (a : Addr) (q : Key × V) => H a = some (.tup [kV q.1, q.2])) ts (kT t) → (∀ p ∈ t, ∃ r, f p.1 = some r ∧ RwV K H p.2 r) → DpAll K H (ts.map V.ref) ((t.map (·.1)).map fun y => .tuple [.str y, ((f y).map rwD).getD .none])
  | _, [], .nil, _ => .nil
  | _, p :: t, .cons h r, hh => by
    obtain ⟨x, e1, e2⟩ := hh p List.mem_cons_self
    refine .cons (.tup (.inl (.inl h)) (.cons (.str p.1) (.cons ?_ .nil))) (dp_items r fun z hz => hh z (List.mem_cons_of_mem _ hz))
    rw [e1]
    exact e2.dp
theorem same_keys {R R' : V → Rw → Prop} {t u : Tab} {f : Mp Rw} (h : Holds R t f) (k : Holds R' u f) (nt : Nd t) (nu : Nd u) : (t.map (·.1)).Perm (u.map (·.1)) :=
  (List.perm_ext_iff_of_nodup nt nu).mpr fun x => by rw [h.mem, k.mem]
section
variable {P : Program} {w : World} {K : PySem.W.Frag} {mg : Str → Option Value} {base : Heap} {C fk cE iF : Addr}
/-- what is told of rows and of a change that has them -/
def spIsL (K : PySem.W.Frag) (C : Addr) : Sp := fun vs H Q _ => ∃ (v u : V) (n n' : Nat) (o : Option (Mp Rw)), vs = [v, u] ∧ OptCh K C H v n o ∧ OptRows K H u n' o ∧ n ≤ 60 ∧ n' ≤ 60 ∧ ∀ H', Same H H' → Q (.bl true) H'
theorem c_l_is (T : TopC K mg C fk cE iF) : C8.Cal P w K mg base 8 "_law_is" (spIsL K C) [] := by
  refine cal_of T.d_l_is sc_l_is (fun _ _ _ _ _ _ us hl => match us, hl with | [_, _], _ => rfl) (fun vs H Q E h => ?_) (fun f cdv A outer s H vs Q E hr h => ?_)
  · obtain ⟨v, u, n, n', o, rfl, _⟩ := h
    rfl
  · obtain ⟨v, u, n, n', o, rfl, hv, hu, hn, hn', q⟩ := h
    refine ⟨_, (pss_cons (ps_if (PW.pt (pw_or (pt_cmpR op_isN (pv 0) pe_non (nomark _)) (pw_or1 (pt_cmpR op_isN (pv 1) pe_non (nomark _)))))
      (pss_one (ps_ret (pe_and (pe_cmpR op_isN (pv 0) pe_non (nomark _)) (pe_one (pe_cmpR op_isN (pv 1) pe_non (nomark _))))))
      pss_nil)
      (pss_cons (ps_setLc (i := 2) (own := [("_law_path", 3)]) (g := gName 3) (by rfl) sc_l_is.nd rfl rfl (sw_true rfl rfl rfl (by decide +kernel)) (pi_list (pe_callB (call_sortedD (by rfl)) (by rfl) T.z_sorted (by decide +kernel) (pa_cons (pv 1) pa_nil))) (blkOk_by (own := [("_law_path", 3)]) (N := ["_law_change", "_law_rows_here", "_law_wanted", "_law_path", "_law_told"]) (sc := C8.fnScope s_l_is) (by decide +kernel)) (fun _ _ _ _ _ => (pg_name (i := 3) sc_l_is.nd rfl (Or.inl rfl))) (fun _ _ _ _ _ => pts_nil) (fun _ _ _ _ _ => (pe_tup (pa_cons (pv 3) (pa_cons (pe_dget (hu_of hr) (pv 1) (pv 3) (fun _ _ => rfl)) pa_nil)))))
      (pss_cons (ps_if (PW.pt (pw_or (pt_not (pt_val (pe_callB call_isi (by rfl) T.z_isinstance (by decide +kernel) (pa_cons (pv 0) (pa_cons (C8.pe_gc (by rfl) T.g_Change) pa_nil))))) (pw_or1 (pt_cmpR (op_neD hr.units) (LiI.pe_listItems rfl (pe_pr (p_Change_rows T) hr (by decide) (pv 0)) (by rfl) T.z_list (by decide +kernel)) (pv 2) (nomark _)))))
      (pss_one (ps_ret pe_bl))
      pss_nil)
      (pss_cons (ps_set (i := 4) sc_l_is.nd rfl (Or.inl rfl) (pe_pr (p_Change_rows T) hr (by decide) (pv 0)))
      (pss_cons (ps_dput (hu_of hr) (pv 4) pe_str (pe_tup (pa_cons pe_non (pa_cons pe_non pa_nil))) rfl)
      (pss_cons (ps_expr (pe_dpop1 (pv 4) (pe_ix ix_list (pe_callB (call_sortedD (by rfl)) (by rfl) T.z_sorted (by decide +kernel) (pa_cons (pv 4) pa_nil)) pe_int (fun _ _ => rfl)) ⟨rfl, rfl, rfl, rfl⟩))
      (pss_one (ps_ret (pe_and (pe_cmpR (op_eqDD (room66 hr)) (pe_pr (p_Change_rows T) hr (by decide) (pv 0)) (pv 1) (nomark _)) (pe_one (pe_cmpR (op_ownEq (ownM_of (m_Change_eq T)) (hr.mono (by decide)) noEx0) (pv 0) (C8.pe_mk (k_Change T) hr (by decide) (by rfl) (pa_cons (pv 1) pa_nil)) (nomark _)))))))))))), ?_⟩
    refine ⟨v, rfl, rfl, _, rfl, ?_⟩
    cases o with
    | none =>
      obtain rfl : v = .non := hv
      obtain rfl : u = .non := hu
      refine iteT ?_
      exact ⟨.non, rfl, rfl, _, rfl, iteT ⟨.non, rfl, rfl, q H (Same.refl H)⟩⟩
    | some m =>
      obtain ⟨a, dx, d, rfl, hA⟩ := hv
      obtain ⟨e, rfl, t, he, hH, hO⟩ := hu
      rw [decide_eq_false (fun z => by cases z)]
      refine iteF ?_
      refine ⟨.ref e, rfl, rfl, _, rfl, ?_⟩
      rw [decide_eq_false (fun z => by cases z)]
      refine iteF ?_
      refine ⟨.ref e, rfl, e, kT t, t.map (·.1), rfl, .inl he, keys_kT t, (by rw [List.length_map]; have := hO.len; omega), fun ys p hp hs np => ⟨p, rfl, ⟨_, SqL.of upd_same⟩, fun D hD => ?_⟩⟩
      have s1 := same_new (o := .lst (ys.map V.str)) np
      have hp1 : (upd H p (.lst (ys.map V.str))) p = some (.lst (ys.map V.str)) := upd_same
      generalize upd H p (.lst (ys.map V.str)) = H1 at s1 hp1 hD
      have lys : ys.length ≤ n' := by rw [hp.length_eq, List.length_map]; exact hO.len
      have ron : ∀ y ∈ ys, ∃ r v, m y = some r ∧ valV t y = some v ∧ RwV K H v r := fun y hy => by
        have z := hH.mem.mp (hp.mem_iff.mp hy)
        cases e1 : m y with
        | none => rw [e1] at z; cases z
        | some r =>
          obtain ⟨v, hv, rv⟩ := hH.at e1
          exact ⟨r, v, rfl, hv, rv⟩
      refine lc_new (us := ys) (val := V.str) yields_list (fun y => [.str y, (valV t y).getD .non]) (fun _ => true) (fun y => [some (.ref a), some (.ref e), none, some (.str y), none]) hD (fun H s => SqL.of (s _ _ hp1)) (fun _ _ => rfl) (fun H u _ _ R r => r) (fun H u _ _ R r => r H (Same.refl H)) (fun H2 y s2 hy _ R r => ?_) (by omega) (fun as H2 s2 h2 tp => ?_)
      · obtain ⟨r0, v0, e1, e2, e3⟩ := ron y hy
        have g1 := dget_kT (.inl (s2 _ _ (s1 _ _ he))) y
        rw [e2] at g1 r
        exact ⟨.str y, rfl, .ref e, rfl, .str y, rfl, e, _, rfl, g1, (by show 2 ≤ sizeLine; decide), fun tp ntp => r tp _ (same_new ntp) upd_same⟩
      · rw [filt_all] at tp
        have s02 := s1.trans s2
        have dW : Dp K H2 (.ref D) (pairsD rwD ys m) := .lst (SqL.of h2) (dp_tups (vf := fun y => (valV t y).getD .non) tp fun y hy => by
          obtain ⟨r, v, e1, e2, e3⟩ := ron y hy
          refine ⟨r, e1, ?_⟩
          rw [e2]
          exact e3.keep (TupKeep.of s02))
        refine ⟨_, rfl, ?_⟩
        have hA2 := hA.same s02
        dsimp only [tCons, tC, tNil]
        refine T.isC hA2.1 ⟨_, rfl, iteF ?_⟩
        refine ⟨.ref a, rfl, a, dx, _, rfl, hA2.1, a, dx, d, n, m, rfl, hA2, fun p3 H3 t3 np3 s3 hp3 hH3 hO3 hs3 => ?_⟩
        refine ⟨p3, kT t3, rfl, hp3, fun H4 p4 ts s4 np4 nts nin h4 pr => ?_⟩
        have s24 : Same H2 H4 := s3.trans s4
        have s04 := s02.trans s24
        have ek : t3.map (·.1) = ys := sort_uniq hs3 hs ((same_keys hH3 hH hO3.nd hO.nd).trans hp.symm)
        have dI : Dp K H4 (.ref p4) (pairsD rwD ys m) := by
          rw [← ek]
          exact .lst (SqL.of h4) (dp_items pr fun q hq => by
            obtain ⟨r, e1, e2⟩ := hH3.at' (val_memE hO3.nd hq)
            exact ⟨r, e1, e2.keep (TupKeep.of s4)⟩)
        have dW4 : Dp K H4 (.ref D) (pairsD rwD ys m) := .lst (SqL.of (s24 _ _ h2)) (dp_tups (vf := fun y => (valV t y).getD .non) (tp.keep (TupKeep.of s24)) fun y hy => by
          obtain ⟨r, v, e1, e2, e3⟩ := ron y hy
          refine ⟨r, e1, ?_⟩
          rw [e2]
          exact e3.keep (TupKeep.of s04))
        have shp : SeqAt.shaped (pairsD rwD ys m) = true := shaped_pairs (fun y hy => (hO.path y (hp.mem_iff.mp hy)).2.2) hO.good
        refine ⟨.ref D, rfl, _, _, dI, dW4, shp, shp, _, rfl, ?_⟩
        rw [eqv_pairs (fun r => by rw [eqv_rw, decide_eq_true rfl])]
        refine iteF ?_
        have hA4 := hA.same s04
        refine ⟨.ref a, rfl, a, dx, _, rfl, hA4.1, a, dx, d, n, m, rfl, hA4, fun p5 H5 t5 np5 s5 hp5 hH5 hO5 hs5 => ?_⟩
        have s05 := s04.trans s5
        have f5 : H p5 = none := s04.free np5
        refine ⟨(by show 2 ≤ sizeLine; decide), fun tp6 ntp6 => ?_⟩
        have s6 := same_new (o := .tup [V.non, .non]) ntp6
        have h6 := s6 _ _ hp5
        have l5 : t5.length ≤ n := hO5.len
        refine ⟨.ref p5, rfl, p5, _, rfl, DPut.k (k := .inr "zz") h6 (small_lt (by rw [len_kT]; omega)), ?_⟩
        have s07 := same_mut (o := .dK (putK (kT t5) (.inr "zz") (.ref tp6))) (s05.trans s6) f5
        generalize hH7 : upd (upd H5 tp6 (.tup [V.non, .non])) p5 (.dK (putK (kT t5) (.inr "zz") (.ref tp6))) = H7 at s07
        have h7 : H7 p5 = some (.dK (kT (putK t5 "zz" (.ref tp6)))) := by rw [← hH7, upd_same, putK_kT]
        have l7 : (putK t5 "zz" (.ref tp6)).length ≤ n + 1 := Nat.le_trans (length_putK t5 "zz" _) (by omega)
        refine ⟨.ref p5, rfl, p5, rfl, .inl ⟨_, .inl h7⟩, .ref p5, rfl, p5, _, _, rfl, .inl h7, keys_kT _, (by rw [List.length_map]; omega), fun zs p8 hpz hsz np8 => ?_⟩
        have nz : zs ≠ [] := fun z => by
          have : ("zz" : Str) ∈ zs := hpz.mem_iff.mpr (mem_val.mpr (by rw [val_putK, if_pos rfl]; rfl))
          rw [z] at this
          cases this
        obtain ⟨z0, zr, rfl⟩ := List.exists_cons_of_ne_nil nz
        have s8 := same_new (o := .lst ((z0 :: zr).map V.str)) np8
        obtain ⟨v0, hv0⟩ := Option.isSome_iff_exists.mp (mem_val.mp (hpz.mem_iff.mp List.mem_cons_self))
        have h8 := s8 _ _ h7
        refine ⟨p8, (z0 :: zr).map V.str, 0, .str z0, rfl, rfl, SqL.of upd_same, atI_nat (j := 0) rfl, _, .inr z0, v0, h8, rfl, (by rw [valV_kT]; exact hv0), ?_⟩
        have s09 := same_mut (o := .dK (dropK (kT (putK t5 "zz" (.ref tp6))) (.inr z0))) (s07.trans s8) f5
        generalize upd (upd H7 p8 (.lst ((z0 :: zr).map V.str))) p5 (.dK (dropK (kT (putK t5 "zz" (.ref tp6))) (.inr z0))) = H9 at s09
        have hA9 := hA.same s09
        refine ⟨.ref a, rfl, a, dx, _, rfl, hA9.1, a, dx, d, n, m, rfl, hA9, fun pa Ha ta npa sa hpa hHa hOa hsa => ?_⟩
        have s0a := s09.trans sa
        refine ⟨.ref e, rfl, rows_eq (c := true) hpa (s0a _ _ he) hHa (hH.imp fun _ _ x => x.keep (TupKeep.of s0a)) hOa hO ⟨fun _ => rfl, fun _ => rfl⟩ ⟨_, rfl, iteT ?_⟩⟩
        refine ⟨.ref a, rfl, .ref e, rfl, ?_⟩
        dsimp only [tCons, tNil]
        refine do_change (C := C) (Q := fun z H2 => rOwnEq K C (spEqC K C) (.ref a) z H2 Q) (n := n') (m := m) ⟨t, s0a _ _ he, hH.imp fun _ _ x => x.keep (TupKeep.of s0a), hO⟩ hn' fun c dx3 d3 Hb fc fd sb hC => ?_
        have s0b := s0a.trans sb
        have hAb := hA.same s0b
        refine ⟨a, dx, _, .ref C, rfl, hAb.1, .base (.ins hC.1 T.insC.cl T.insC.ha T.insC.hn T.insC.htk T.insC.hm), T.notC, a, dx, d, n, m, .ref c, rfl, hAb, .inl ⟨c, dx3, d3, n', m, rfl, hC, fun cc hcc => ?_⟩⟩
        rw [show cc = true from hcc.mpr rfl]
        exact ⟨_, rfl, q Hb s0b⟩
end

end Fk

set_option maxHeartbeats 4000000
namespace Fk
open PySem PySem.Spec PyProof.Rows L2
theorem forRng {g : TG} {tb rest : TS} {D : Ends} {σ : L2.St} {H : Hp} (n : Nat) (hn : n < 1000) (Pv : Nat → L2.St → Hp → Prop) (h0 : Pv 0 σ H)
    (hs : ∀ (i : Nat) σ H, i < n → Pv i σ H → g (.int (0 + (i : Int))) σ H fun σ2 H2 => tb { D with nx := Pv (i + 1), ct := Pv (i + 1), bk := rest D } σ2 H2) (hd : ∀ σ H, Pv n σ H → rest D σ H) :
    tSeq (tFor (iRng1 (tCons (tC (V.int (n : Int))) tNil)) g tb) rest D σ H := by
  refine ⟨(n : Int), rfl, by omega, by omega, ?_⟩
  refine forG (J := Itr 0 n) (D := { D with nx := rest D }) yields_range Pv h0 (fun _ _ _ _ => trivial) (fun i x σ H hx p => ?_) (fun σ H p => ?_)
  · rw [List.getElem?_map] at hx
    cases hu : (List.range n)[i]? with
    | none => rw [hu] at hx; cases hx
    | some u =>
      rw [hu] at hx
      cases hx
      obtain ⟨h1, h2⟩ := List.getElem?_eq_some_iff.mp hu
      rw [List.length_range] at h1
      rw [List.getElem_range] at h2
      subst h2
      exact hs i σ H h1 p
  · rw [List.length_map, List.length_range] at p
    exact hd σ H p
theorem TyX.sm {K : PySem.W.Frag} {H H' : Hp} {v : V} {t : Value} (e : Same H H') (h : TyX K H v t) : TyX K H' v t := by
  cases h with
  | base b =>
    refine .base ?_
    cases b with
    | non => exact .non
    | bl x => exact .bl x
    | int i => exact .int i
    | str x => exact .str x
    | flt x => exact .flt x
    | lst h => exact .lst (e _ _ h)
    | frz h => exact .frz (e _ _ h)
    | tup h => exact .tup (e _ _ h)
    | dK h => exact .dK (e _ _ h)
    | dT h => exact .dT (e _ _ h)
    | ins h c1 c2 c3 c4 c5 => exact .ins (e _ _ h) c1 c2 c3 c4 c5
  | byt b => exact .byt b
  | set h => exact .set (e _ _ h)
  | kList h c => exact .kList h c
  | kTuple h c => exact .kTuple h c
  | kDict h c => exact .kDict h c
  | fTuple h => exact .fTuple (e _ _ h)
  | fDict h => exact .fDict (e _ _ h)
theorem NotCh.same {K : PySem.W.Frag} {H H' : Hp} {v : V} (h : NotCh K H v) (e : Same H H') : NotCh K H' v := let ⟨t, a, b⟩ := h; ⟨t, a, TyX.sm e b⟩
theorem BadRows.same {K : PySem.W.Frag} {H H' : Hp} {v : V} (h : BadRows K H v) (s : Same H H') : BadRows K H' v := by
  rcases h with ⟨t, a, b⟩ | ⟨e, x, v1, rfl, he, lx, ox, hbad⟩
  · exact .inl ⟨t, a, TyX.sm s b⟩
  · refine .inr ⟨e, x, v1, rfl, s _ _ he, lx, ox, hbad.imp id fun ⟨h1, h2⟩ => ⟨h1, fun H2 k k2 => h2 H2 ((TupKeep.of s).trans k) fun b o n z => k2 b o n (s _ _ z)⟩⟩
section
variable {P : Program} {w : World} {K : PySem.W.Frag} {mg : Str → Option Value} {base : Heap} {C fk cE iF : Addr}
def spRefusedL (K : PySem.W.Frag) : Sp := fun vs H Q _ => ∃ v : V, vs = [v] ∧ BadRows K H v ∧ ∀ H', Same H H' → Q (.bl true) H'
theorem c_l_refused (T : TopC K mg C fk cE iF) : C8.Cal P w K mg base 8 "_law_refused" (spRefusedL K) [] := by
  refine cal_of T.d_l_refused sc_l_refused (fun _ _ _ _ _ _ us hl => match us, hl with | [_], _ => rfl) (fun vs H Q E h => ?_) (fun f cdv A outer s H vs Q E hr h => ?_)
  · obtain ⟨v, rfl, _⟩ := h
    rfl
  · obtain ⟨v, rfl, hv, q⟩ := h
    refine' ⟨_, (pss_cons (ps_tryA rfl rfl takes_none5 (fun W pn xe tk _ => ?B0) (HdA.cons ⟨rfl, by decide, .inl T.eC.mgc⟩ (fun a oe cls d pn hz hf =>
      (pss_one (ps_ret pe_bl))) HdA.nil))
      (pss_one (ps_ret pe_never))), ?main⟩
    case B0 => exact (pss_one (ps_set (i := 1) sc_l_refused.nd rfl (Or.inl rfl) (pe_mkX (E := fun cls d H => ∀ σ, W cls d σ H) (k_ChangeX T) hr (by decide) (by rfl) (passes_call tk fun _ _ σ _ h => h σ) (pa_cons (pv 0) pa_nil))))
    refine ⟨v, rfl, ?_⟩
    dsimp only [tCons, tNil]
    refine fun x dx nx ndx nxd => ⟨x, v, rfl, hv.same fun b q z => by
      rw [upd_ne (ne_of_none z nx), upd_ne (ne_of_none z ndx)]
      exact z, fun dd y H' s' h' => fun σ => ⟨true, T.exC, fun _ a na => q H' (Same.trans (fun b q z => by
      rw [upd_ne (ne_of_none z nx), upd_ne (ne_of_none z ndx)]
      exact z) s'), fun z => Bool.noConfusion z⟩⟩
theorem TopC.right (T : TopC K mg C fk cE iF) {H : Hp} {v : V} (h : NotCh K H v) : RightOf K H C v := by
  obtain ⟨Ty, hT, ty⟩ := h
  obtain ⟨fo, ro, h1, h2, h3⟩ := T.addT Ty hT
  exact .ty ty h1 h2 h3
def spRefusesL (K : PySem.W.Frag) (C : Addr) : Sp := fun vs H Q _ => ∃ (a dx d : Addr) (n : Nat) (m : Mp Rw) (v : V), vs = [.ref a, v] ∧ ChAt K C H a dx d n m ∧ NotCh K H v ∧ ∀ H', Same H H' → Q (.bl true) H'
theorem c_l_refuses (T : TopC K mg C fk cE iF) : C8.Cal P w K mg base 10 "_law_refuses" (spRefusesL K C) [] := by
  refine cal_of T.d_l_refuses sc_l_refuses (fun _ _ _ _ _ _ us hl => match us, hl with | [_, _], _ => rfl) (fun vs H Q E h => ?_) (fun f cdv A outer s H vs Q E hr h => ?_)
  · obtain ⟨a, dx, d, n, m, v, rfl, _⟩ := h
    rfl
  · obtain ⟨a, dx, d, n, m, v, rfl, hA, hv, q⟩ := h
    refine' ⟨_, (pss_cons (ps_for PassesOwn.never rfl (pi_range1 (by rfl) T.z_range (pa_cons pe_int pa_nil)) (pg_name (i := 2) sc_l_refuses.nd rfl (Or.inl rfl))
      (pss_one (ps_tryA rfl rfl takes_none5 (fun W pn xe tk _ => ?B0) (HdA.cons ⟨rfl, by decide, .inl T.eC.mgc⟩ (fun a oe cls d pn hz hf =>
      (pss_one (ps_set (i := 4) sc_l_refuses.nd rfl (Or.inl rfl) pe_bl))) HdA.nil))))
      (pss_one (ps_ret (pv 4)))), ?main⟩
    case B0 => exact (pss_cons (ps_if (pt_cmpR op_eq (pv 2) pe_int (nomark _))
      (pss_one (ps_set (i := 3) sc_l_refuses.nd rfl (Or.inl rfl) (pe_ownAddK (K := K) rfl (ownX_of (mx_Change_add T)) T.addF (hr.mono (by decide)) (fun σ => passAt tk σ) (pv 0) (pv 1))))
      (pss_one (ps_set (i := 3) sc_l_refuses.nd rfl (Or.inl rfl) (pe_mx (m_Change_is_apart T) hr (by decide) (fun _ => passAt tk _) (pv 0) (pa_cons (pv 1) pa_nil)))))
      (pss_one (ps_ret pe_never)))
    refine forRng 2 (by decide) (fun i σ H' => Same H H' ∧ ∃ z1 z2 z3, σ = [some (.ref a), some v, z1, z2, z3] ∧ (0 < i → z3 = some (.bl true))) ⟨Same.refl H, none, none, none, rfl, fun z => absurd z (Nat.lt_irrefl 0)⟩ (fun i σ H' hi I => ?_) (fun σ H' I => ?_)
    · obtain ⟨s1, z1, z2, z3, rfl, _⟩ := I
      have hA1 := hA.same s1
      have hv1 := hv.same s1
      refine ⟨.int (0 + (i : Int)), rfl, rfl, _, rfl, ?_⟩
      by_cases c : (0 + (i : Int)) = 0
      · rw [decide_eq_true (by rw [c])]
        refine iteT ?_
        exact ⟨.ref a, rfl, v, rfl, a, dx, _, rfl, hA1.1, T.right hv1, a, dx, d, n, m, v, rfl, hA1, .inr ⟨hv1, fun dd y H2 s2 h2 => ⟨true, T.exC, fun _ a na => ⟨s1.trans s2, _, _, _, rfl, fun _ => rfl⟩, fun z => Bool.noConfusion z⟩⟩⟩
      · rw [decide_eq_false (fun z => c (by injection z))]
        refine iteF ?_
        exact ⟨.ref a, rfl, a, dx, _, rfl, hA1.1, rfl, v, rfl, a, v, rfl, hv1, fun dd y H2 s2 h2 => ⟨true, T.exC, fun _ a na => ⟨s1.trans s2, _, _, _, rfl, fun _ => rfl⟩, fun z => Bool.noConfusion z⟩⟩
    · obtain ⟨s1, z1, z2, z3, rfl, h3⟩ := I
      rw [h3 (by decide)]
      exact ⟨_, rfl, q H' s1⟩
end

end Fk

set_option maxHeartbeats 4000000
namespace Fk
open PySem PySem.Spec PyProof.Rows L2
theorem pe_backK {X : Cx} {K : PySem.W.Frag} {e st : Expr} {te ts : TE} {p2 pos : Pos} (eK : X.K = K) (he : PE X e te) (hst : PE X st ts) (hp : evalPart (some st) X.env = eval st X.env := by rfl)
    (hsub : ∀ x sl : Addr, ∃ ops, subscripted (.Slice none none (some st) p2) false (.ref x) (.ref sl) = operate ops (getItem (.ref x) (.ref sl)) := by intro x sl; exact ⟨_, by with_unfolding_all rfl⟩) : PE X (.Subscript e (.Slice none none (some st) p2) pos) (tBack K te ts) := by
  subst eK
  exact pe_back he hst hp hsub
def stillM (m : Mp Rw) : Mp Rw := fun x => (m x).map fun r => (r.1, r.1)
theorem sum_neg (m : Mp Rw) : sumM m (negM m) = stillM m := by
  funext x
  unfold sumM negM stillM
  cases m x <;> rfl
theorem sum_still (m : Mp Rw) : sumM (stillM m) m = m := by
  funext x
  unfold sumM stillM
  cases m x <;> rfl
theorem fits_neg (m : Mp Rw) : fitsM m (negM m) := fun x r r' e1 e2 => by
  unfold negM at e2
  rw [e1] at e2
  cases e2
  rfl
theorem fits_still (m : Mp Rw) : fitsM (stillM m) m := fun x r r' e1 e2 => by
  unfold stillM at e1
  rw [e2] at e1
  cases e1
  rfl
/-- the rows that a list of pairs makes -/
theorem rows_pairs {α : Type} {K : PySem.W.Frag} {H : Hp} {kf : α → Str} {rf : α → Rw} {g : Mp Rw} {n : Nat} {as : List Addr} {us : List α} (nd : (us.map kf).Nodup) (hg : ∀ u ∈ us, g (kf u) = some (rf u)) (hn : ∀ x, x ∉ us.map kf → g x = none)
    (pr : Paired (fun (a : Addr) u => ∃ v, H a = some (.tup [.str (kf u), v]) ∧ RwV K H v (rf u)) as us) (path : ∀ u ∈ us, PathOk (kf u)) (good : ∀ u ∈ us, GoodR (rf u)) (len : us.length ≤ n) :
    ∃ tab : Tab, Paired (fun p kv => SqT K H p [kV kv.1, kv.2]) as (kT tab) ∧ ∀ p, H p = none → RowsAt K (upd H p (.dK (mergeK [] (kT tab)))) p n g := by
  obtain ⟨tab, p1, p2⟩ := pairs_tab (K := K) pr
  have ek : tab.map (·.1) = us.map kf := paired_keys (R := fun v u => RwV K H v (rf u)) p2
  have ndt : Nd tab := by unfold Nd; rw [ek]; exact nd
  have jH : Holds (RwV K H) tab g := holds_paired p2 nd hg hn
  have em : mergeK [] (kT tab) = kT tab := mergeK_nd [] tab ndt fun x _ z => nomatch z
  refine ⟨tab, p1, fun p np => ⟨tab, by rw [upd_same, em], jH.imp fun _ _ x => x.keep (TupKeep.of (same_new np)), ndt, ?_, fun x hx => ?_, fun x r e => ?_⟩⟩
  · have := congrArg List.length ek
    rw [List.length_map, List.length_map] at this
    omega
  · rw [ek] at hx
    obtain ⟨u, hu, rfl⟩ := List.mem_map.mp hx
    exact path u hu
  · by_cases hx : x ∈ us.map kf
    · obtain ⟨u, hu, rfl⟩ := List.mem_map.mp hx
      rw [hg u hu] at e
      cases e
      exact good u hu
    · rw [hn x hx] at e
      cases e
section
variable {P : Program} {w : World} {K : PySem.W.Frag} {mg : Str → Option Value} {base : Heap} {C fk cE iF : Addr}
def spOneL (K : PySem.W.Frag) (C : Addr) : Sp := fun vs H Q _ => ∃ (a dx d e : Addr) (n : Nat) (m : Mp Rw), vs = [.ref a, .ref e] ∧ ChAt K C H a dx d n m ∧ RowsAt K H e n m ∧ n ≤ 8 ∧ ∀ H', Same H H' → Q (.bl true) H'
theorem c_l_one_right (T : TopC K mg C fk cE iF) : C8.Cal P w K mg base 10 "_law_one_right" (spOneL K C) [] := by
  refine cal_of T.d_l_one_right sc_l_one_right (fun _ _ _ _ _ _ us hl => match us, hl with | [_, _], _ => rfl) (fun vs H Q E h => ?_) (fun f cdv A outer s H vs Q E hr h => ?_)
  · obtain ⟨a, dx, d, e, n, m, rfl, _⟩ := h
    rfl
  · obtain ⟨a, dx, d, e, n, m, rfl, hA, ⟨t, he, hH, hO⟩, hn, q⟩ := h
    refine ⟨_, (pss_cons (ps_set (i := 2) sc_l_one_right.nd rfl (Or.inl rfl) (pe_callTy (call_dictP rfl) (by rfl) T.z_dict (by decide +kernel) (pa_cons (pe_lock (pe_lc (own := [("_law_path", 3)]) (g := gName 3) (by rfl) sc_l_one_right.nd (pi_keys (pv 1)) (blkOk_by (own := [("_law_path", 3)]) (N := ["_law_change", "_law_rows_here", "_law_back", "_law_path", "_law_plain_rows", "_law_still"]) (sc := C8.fnScope s_l_one_right) (by decide +kernel)) (fun _ _ _ _ _ => (pg_name (i := 3) sc_l_one_right.nd rfl (Or.inl rfl))) (fun _ _ _ _ _ => pts_nil) (fun _ _ _ _ _ => (pe_tup (pa_cons (pv 3) (pa_cons (pe_backK (K := K) rfl (pe_dget (hu_of hr) (pv 1) (pv 3) (fun _ _ => rfl)) (pe_un un_neg pe_int)) pa_nil)))))) pa_nil)))
      (pss_cons (ps_set (i := 4) sc_l_one_right.nd rfl (Or.inl rfl) (pe_callTy (call_dictP rfl) (by rfl) T.z_dict (by decide +kernel) (pa_cons (pe_lock (pe_lc (own := [("_law_path", 3)]) (g := gName 3) (by rfl) sc_l_one_right.nd (pi_keys (pv 1)) (blkOk_by (own := [("_law_path", 3)]) (N := ["_law_change", "_law_rows_here", "_law_back", "_law_path", "_law_plain_rows", "_law_still"]) (sc := C8.fnScope s_l_one_right) (by decide +kernel)) (fun _ _ _ _ _ => (pg_name (i := 3) sc_l_one_right.nd rfl (Or.inl rfl))) (fun _ _ _ _ _ => pts_one (pt_cmpR (op_neFv (K := K) rfl hr.units) (pe_ix (ixK_tup (K := K) rfl) (pe_dget (hu_of hr) (pv 1) (pv 3) (fun _ _ => rfl)) pe_int (fun _ _ => rfl)) (pe_ix (ixK_tup (K := K) rfl) (pe_dget (hu_of hr) (pv 1) (pv 3) (fun _ _ => rfl)) pe_int (fun _ _ => rfl)) (nomark _))) (fun _ _ _ _ _ => (pe_tup (pa_cons (pv 3) (pa_cons (pe_dget (hu_of hr) (pv 1) (pv 3) (fun _ _ => rfl)) pa_nil)))))) pa_nil)))
      (pss_cons (ps_set (i := 5) sc_l_one_right.nd rfl (Or.inl rfl) (pe_callTy (call_dictP rfl) (by rfl) T.z_dict (by decide +kernel) (pa_cons (pe_lock (pe_lc (own := [("_law_path", 3)]) (g := gName 3) (by rfl) sc_l_one_right.nd (pi_keys (pv 1)) (blkOk_by (own := [("_law_path", 3)]) (N := ["_law_change", "_law_rows_here", "_law_back", "_law_path", "_law_plain_rows", "_law_still"]) (sc := C8.fnScope s_l_one_right) (by decide +kernel)) (fun _ _ _ _ _ => (pg_name (i := 3) sc_l_one_right.nd rfl (Or.inl rfl))) (fun _ _ _ _ _ => pts_nil) (fun _ _ _ _ _ => (pe_tup (pa_cons (pv 3) (pa_cons (pe_tup (pa_cons (pe_ix (ixK_tup (K := K) rfl) (pe_dget (hu_of hr) (pv 1) (pv 3) (fun _ _ => rfl)) pe_int (fun _ _ => rfl)) (pa_cons (pe_ix (ixK_tup (K := K) rfl) (pe_dget (hu_of hr) (pv 1) (pv 3) (fun _ _ => rfl)) pe_int (fun _ _ => rfl)) pa_nil))) pa_nil)))))) pa_nil)))
      (pss_cons (ps_if (PW.pt (pw_or (pt_not (pt_val (C8.pe_c (c_l_is T) hr (by decide) (by rfl) (pa_cons (pv 0) (pa_cons (pv 1) pa_nil))))) (pw_or (pt_not (pt_val (C8.pe_c (c_l_is T) hr (by decide) (by rfl) (pa_cons (pe_un (un_ownNeg (ownM_of (m_Change_neg T)) (hr.mono (by decide)) noEx0) (pv 0)) (pa_cons (pv 2) pa_nil))))) (pw_or1 (pt_not (pt_val (C8.pe_c (c_l_is T) hr (by decide) (by rfl) (pa_cons (C8.pe_mt0 (m_Change_plain T) hr (by decide) (pv 0)) (pa_cons (pv 4) pa_nil)))))))))
      (pss_one (ps_ret pe_bl))
      pss_nil)
      (pss_cons (ps_if (PW.pt (pw_or (pt_not (pt_val (C8.pe_c (c_l_is T) hr (by decide) (by rfl) (pa_cons (pe_ownAddK (K := K) rfl (ownX_of (mx_Change_add T)) T.addF (hr.mono (by decide)) (fun σ => passAt takes_none5 σ) (pv 0) (pe_un (un_ownNeg (ownM_of (m_Change_neg T)) (hr.mono (by decide)) noEx0) (pv 0))) (pa_cons (pv 5) pa_nil))))) (pw_or1 (pt_not (pt_val (C8.pe_c (c_l_is T) hr (by decide) (by rfl) (pa_cons (pe_ownAddK (K := K) rfl (ownX_of (mx_Change_add T)) T.addF (hr.mono (by decide)) (fun σ => passAt takes_none5 σ) (pe_ownAddK (K := K) rfl (ownX_of (mx_Change_add T)) T.addF (hr.mono (by decide)) (fun σ => passAt takes_none5 σ) (pv 0) (pe_un (un_ownNeg (ownM_of (m_Change_neg T)) (hr.mono (by decide)) noEx0) (pv 0))) (pv 0)) (pa_cons (pv 1) pa_nil))))))))
      (pss_one (ps_ret pe_bl))
      pss_nil)
      (pss_one (ps_ret (pe_and (pe_cmpR (op_ownNe (ownM_of (m_Change_eq T)) (hr.mono (by decide)) noEx0 T.ne T.insC.hm) (pv 0) (pv 1) (nomark _)) (pe_and (pe_cmpR (op_ownNe (ownM_of (m_Change_eq T)) (hr.mono (by decide)) noEx0 T.ne T.insC.hm) (pv 0) pe_int (nomark _)) (pe_one (pe_cmpR (op_ownEq (ownM_of (m_Change_eq T)) (hr.mono (by decide)) noEx0) (pv 0) (C8.pe_mk (k_Change T) hr (by decide) (by rfl) (pa_cons (pv 1) pa_nil)) (nomark _)))))))))))), ?_⟩
    have lt : t.length ≤ n := hO.len
    have lk : (t.map (·.1)).length ≤ 1000000 := by rw [List.length_map]; omega
    have row : ∀ {H5 : Hp}, TupKeep H H5 → ∀ x ∈ t.map (·.1), ∃ q1 v1 v2 r, m x = some r ∧ valV t x = some (.ref q1) ∧ TupK K H5 q1 [v1, v2] ∧ FvV K H5 v1 r.1 ∧ FvV K H5 v2 r.2 := fun {H5} k5 x hx => by
      have z := hH.mem.mp hx
      cases e1 : m x with
      | none => rw [e1] at z; cases z
      | some r =>
        obtain ⟨v, hv, q1, v1, v2, rfl, t1, f1, f2⟩ := hH.at e1
        exact ⟨q1, v1, v2, r, rfl, hv, t1.keep k5, f1.keep k5, f2.keep k5⟩
    have Y : ∀ od, Yields (Itk e od (kT t)) ((t.map (·.1)).map V.str) (fun H => H e = some (.frz od (.dK (kT t)))) := fun od => by
      rw [← kV_kT]
      exact yields_keys
    have kL : ∀ {H5 : Hp} {od : Obj}, Same H H5 → TupKeep H (upd H5 e (.frz od (.dK (kT t)))) := fun {H5 od} s5 => (TupKeep.of s5).trans (TupKeep.at fun xs z => by rw [s5 _ _ he] at z; cases z)
    have isr : ∀ {x : Str} {r : Rw}, m x = some r → x ∈ t.map (·.1) := fun {x r} e1 => hH.mem.mpr (by rw [e1]; rfl)
    have nor : ∀ {x : Str}, x ∉ t.map (·.1) → m x = none := fun {x} hx => by
      cases e1 : m x with
      | none => rfl
      | some r => exact absurd (isr e1) hx
    refine ⟨e, _, he, trivial, fun od => ⟨.ref e, rfl, e, od, rfl, .inl ⟨kT t, upd_same, fun D hD => ?_⟩⟩⟩
    have nDe : D ≠ e := lock_ne hD
    have fD : H D = none := lock_free hD
    refine lc_pairs (us := t.map (·.1)) (val := V.str) (Y od) (fun x => x) (RwV K) (fun x => (((m x).getD (none, none)).2, ((m x).getD (none, none)).1)) (fun _ => true) (fun x => [some (.ref a), some (.ref e), none, some (.str x), none, none]) hD (fun H5 s5 => s5 _ _ upd_same) (fun _ _ => rfl)
      (fun H5 x _ _ S k => k) (fun H5 x _ _ S k => k H5 (Same.refl H5)) (fun _ _ _ _ k h => h.keep k) (fun H5 x s5 hx _ S k => ?_) lk (fun as H5 s5 h5 pr => ?_)
    · obtain ⟨q1, v1, v2, r, e1, hv, t1, f1, f2⟩ := row ((kL (Same.refl H)).trans (TupKeep.of s5)) x hx
      have d1 := dget_kT (.inr ⟨od, s5 _ _ upd_same⟩) x
      rw [hv] at d1
      refine ⟨.str x, rfl, .ref e, rfl, .str x, rfl, e, _, rfl, d1, 1, rfl, rfl, .inr ⟨q1, [v1, v2], rfl, t1.sq, fun pb npb => ⟨(by show 2 ≤ sizeLine; decide), fun tp ntp => ?_⟩⟩⟩
      have sb := same_new (o := .tup [v1, v2].reverse) npb
      have st := same_new (o := .tup [.str x, .ref pb]) ntp
      refine k tp (.ref pb) _ (sb.trans st) upd_same ⟨pb, v2, v1, rfl, .inl (st _ _ upd_same), ?_, ?_⟩
      · show FvV K _ v2 ((m x).getD (none, none)).2
        rw [e1]
        exact f2.keep (TupKeep.of (sb.trans st))
      · show FvV K _ v1 ((m x).getD (none, none)).1
        rw [e1]
        exact f1.keep (TupKeep.of (sb.trans st))
    refine ⟨s5 _ _ upd_same, ?_⟩
    rw [filt_all] at pr
    have s06 : Same H (upd H5 e (.dK (kT t))) := same_unlock s5 he
    have k6 : TupKeep H5 (upd H5 e (.dK (kT t))) := TupKeep.at fun xs z => by rw [s5 _ _ upd_same] at z; cases z
    have h6 : (upd H5 e (.dK (kT t))) D = some (.lst (as.map V.ref)) := by rw [upd_ne nDe]; exact h5
    obtain ⟨tab, p1, p2⟩ := rows_pairs (g := negM m) (n := n) (kf := fun x : Str => x) (by rw [List.map_id']; exact hO.nd) (fun x hx => by
        obtain ⟨_, _, _, r, e1, _⟩ := row (TupKeep.refl H) x hx
        unfold negM
        rw [e1]
        rfl) (fun x hx => by
        rw [List.map_id'] at hx
        unfold negM
        rw [nor hx]
        rfl) (Paired.mapP pr fun b x ⟨v, z1, z2⟩ => ⟨v, k6 _ _ z1, z2.keep k6⟩) hO.path (fun x hx => by
        obtain ⟨_, _, _, r, e1, _⟩ := row (TupKeep.refl H) x hx
        rw [e1]
        exact ⟨(hO.good x r e1).2, (hO.good x r e1).1⟩) (by rw [List.length_map]; exact lt)
    refine ⟨D, as, kT tab, rfl, .inl (.inl h6), p1, fun pB npB => ?_⟩
    have hB := p2 pB npB
    have s07 := s06.trans (same_new (o := .dK (mergeK [] (kT tab))) npB)
    generalize upd (upd H5 e (.dK (kT t))) pB (.dK (mergeK [] (kT tab))) = H7 at s07 hB
    clear p2 p1 h6 k6 pr h5 s06 s5 fD nDe hD
    have he7 := s07 _ _ he
    have good : ∀ {x : Str} {r : Rw}, m x = some r → GoodR r := fun {x r} e1 => hO.good x r e1
    let pl : Str → Bool := fun x => match m x with
      | some r => !decide (r.1 = r.2)
      | none => false
    have hpl : ∀ {x : Str} {r : Rw}, m x = some r → pl x = !decide (r.1 = r.2) := fun {x r} e1 => by
      show (match m x with | some r => !decide (r.1 = r.2) | none => false) = _
      rw [e1]
    refine ⟨e, _, he7, trivial, fun od2 => ⟨.ref e, rfl, e, od2, rfl, .inl ⟨kT t, upd_same, fun D2 hD2 => ?_⟩⟩⟩
    have nDe2 : D2 ≠ e := lock_ne hD2
    refine lc_pairs (us := t.map (·.1)) (val := V.str) (Y od2) (fun x => x) (RwV K) (fun x => (m x).getD (none, none)) pl (fun x => [some (.ref a), some (.ref e), some (.ref pB), some (.str x), none, none]) hD2 (fun H5 s5 => s5 _ _ upd_same) (fun _ _ => rfl)
      (fun H5 x _ _ S k => k) (fun H5 x s5 hx S k => ?_) (fun _ _ _ _ k h => h.keep k) (fun H5 x s5 hx _ S k => ?_) lk (fun as2 H8 s8 h8 pr2 => ?_)
    · obtain ⟨q1, v1, v2, r, e1, hv, t1, f1, f2⟩ := row ((kL s07).trans (TupKeep.of s5)) x hx
      have d1 := dget_kT (.inr ⟨od2, s5 _ _ upd_same⟩) x
      rw [hv] at d1
      refine ⟨.ref e, rfl, .str x, rfl, e, _, rfl, d1, q1, _, 0, v1, rfl, rfl, t1.sq, rfl, .ref e, rfl, .str x, rfl, e, _, rfl, d1, q1, _, 1, v2, rfl, rfl, t1.sq, rfl, r.1, r.2, f1, f2, (good e1).1, (good e1).2, _, rfl, ?_⟩
      rw [← hpl e1]
      exact k H5 (Same.refl H5)
    · obtain ⟨q1, v1, v2, r, e1, hv, t1, f1, f2⟩ := row ((kL s07).trans (TupKeep.of s5)) x hx
      have d1 := dget_kT (.inr ⟨od2, s5 _ _ upd_same⟩) x
      rw [hv] at d1
      refine ⟨.str x, rfl, .ref e, rfl, .str x, rfl, e, _, rfl, d1, (by show 2 ≤ sizeLine; decide), fun tp ntp => ?_⟩
      have st := same_new (o := .tup [.str x, .ref q1]) ntp
      refine k tp (.ref q1) _ st upd_same ⟨q1, v1, v2, rfl, t1.keep (TupKeep.of st), ?_, ?_⟩
      · show FvV K _ v1 ((m x).getD (none, none)).1
        rw [e1]
        exact f1.keep (TupKeep.of st)
      · show FvV K _ v2 ((m x).getD (none, none)).2
        rw [e1]
        exact f2.keep (TupKeep.of st)
    refine ⟨s8 _ _ upd_same, ?_⟩
    have s79 : Same H7 (upd H8 e (.dK (kT t))) := same_unlock s8 he7
    have k9 : TupKeep H8 (upd H8 e (.dK (kT t))) := TupKeep.at fun xs z => by rw [s8 _ _ upd_same] at z; cases z
    have h9 : (upd H8 e (.dK (kT t))) D2 = some (.lst (as2.map V.ref)) := by rw [upd_ne nDe2]; exact h8
    obtain ⟨tab2, p3, p4⟩ := rows_pairs (g := plainM m) (n := n) (kf := fun x : Str => x) (by rw [List.map_id']; exact hO.nd.filter _) (fun x hx => by
        obtain ⟨h1, h2⟩ := List.mem_filter.mp hx
        obtain ⟨_, _, _, r, e1, _⟩ := row (TupKeep.refl H) x h1
        rw [hpl e1] at h2
        show plainM m x = some ((m x).getD (none, none))
        unfold plainM
        rw [e1]
        show (if r.1 = r.2 then none else some r) = some r
        rw [if_neg (fun z => by rw [decide_eq_true z] at h2; cases h2)]) (fun x hx => by
        rw [List.map_id'] at hx
        unfold plainM
        cases e1 : m x with
        | none => rfl
        | some r =>
          show (if r.1 = r.2 then none else some r) = none
          by_cases z : r.1 = r.2
          · rw [if_pos z]
          · exact absurd (List.mem_filter.mpr ⟨isr e1, by rw [hpl e1, decide_eq_false z]; rfl⟩) hx) (Paired.mapP pr2 fun b x ⟨v, z1, z2⟩ => ⟨v, k9 _ _ z1, z2.keep k9⟩) (fun x hx => hO.path x (List.mem_filter.mp hx).1) (fun x hx => by
        obtain ⟨_, _, _, r, e1, _⟩ := row (TupKeep.refl H) x (List.mem_filter.mp hx).1
        show GoodR ((m x).getD (none, none))
        rw [e1]
        exact good e1) (Nat.le_trans (List.length_filter_le _ _) (by rw [List.length_map]; exact lt))
    refine ⟨D2, as2, kT tab2, rfl, .inl (.inl h9), p3, fun pP npP => ?_⟩
    have hP := p4 pP npP
    have s710 := s79.trans (same_new (o := .dK (mergeK [] (kT tab2))) npP)
    generalize upd (upd H8 e (.dK (kT t))) pP (.dK (mergeK [] (kT tab2))) = H10 at s710 hP
    have s010 := s07.trans s710
    clear p3 p4 h9 k9 pr2 h8 s79 s8 nDe2 hD2
    have he10 := s010 _ _ he
    refine ⟨e, _, he10, trivial, fun od3 => ⟨.ref e, rfl, e, od3, rfl, .inl ⟨kT t, upd_same, fun D3 hD3 => ?_⟩⟩⟩
    have nDe3 : D3 ≠ e := lock_ne hD3
    refine lc_pairs (us := t.map (·.1)) (val := V.str) (Y od3) (fun x => x) (RwV K) (fun x => (((m x).getD (none, none)).1, ((m x).getD (none, none)).1)) (fun _ => true) (fun x => [some (.ref a), some (.ref e), some (.ref pB), some (.str x), some (.ref pP), none]) hD3 (fun H5 s5 => s5 _ _ upd_same) (fun _ _ => rfl)
      (fun H5 x _ _ S k => k) (fun H5 x _ _ S k => k H5 (Same.refl H5)) (fun _ _ _ _ k h => h.keep k) (fun H5 x s5 hx _ S k => ?_) lk (fun as3 H11 s11 h11 pr3 => ?_)
    · obtain ⟨q1, v1, v2, r, e1, hv, t1, f1, f2⟩ := row ((kL s010).trans (TupKeep.of s5)) x hx
      have d1 := dget_kT (.inr ⟨od3, s5 _ _ upd_same⟩) x
      rw [hv] at d1
      refine ⟨.str x, rfl, .ref e, rfl, .str x, rfl, e, _, rfl, d1, q1, _, 0, v1, rfl, rfl, t1.sq, rfl, .ref e, rfl, .str x, rfl, e, _, rfl, d1, q1, _, 0, v1, rfl, rfl, t1.sq, rfl, (by show 2 ≤ sizeLine; decide), fun pb npb => ⟨(by show 2 ≤ sizeLine; decide), fun tp ntp => ?_⟩⟩
      have sb := same_new (o := .tup [v1, v1]) npb
      have st := same_new (o := .tup [.str x, .ref pb]) ntp
      have ff : FvV K (upd (upd H5 pb (.tup [v1, v1])) tp (.tup [.str x, .ref pb])) v1 ((m x).getD (none, none)).1 := by
        rw [e1]
        exact f1.keep (TupKeep.of (sb.trans st))
      exact k tp (.ref pb) _ (sb.trans st) upd_same ⟨pb, v1, v1, rfl, .inl (st _ _ upd_same), ff, ff⟩
    refine ⟨s11 _ _ upd_same, ?_⟩
    rw [filt_all] at pr3
    have s12 : Same H10 (upd H11 e (.dK (kT t))) := same_unlock s11 he10
    have k12 : TupKeep H11 (upd H11 e (.dK (kT t))) := TupKeep.at fun xs z => by rw [s11 _ _ upd_same] at z; cases z
    have h12 : (upd H11 e (.dK (kT t))) D3 = some (.lst (as3.map V.ref)) := by rw [upd_ne nDe3]; exact h11
    obtain ⟨tab3, p5, p6⟩ := rows_pairs (g := stillM m) (n := n) (kf := fun x : Str => x) (by rw [List.map_id']; exact hO.nd) (fun x hx => by
        obtain ⟨_, _, _, r, e1, _⟩ := row (TupKeep.refl H) x hx
        unfold stillM
        rw [e1]
        rfl) (fun x hx => by
        rw [List.map_id'] at hx
        unfold stillM
        rw [nor hx]
        rfl) (Paired.mapP pr3 fun b x ⟨v, z1, z2⟩ => ⟨v, k12 _ _ z1, z2.keep k12⟩) hO.path (fun x hx => by
        obtain ⟨_, _, _, r, e1, _⟩ := row (TupKeep.refl H) x hx
        rw [e1]
        exact ⟨(hO.good x r e1).1, (hO.good x r e1).1⟩) (by rw [List.length_map]; exact lt)
    refine ⟨D3, as3, kT tab3, rfl, .inl (.inl h12), p5, fun pS npS => ?_⟩
    have hS := p6 pS npS
    have sR := s12.trans (same_new (o := .dK (mergeK [] (kT tab3))) npS)
    generalize upd (upd H11 e (.dK (kT t))) pS (.dK (mergeK [] (kT tab3))) = G0 at sR hS
    have hP0 := hP.same sR
    have hB0 := hB.same (s710.trans sR)
    have g0 := s010.trans sR
    have hA0 := hA.same g0
    have hE : ∀ {H' : Hp}, Same H H' → RowsAt K H' e n m := fun {H'} s => RowsAt.same ⟨t, he, hH, hO⟩ s
    clear p5 p6 h12 k12 pr3 h11 s12 s11 nDe3 hD3 hP hB
    refine ⟨.ref a, rfl, .ref e, rfl, .ref a, .ref e, n, n, some m, rfl, ⟨a, dx, d, rfl, hA0⟩, ⟨e, rfl, hE g0⟩, by omega, by omega, fun G1 s1 => ⟨_, rfl, iteF ?_⟩⟩
    have g1 := g0.trans s1
    have hA1 := hA.same g1
    refine ⟨.ref a, rfl, a, dx, _, rfl, hA1.1, a, dx, d, n, m, rfl, hA1, by omega, fun c2 cx2 cd2 G2 _ _ s2 hC2 => ?_⟩
    have g2 := g1.trans s2
    refine ⟨.ref pB, rfl, .ref c2, .ref pB, n, n, some (negM m), rfl, ⟨c2, cx2, cd2, rfl, hC2⟩, ⟨pB, rfl, hB0.same (s1.trans s2)⟩, by omega, by omega, fun G3 s3 => ⟨_, rfl, iteF ?_⟩⟩
    have g3 := g2.trans s3
    have hA3 := hA.same g3
    refine ⟨.ref a, rfl, a, dx, _, rfl, hA3.1, rfl, a, dx, d, n, m, rfl, hA3, by omega, fun c4 cx4 cd4 G4 _ _ s4 hC4 => ?_⟩
    have g4 := g3.trans s4
    have g04 : Same G0 G4 := s1.trans (s2.trans (s3.trans s4))
    refine ⟨.ref pP, rfl, .ref c4, .ref pP, n, n, some (plainM m), rfl, ⟨c4, cx4, cd4, rfl, hC4⟩, ⟨pP, rfl, hP0.same g04⟩, by omega, by omega, fun G5 s5 => ⟨_, rfl, iteF ?_⟩⟩
    have g5 := g4.trans s5
    have hA5 := hA.same g5
    refine ⟨.ref a, rfl, .ref a, rfl, a, dx, _, rfl, hA5.1, a, dx, d, n, m, rfl, hA5, by omega, fun c6 cx6 cd6 G6 _ _ s6 hC6 => ?_⟩
    have g6 := g5.trans s6
    have hA6 := hA.same g6
    refine ⟨a, dx, _, rfl, hA6.1, .ins hC6.1, a, dx, d, n, m, .ref c6, rfl, hA6, .inl ⟨c6, cx6, cd6, n, negM m, rfl, hC6, by omega, .inl ⟨fits_neg m, fun c7 cx7 cd7 G7 _ _ s7 hC7 => ⟨c7, rfl, ?_⟩⟩⟩⟩
    have g7 := g6.trans s7
    rw [sum_neg] at hC7
    refine ⟨.ref pS, rfl, .ref c7, .ref pS, n + n + n, n, some (stillM m), rfl, ⟨c7, cx7, cd7, rfl, hC7⟩, ⟨pS, rfl, hS.same ((g04.trans s5).trans (s6.trans s7))⟩, by omega, by omega, fun G8 s8 => ⟨_, rfl, iteF ?_⟩⟩
    have g8 := g7.trans s8
    have hA8 := hA.same g8
    refine ⟨.ref a, rfl, .ref a, rfl, a, dx, _, rfl, hA8.1, a, dx, d, n, m, rfl, hA8, by omega, fun c9 cx9 cd9 G9 _ _ s9 hC9 => ?_⟩
    have g9 := g8.trans s9
    have hA9 := hA.same g9
    refine ⟨a, dx, _, rfl, hA9.1, .ins hC9.1, a, dx, d, n, m, .ref c9, rfl, hA9, .inl ⟨c9, cx9, cd9, n, negM m, rfl, hC9, by omega, .inl ⟨fits_neg m, fun c10 cx10 cd10 G10 _ _ s10 hC10 => ⟨c10, rfl, ?_⟩⟩⟩⟩
    have g10 := g9.trans s10
    have hA10 := hA.same g10
    rw [sum_neg] at hC10
    refine ⟨.ref a, rfl, c10, cx10, _, rfl, hC10.1, .ins hA10.1, c10, cx10, cd10, n + n + n, stillM m, .ref a, rfl, hC10, .inl ⟨a, dx, d, n, m, rfl, hA10, by omega, .inl ⟨fits_still m, fun c11 cx11 cd11 G11 _ _ s11 hC11 => ⟨c11, rfl, ?_⟩⟩⟩⟩
    have g11 := g10.trans s11
    rw [sum_still] at hC11
    refine ⟨.ref e, rfl, .ref c11, .ref e, n + n + n + n + (n + n + n), n, some m, rfl, ⟨c11, cx11, cd11, rfl, hC11⟩, ⟨e, rfl, hE g11⟩, by omega, by omega, fun G12 s12 => ⟨_, rfl, iteF ?_⟩⟩
    have g12 := g11.trans s12
    have hA12 := hA.same g12
    refine ⟨.ref a, rfl, .ref e, rfl, a, dx, _, .type "dict", rfl, hA12.1, .base (.dK (g12 _ _ he)), T.notF "dict" (by decide), a, dx, d, n, m, .ref e, rfl, hA12, .inr ⟨⟨"dict", by decide, .base (.dK (g12 _ _ he))⟩, false, rfl, _, rfl, iteT ?_⟩⟩
    refine ⟨.ref a, rfl, a, dx, _, .type "int", rfl, hA12.1, .base (.int 0), T.notF "int" (by decide), a, dx, d, n, m, .int 0, rfl, hA12, .inr ⟨⟨"int", by decide, .base (.int 0)⟩, false, rfl, _, rfl, iteT ?_⟩⟩
    refine ⟨.ref a, rfl, .ref e, rfl, ?_⟩
    dsimp only [tCons, tNil]
    refine do_change (C := C) (Q := fun z H2 => rOwnEq K C (spEqC K C) (.ref a) z H2 Q) (n := n) (m := m) (hE g12) (by omega) fun c dx3 d3 Hb fc fd sb hC => ?_
    have s0b := g12.trans sb
    have hAb := hA.same s0b
    refine ⟨a, dx, _, .ref C, rfl, hAb.1, .base (.ins hC.1 T.insC.cl T.insC.ha T.insC.hn T.insC.htk T.insC.hm), T.notC, a, dx, d, n, m, .ref c, rfl, hAb, .inl ⟨c, dx3, d3, n, m, rfl, hC, fun cc hcc => ?_⟩⟩
    rw [show cc = true from hcc.mpr rfl]
    exact ⟨_, rfl, q Hb s0b⟩
end

end Fk

set_option maxHeartbeats 4000000
/-! Tables of rows as data that repr can show. -/
namespace Fk
open PySem PySem.Spec PyProof.Rows L2
def rowD (m : Mp Rw) (y : Str) : PyData := ((m y).map rwD).getD .none
def rowsD (ys : List Str) (m : Mp Rw) : PyData := .dict ((ys.map PyData.str).zip (ys.map (rowD m)))
section
variable {K : PySem.W.Frag} {H : Hp}
theorem FvV.dq {v : V} {f : Fv} (h : FvV K H v f) : Dq K H v (fvD f) := by
  cases f with
  | none =>
    obtain rfl : v = .non := h
    exact .non
  | some p =>
    obtain ⟨q, rfl, t⟩ := h
    exact .tup t.sq (.cons (.str _) (.cons (.str _) .nil))
theorem RwV.dq {v : V} {r : Rw} (h : RwV K H v r) : Dq K H v (rwD r) := by
  obtain ⟨q, v1, v2, rfl, t, a, b⟩ := h
  exact .tup t.sq (.cons a.dq (.cons b.dq .nil))
theorem dq_rows {e : Addr} {t : Tab} {m : Mp Rw} (h : H e = some (.dK (kT t))) (hh : Holds (RwV K H) t m) (nd : Nd t) : Dq K H (.ref e) (rowsD (t.map (·.1)) m) := by
  have key : ∀ l : Tab, (∀ p ∈ l, ∃ r, m p.1 = some r ∧ RwV K H p.2 r) → DqAll K H ((kT l).map (·.2)) ((l.map (·.1)).map (rowD m)) := by
    intro l
    induction l with
    | nil => intro _; exact .nil
    | cons p l ih =>
      intro hl
      obtain ⟨r, a, b⟩ := hl p List.mem_cons_self
      refine .cons ?_ (ih fun q hq => hl q (List.mem_cons_of_mem _ hq))
      show Dq K H p.2 (rowD m p.1)
      unfold rowD
      rw [a]
      exact b.dq
  have := Dq.dic h (key t fun p hp => hh.at' (by
    clear key hh h
    induction t with
    | nil => cases hp
    | cons q l ih =>
      obtain ⟨h1, h2⟩ := List.nodup_cons.mp (show ((q :: l).map (·.1)).Nodup from nd)
      rcases List.mem_cons.mp hp with z | z
      · rw [z, show q = (q.1, q.2) from rfl, valV_pos rfl]
      · rw [valV_neg (fun e => h1 (by dsimp only; rw [e]; exact List.mem_map.mpr ⟨p, z, rfl⟩))]
        exact ih h2 z))
  have ek : ((kT t).map fun p => keyD p.1) = (t.map (·.1)).map PyData.str := by
    unfold kT
    rw [List.map_map, List.map_map]
    rfl
  rw [ek] at this
  exact this
end
theorem fv_facts {f : Fv} (h : GoodF f) : (fvD f).showable = true ∧ (fvD f).intsShort 13 = true ∧ (fvD f).weight ≤ 30 := by
  cases f with
  | none => exact ⟨rfl, rfl, Nat.zero_le _⟩
  | some p =>
    obtain ⟨h1, h2⟩ := h p rfl
    refine ⟨rfl, rfl, ?_⟩
    have l1 : p.1.cps.size ≤ 4 := by
      simp only [FKS, List.mem_cons, List.not_mem_nil, or_false] at h1
      rcases h1 with e | e <;> rw [e] <;> decide +kernel
    have l2 : p.2.cps.size = 16 := (ok_idF h2).2
    show PyData.weightAll [.str p.1, .str p.2] ≤ 30
    simp only [PyData.weightAll, PyData.weight]
    omega
theorem rw_facts {r : Rw} (h : GoodR r) : (rwD r).showable = true ∧ (rwD r).leavesShort 13 = true ∧ (rwD r).depth ≤ 2 ∧ (rwD r).weight ≤ 100 := by
  obtain ⟨a1, a2, a3⟩ := fv_facts h.1
  obtain ⟨b1, b2, b3⟩ := fv_facts h.2
  refine ⟨?_, PyData.leavesShort_of_canLay0 13 _ (lay_rw h) ?_, depth_rw r, ?_⟩
  · show PyData.showableAll [fvD r.1, fvD r.2] = true
    simp only [PyData.showableAll, a1, b1, Bool.and_self]
  · show PyData.intsShortAll 13 [fvD r.1, fvD r.2] = true
    simp only [PyData.intsShortAll, a2, b2, Bool.and_self]
  · show PyData.weightAll [fvD r.1, fvD r.2] ≤ 100
    simp only [PyData.weightAll]
    omega
theorem row_facts {m : Mp Rw} (hg : ∀ x r, m x = some r → GoodR r) (y : Str) : (rowD m y).showable = true ∧ (rowD m y).leavesShort 13 = true ∧ (rowD m y).depth ≤ 2 ∧ (rowD m y).weight ≤ 100 := by
  unfold rowD
  cases e : m y with
  | none => exact ⟨rfl, rfl, by decide, by decide⟩
  | some r => exact rw_facts (hg y r e)
theorem rows_kv {m : Mp Rw} (hg : ∀ x r, m x = some r → GoodR r) : ∀ ys : List Str, (∀ y ∈ ys, PathOk y) →
    PyData.showableKv ((ys.map PyData.str).zip (ys.map (rowD m))) = true ∧ PyData.leavesShortKv 13 ((ys.map PyData.str).zip (ys.map (rowD m))) = true ∧ PyData.depthKv ((ys.map PyData.str).zip (ys.map (rowD m))) ≤ 2 ∧ PyData.weightKv ((ys.map PyData.str).zip (ys.map (rowD m))) ≤ 2000 * ys.length
  | [], _ => ⟨rfl, rfl, Nat.zero_le _, Nat.zero_le _⟩
  | y :: l, h => by
    obtain ⟨i1, i2, i3, i4⟩ := rows_kv hg l fun z hz => h z (List.mem_cons_of_mem _ hz)
    obtain ⟨r1, r2, r3, r4⟩ := row_facts hg y
    obtain ⟨_, p2, p3⟩ := h y List.mem_cons_self
    have p2 : y.cps.size ≤ 1000 := p2
    have ls : PyData.leavesShort 13 (.str y) = true := PyData.leavesShort_of_canLay0 13 (.str y) (strOk_of p3) rfl
    rw [List.map_cons, List.map_cons, List.zip_cons_cons]
    refine ⟨?_, ?_, ?_, ?_⟩
    · simp only [PyData.showableKv, PyData.showable, r1, i1, Bool.and_self]
    · simp only [PyData.leavesShortKv, ls, r2, i2, Bool.and_self]
    · simp only [PyData.depthKv, PyData.depth]
      omega
    · simp only [PyData.weightKv, PyData.weight, List.length_cons]
      omega
theorem rows_facts {m : Mp Rw} (hg : ∀ x r, m x = some r → GoodR r) {ys : List Str} (hy : ∀ y ∈ ys, PathOk y) (hl : ys.length ≤ 60) : (rowsD ys m).showable = true ∧ (rowsD ys m).leavesShort 13 = true ∧ (rowsD ys m).depth ≤ 3 ∧ (rowsD ys m).weight ≤ 120000 := by
  obtain ⟨i1, i2, i3, i4⟩ := rows_kv hg ys hy
  refine ⟨i1, i2, ?_, ?_⟩
  · show PyData.depthKv _ + 1 ≤ 3
    omega
  · show PyData.weightKv _ ≤ 120000
    omega
/-- three tables in a tuple can be shown -/
theorem three_shown {d1 d2 d3 : PyData} (h1 : d1.showable = true ∧ d1.leavesShort 13 = true ∧ d1.depth ≤ 3 ∧ d1.weight ≤ 120000) (h2 : d2.showable = true ∧ d2.leavesShort 13 = true ∧ d2.depth ≤ 3 ∧ d2.weight ≤ 120000) (h3 : d3.showable = true ∧ d3.leavesShort 13 = true ∧ d3.depth ≤ 3 ∧ d3.weight ≤ 120000) :
    PyData.showable (.tuple [d1, d2, d3]) = true ∧ PyData.depth (.tuple [d1, d2, d3]) ≤ 60 ∧ (PyData.shown (.tuple [d1, d2, d3])).length ≤ sizeLine := by
  obtain ⟨a1, a2, a3, a4⟩ := h1
  obtain ⟨b1, b2, b3, b4⟩ := h2
  obtain ⟨c1, c2, c3, c4⟩ := h3
  refine ⟨?_, ?_, PyData.shown_fits (B := 13) (by decide) (by decide) ?_ ?_⟩
  · simp only [PyData.showable, PyData.showableAll, a1, b1, c1, Bool.and_self]
  · simp only [PyData.depth, PyData.depthAll]
    omega
  · simp only [PyData.leavesShort, PyData.leavesShortAll, a2, b2, c2, Bool.and_self]
  · simp only [PyData.weight, PyData.weightAll]
    omega
end Fk

set_option maxHeartbeats 4000000
namespace Fk
open PySem PySem.Spec PyProof.Rows L2
theorem some_inj' {α : Type} {a b : α} (h : some a = some b) : a = b := Option.some.inj h
theorem sum_fits {a b c : Mp Rw} (h : fitsM a b) : fitsM (sumM a b) c ↔ (fitsM b c ∧ ∀ x r r', b x = none → a x = some r → c x = some r' → r.2 = r'.1) := by
  constructor
  · intro k
    refine ⟨fun x r r' e1 e2 => ?_, fun x r r' e0 e1 e2 => k x r r' (by unfold sumM; rw [e1, e0]) e2⟩
    cases ea : a x with
    | none => exact k x r r' (by unfold sumM; rw [ea, e1]) e2
    | some q => exact k x (q.1, r.2) r' (by unfold sumM; rw [ea, e1]) e2
  · rintro ⟨k1, k2⟩ x r r' e1 e2
    unfold sumM at e1
    cases ea : a x with
    | none =>
      rw [ea] at e1
      exact k1 x r r' e1 e2
    | some q =>
      cases eb : b x with
      | none =>
        rw [ea, eb] at e1
        cases e1
        exact k2 x r r' eb ea e2
      | some p =>
        rw [ea, eb] at e1
        cases e1
        exact k1 x p r' eb e2
theorem fits_sum {a b c : Mp Rw} (h : fitsM b c) : fitsM a (sumM b c) ↔ (fitsM a b ∧ ∀ x r r', b x = none → a x = some r → c x = some r' → r.2 = r'.1) := by
  constructor
  · intro k
    refine ⟨fun x r r' e1 e2 => ?_, fun x r r' e0 e1 e2 => k x r r' e1 (by unfold sumM; rw [e0, e2])⟩
    cases ec : c x with
    | none => exact k x r r' e1 (by unfold sumM; rw [e2, ec])
    | some q => exact k x r (r'.1, q.2) e1 (by unfold sumM; rw [e2, ec])
  · rintro ⟨k1, k2⟩ x r r' e1 e2
    unfold sumM at e2
    cases eb : b x with
    | none =>
      rw [eb] at e2
      exact k2 x r r' eb e1 e2
    | some p =>
      cases ec : c x with
      | none =>
        rw [eb, ec] at e2
        cases e2
        exact k1 x r _ e1 eb
      | some q =>
        rw [eb, ec] at e2
        cases e2
        exact k1 x r p e1 eb
theorem sumM_assoc (a b c : Mp Rw) : sumM (sumM a b) c = sumM a (sumM b c) := by
  funext x
  unfold sumM
  cases a x <;> cases b x <;> cases c x <;> rfl
theorem sumO_assoc (a b c : Mp Rw) : sumO (sumO (some a) (some b)) (some c) = sumO (some a) (sumO (some b) (some c)) := by
  have := Classical.propDecidable (fitsM a b)
  have := Classical.propDecidable (fitsM b c)
  have := Classical.propDecidable (fitsM (sumM a b) c)
  by_cases h1 : fitsM a b
  · rw [sumO_fit h1]
    by_cases h2 : fitsM b c
    · rw [sumO_fit h2]
      by_cases h3 : fitsM (sumM a b) c
      · rw [sumO_fit h3, sumO_fit ((fits_sum h2).mpr ⟨h1, ((sum_fits h1).mp h3).2⟩), sumM_assoc]
      · rw [sumO_not h3, sumO_not (fun z => h3 ((sum_fits h1).mpr ⟨h2, ((fits_sum h2).mp z).2⟩))]
    · rw [sumO_not h2, sumO_not (fun z => h2 ((sum_fits h1).mp z).1)]
      rfl
  · rw [sumO_not h1, sumO_none]
    by_cases h2 : fitsM b c
    · rw [sumO_fit h2, sumO_not (fun z => h1 ((fits_sum h2).mp z).1)]
    · rw [sumO_not h2]
      rfl
theorem neg_fits {a b : Mp Rw} (h : fitsM a b) : fitsM (negM b) (negM a) := fun x r r' e1 e2 => by
  unfold negM at e1 e2
  cases ea : a x with
  | none => rw [ea] at e2; cases e2
  | some p =>
    cases eb : b x with
    | none => rw [eb] at e1; cases e1
    | some q =>
      rw [eb] at e1
      rw [ea] at e2
      cases e1
      cases e2
      exact (h x p q ea eb).symm
theorem neg_sum (a b : Mp Rw) : sumM (negM b) (negM a) = negM (sumM a b) := by
  funext x
  unfold sumM negM
  dsimp only
  cases a x <;> cases b x <;> rfl
theorem rows_none {K : PySem.W.Frag} {H : Hp} {e : Addr} {n : Nat} (h : H e = some (.dK [])) : RowsAt K H e n (fun _ => none) :=
  ⟨[], h, .nil, ⟨by unfold Nd; exact List.nodup_nil, Nat.zero_le n, (fun x hx => nomatch hx), (fun x r e => nomatch e)⟩⟩
theorem ChAt.fr {K : PySem.W.Frag} {C W a dx d : Addr} {H H' : Hp} {c : Int} {n : Nat} {m : Mp Rw} (h : ChAt K C H a dx d n m) (f : Fr W H H') (w : Wl H W c) : ChAt K C H' a dx d n m := by
  obtain ⟨h0, t, h1, h2, h3⟩ := h
  refine ⟨f _ _ (fun z => ?_) h0, t, f _ _ (w.neK h1) h1, h2.imp fun _ _ x => x.keep (TupKeep.fr f w), h3⟩
  obtain ⟨_, x, y, h'⟩ := w
  rw [z, h'] at h0
  cases h0
/-- Change(a dict of rows), what is said of it by its address -/
theorem do_changeA {K : PySem.W.Frag} {C : Addr} {H : Hp} {p : Addr} {n : Nat} {m : Mp Rw} {Q : Addr → Hp → Prop} (hp : RowsAt K H p n m) (hn : n ≤ 60) (q : ∀ c dx3 d3 H', H c = none → H d3 = none → Same H H' → ChAt K C H' c dx3 d3 n m → Q c H') :
    ∀ x dx, H x = none → H dx = none → dx ≠ x → spChI K C (.ref x :: ([.ref p] ++ [])) (upd (upd H dx (.own x)) x (.ins C dx [])) (fun v H2 => v = .non ∧ Q x H2) C8.E0 := by
  intro A0 dx0 hA hdx ndx
  refine ⟨A0, p, dx0, n, m, rfl, upd_same, ?_, hn, fun d3 H7 hd3 f7 k7 => ⟨rfl, ?_⟩⟩
  · exact hp.same fun b q z => by
      rw [upd_ne (ne_of_none z hA), upd_ne (ne_of_none z hdx)]
      exact z
  · have s67 := made_same hA hdx f7
    have fd3 : H d3 = none := by
      have := hd3
      by_cases z : d3 = A0
      · rw [z]; exact hA
      · rw [upd_ne z] at this
        by_cases z2 : d3 = dx0
        · rw [z2]; exact hdx
        · rwa [upd_ne z2] at this
    exact q A0 dx0 d3 H7 hA fd3 s67 k7
section
variable {P : Program} {w : World} {K : PySem.W.Frag} {mg : Str → Option Value} {base : Heap} {C fk cE iF : Addr}
def spLawT (K : PySem.W.Frag) : Sp := fun vs H Q _ => ∃ (a : Addr) (zs : List Int), vs = [.ref a] ∧ SqL K H a (zs.map V.int) ∧ zs.length ≤ 63 ∧ ∀ H', Q (.bl true) H'
theorem ok_law (T : TopC K mg C fk cE iF) (zrep : mg "repr" = none) {f : Addr} {fd : FuncData} {cd : Value} (F : C8.Fun K "law" "law" s_law f fd) (hc : fd.code = cd) (hR : Room 12 callerA) : TopOk P w K mg base C8.CX0 f fd ["_law_script"] (spLawT K) := by
  refine top_of F hc sc_law hR (fun vs H Q E h => ?_) (fun A outer s H vs Q E hg hr h => ?_)
  · obtain ⟨a, zs, rfl, _⟩ := h
    rfl
  · obtain ⟨a, zs, rfl, hS, hlen, q⟩ := h
    refine ⟨_, (pss_cons (ps_for PassesOwn.never rfl (pi_list (pe_op op_cat (pe_lst (pa_cons (C8.pe_c (c_l_cell_at T.toTop) hr (by decide) (by rfl) (pa_cons (pv 0) (pa_cons pe_int pa_nil))) pa_nil)) (pe_slice sl_list (pv 0) (po_some pe_int) (po_some pe_int)))) (pg_name (i := 1) sc_law.nd rfl (Or.inl rfl))
      (pss_cons (ps_set (i := 2) sc_law.nd rfl (Or.inl rfl) (C8.pe_c (c_l_well T.toTop) hr (by decide) (by rfl) (pa_cons (pv 1) pa_nil)))
      (pss_cons (ps_set (i := 3) sc_law.nd rfl (Or.inl rfl) (C8.pe_c (c_l_rows T) hr (by decide) (by rfl) (pa_cons (pv 2) (pa_cons pe_dnewK pa_nil))))
      (pss_cons (ps_set (i := 4) sc_law.nd rfl (Or.inr rfl) (C8.pe_c (c_l_rows T) hr (by decide) (by rfl) (pa_cons (pv 2) (pa_cons (pv 3) pa_nil))))
      (pss_cons (ps_set (i := 5) sc_law.nd rfl (Or.inl rfl) (C8.pe_c (c_l_rows T) hr (by decide) (by rfl) (pa_cons (pv 2) (pa_cons (pe_ix ix_list (pe_lst (pa_cons (pv 4) (pa_cons (pv 3) pa_nil))) (C8.pe_c (c_l_draw T.toTop) hr (by decide) (by rfl) (pa_cons (pv 2) (pa_cons pe_int pa_nil))) (fun _ _ => rfl)) pa_nil))))
      (pss_cons (ps_set (i := 6) sc_law.nd rfl (Or.inl rfl) (pe_callTy (call_dictP rfl) (by rfl) T.z_dict (by decide +kernel) (pa_cons (pe_lc (own := [("_law_path", 7)]) (g := gName 7) (by rfl) sc_law.nd (pi_list (pe_back (pe_callB (call_sortedD (by rfl)) (by rfl) T.z_sorted (by decide +kernel) (pa_cons (pv 4) pa_nil)) (pe_un un_neg pe_int))) (blkOk_by (own := [("_law_path", 7)]) (N := ["_law_script", "_law_cell", "_law_well_here", "_law_first", "_law_second", "_law_third", "_law_turned", "_law_path", "_law_c", "_law_d", "_law_e", "_law_kept", "_law_change", "_law_rows_here", "_law_one", "_law_last", "_law_some", "_law_odd"]) (sc := C8.fnScope s_law) (by decide +kernel)) (fun _ _ _ _ _ => (pg_name (i := 7) sc_law.nd rfl (Or.inl rfl))) (fun _ _ _ _ _ => pts_nil) (fun _ _ _ _ _ => (pe_tup (pa_cons (pv 7) (pa_cons (pe_dget (hu_of hr) (pv 4) (pv 7) (fun _ _ => rfl)) pa_nil))))) pa_nil)))
      (pss_cons (ps_par3 (i := 8) (j := 9) (l := 10) rfl sc_law.nd rfl rfl rfl (by decide) (by decide) (by decide) rfl rfl rfl (pa_cons (C8.pe_mk (k_Change T) hr (by decide) (by rfl) (pa_cons (pv 3) pa_nil)) (pa_cons (C8.pe_mk (k_Change T) hr (by decide) (by rfl) (pa_cons (pv 6) pa_nil)) (pa_cons (C8.pe_mk (k_Change T) hr (by decide) (by rfl) (pa_cons (pv 5) pa_nil)) pa_nil))) rfl)
      (pss_cons (ps_set (i := 11) sc_law.nd rfl (Or.inl rfl) (pe_callB (call_rep hg hr.units) (by rfl) zrep (by decide +kernel) (pa_cons (pe_tup (pa_cons (pv 3) (pa_cons (pv 4) (pa_cons (pv 5) pa_nil)))) pa_nil)))
      (pss_cons (ps_for PassesOwn.never rfl (pi_list (pe_lst (pa_cons (pe_tup (pa_cons (pv 8) (pa_cons (pv 3) pa_nil))) (pa_cons (pe_tup (pa_cons (pv 9) (pa_cons (pv 4) pa_nil))) (pa_cons (pe_tup (pa_cons (pv 10) (pa_cons (pv 5) pa_nil))) (pa_cons (pe_tup (pa_cons (C8.pe_mk (k_Change T) hr (by decide) (by rfl) (pa_cons pe_dnewK pa_nil)) (pa_cons pe_dnewK pa_nil))) pa_nil)))))) (pg_tup rfl (pgs_cons (pg_name (i := 12) sc_law.nd rfl (Or.inl rfl)) (pgs_cons (pg_name (i := 13) sc_law.nd rfl (Or.inl rfl)) pgs_nil)))
      (pss_one (ps_if (pt_not (pt_val (C8.pe_c (c_l_one_right T) hr (by decide) (by rfl) (pa_cons (pv 12) (pa_cons (pv 13) pa_nil)))))
      (pss_one (ps_ret pe_bl))
      pss_nil)))
      (pss_cons (ps_if (PW.pt (pw_or (pt_not (pt_val (C8.pe_c (c_l_is T) hr (by decide) (by rfl) (pa_cons (C8.pe_c (c_l_added T) hr (by decide) (by rfl) (pa_cons (pv 8) (pa_cons (pv 9) pa_nil))) (pa_cons (C8.pe_c (c_l_sum T) hr (by decide) (by rfl) (pa_cons (pv 3) (pa_cons (pv 4) pa_nil))) pa_nil))))) (pw_or1 (pt_cmpR op_ne (pe_cmpR (op_ownEq (ownM_of (m_Change_eq T)) (hr.mono (by decide)) noEx0) (pv 8) (pv 9) (nomark _)) (pe_cmpR (op_eqDD (room66 hr)) (pv 3) (pv 4) (nomark _)) (nomark _)))))
      (pss_one (ps_ret pe_bl))
      pss_nil)
      (pss_cons (ps_set (i := 14) sc_law.nd rfl (Or.inl rfl) (C8.pe_c (c_l_added T) hr (by decide) (by rfl) (pa_cons (C8.pe_c (c_l_added T) hr (by decide) (by rfl) (pa_cons (pv 8) (pa_cons (pv 9) pa_nil))) (pa_cons (pv 10) pa_nil))))
      (pss_cons (ps_set (i := 15) sc_law.nd rfl (Or.inl rfl) (C8.pe_c (c_l_added T) hr (by decide) (by rfl) (pa_cons (pv 8) (pa_cons (C8.pe_c (c_l_added T) hr (by decide) (by rfl) (pa_cons (pv 9) (pa_cons (pv 10) pa_nil))) pa_nil))))
      (pss_cons (ps_if (PW.pt (pw_or (pt_not (pt_val (C8.pe_c (c_l_is T) hr (by decide) (by rfl) (pa_cons (pv 14) (pa_cons (C8.pe_c (c_l_sum T) hr (by decide) (by rfl) (pa_cons (C8.pe_c (c_l_sum T) hr (by decide) (by rfl) (pa_cons (pv 3) (pa_cons (pv 4) pa_nil))) (pa_cons (pv 5) pa_nil))) pa_nil))))) (pw_or1 (pt_cmpR op_ne (pe_cmpR op_isN (pv 14) pe_non (nomark _)) (pe_cmpR op_isN (pv 15) pe_non (nomark _)) (nomark _)))))
      (pss_one (ps_ret pe_bl))
      pss_nil)
      (C8.pss_cut (ps_if (PW.pt (pw_and (pt_cmpR op_notN (pv 14) pe_non (nomark _)) (pw_and1 (pt_not (pt_cmpR (op_ownEq (ownM_of (m_Change_eq T)) (hr.mono (by decide)) noEx0) (pv 14) (pv 15) (nomark _))))))
      (pss_one (ps_ret pe_bl))
      pss_nil)
      (C8.pss_cut (ps_if (PW.pt (pw_and (pt_cmpR op_notN (C8.pe_c (c_l_sum T) hr (by decide) (by rfl) (pa_cons (pv 3) (pa_cons (pv 4) pa_nil))) pe_non (nomark _)) (pw_and1 (pt_not (pt_cmpR (op_ownEq (ownM_of (m_Change_eq T)) (hr.mono (by decide)) noEx0) (pe_un (un_ownNeg (ownM_of (m_Change_neg T)) (hr.mono (by decide)) noEx0) (pe_ownAddK (K := K) rfl (ownX_of (mx_Change_add T)) T.addF (hr.mono (by decide)) (fun σ => passAt takes_none5 σ) (pv 8) (pv 9))) (pe_ownAddK (K := K) rfl (ownX_of (mx_Change_add T)) T.addF (hr.mono (by decide)) (fun σ => passAt takes_none5 σ) (pe_un (un_ownNeg (ownM_of (m_Change_neg T)) (hr.mono (by decide)) noEx0) (pv 9)) (pe_un (un_ownNeg (ownM_of (m_Change_neg T)) (hr.mono (by decide)) noEx0) (pv 8))) (nomark _))))))
      (pss_one (ps_ret pe_bl))
      pss_nil)
      (pss_cons (ps_set (i := 16) sc_law.nd rfl (Or.inl rfl) (pe_lst (pa_cons pe_non (pa_cons pe_int (pa_cons (pe_lst pa_nil) (pa_cons (pe_tup (pa_cons pe_str pa_nil)) (pa_cons (pe_disp (pps_cons pe_str pe_non pps_nil) (by rfl) (by rfl) (fun z => by cases z) (by decide)) (pa_cons (pe_disp (pps_cons pe_str (pe_tup (pa_cons pe_non pa_nil)) pps_nil) (by rfl) (by rfl) (fun z => by cases z) (by decide)) (pa_cons (pe_disp (pps_cons pe_str (pe_tup (pa_cons pe_non (pa_cons pe_non pa_nil))) pps_nil) (by rfl) (by rfl) (fun z => by cases z) (by decide)) (pa_cons (pe_disp (pps_cons pe_str (pe_tup (pa_cons pe_int (pa_cons pe_non pa_nil))) pps_nil) (by rfl) (by rfl) (fun z => by cases z) (by decide)) pa_nil))))))))))
      (pss_cons (ps_set (i := 17) sc_law.nd rfl (Or.inl rfl) (C8.pe_c (c_l_pick T.toTop) hr (by decide) (by rfl) (pa_cons (pv 2) (pa_cons (pv 16) pa_nil))))
      (pss_one (ps_if (PW.pt (pw_or (pt_not (pt_val (C8.pe_c (c_l_refused T) hr (by decide) (by rfl) (pa_cons (pv 17) pa_nil)))) (pw_or (pt_not (pt_val (C8.pe_c (c_l_refuses T) hr (by decide) (by rfl) (pa_cons (pv 8) (pa_cons (pv 17) pa_nil))))) (pw_or1 (pt_cmpR op_ne (pe_callB (call_rep hg hr.units) (by rfl) zrep (by decide +kernel) (pa_cons (pe_tup (pa_cons (pv 3) (pa_cons (pv 4) (pa_cons (pv 5) pa_nil)))) pa_nil)) (pv 11) (nomark _))))))
      (pss_one (ps_ret pe_bl))
      pss_nil)))))))))))))))))))
      (pss_one (ps_ret pe_bl))), ?_⟩
    refine ⟨.ref a, rfl, a, zs, 0, rfl, hS, fun v => ⟨(by show 1 ≤ sizeLine; decide), fun p1 n1 => ?_⟩⟩
    have s2 := same_new (o := .lst [V.int v]) n1
    have h1 : (upd H p1 (.lst [V.int v])) p1 = some (.lst [V.int v]) := upd_same
    generalize upd H p1 (.lst [V.int v]) = H2 at s2 h1 ⊢
    refine ⟨.ref a, rfl, 1, rfl, 10, rfl, a, zs.map V.int, rfl, s2.seq hS, fun p2 n2 => ?_⟩
    have s3 := same_new (o := .lst (cutV (zs.map V.int) (some 1) (some 10))) n2
    have h2 : (upd H2 p2 (.lst (cutV (zs.map V.int) (some 1) (some 10)))) p2 = some (.lst (cutV (zs.map V.int) (some 1) (some 10))) := upd_same
    generalize upd H2 p2 (.lst (cutV (zs.map V.int) (some 1) (some 10))) = H3 at s3 h2 ⊢
    refine ⟨p1, p2, _, _, rfl, rfl, s3 _ _ h1, h2, ?_, fun L nLL => ?_⟩
    · have := cutV_length (zs.map V.int) (some 1) (some 10)
      rw [List.length_map] at this
      exact small_line (by simp only [List.length_cons, List.length_nil]; omega)
    have s4 := same_new (o := .lst ([V.int v] ++ cutV (zs.map V.int) (some 1) (some 10))) nLL
    have h4 : (upd H3 L (.lst ([V.int v] ++ cutV (zs.map V.int) (some 1) (some 10)))) L = some (.lst ([V.int v] ++ cutV (zs.map V.int) (some 1) (some 10))) := upd_same
    generalize upd H3 L (.lst ([V.int v] ++ cutV (zs.map V.int) (some 1) (some 10))) = H4 at s4 h4 ⊢
    refine ⟨L, rfl, ⟨_, SqL.of h4⟩, ?_⟩
    refine forG (items := [V.int v] ++ cutV (zs.map V.int) (some 1) (some 10)) yields_list (fun i σ H' => H' L = some (.lst ([V.int v] ++ cutV (zs.map V.int) (some 1) (some 10))) ∧ ∃ z1 z2 z3 z4 z5 z6 z7 z8 z9 z10 z11 z12 z13 z14 z15 z16 z17, σ = [some (.ref a), z1, z2, z3, z4, z5, z6, z7, z8, z9, z10, z11, z12, z13, z14, z15, z16, z17])
      ⟨h4, none, none, none, none, none, none, none, none, none, none, none, none, none, none, none, none, none, rfl⟩ (fun i σ H' I => SqL.of I.1) (fun i x σ H' hi I => ?_) (fun σ H' I => ?_)
    · obtain ⟨hL, z1, z2, z3, z4, z5, z6, z7, z8, z9, z10, z11, z12, z13, z14, z15, z16, z17, rfl⟩ := I
      obtain ⟨n, rfl⟩ : ∃ n, x = .int n := by
        have h := List.mem_of_getElem? hi
        rcases List.mem_append.mp h with h | h
        · exact ⟨v, List.mem_singleton.mp h⟩
        · have e : ∃ m : List Int, cutV (zs.map V.int) (some 1) (some 10) = m.map V.int := by
            unfold cutV
            rw [← List.map_drop, ← List.map_take]
            exact ⟨_, rfl⟩
          obtain ⟨m, e⟩ := e
          rw [e] at h
          obtain ⟨n, _, rfl⟩ := List.mem_map.mp h
          exact ⟨n, rfl⟩
      refine ⟨.int n, rfl, n, rfl, fun H5 W nW s5 w5 => ?_⟩
      have LW : L ≠ W := fun e => by rw [← e, hL] at nW; cases nW
      refine ⟨.ref W, rfl, fun e0 n0 => ?_⟩
      refine ⟨W, e0, 0, 0, fun _ => none, rfl, w5.new n0, by decide, rows_none upd_same, fun e1 H6 c6 m1 ne1 f6 w6 l6 u6 hR1 => ?_⟩
      have F6 : Fr W H5 H6 := (Fr.new n0).trans f6
      refine ⟨.ref W, rfl, .ref e1, rfl, W, e1, c6, 5, m1, rfl, w6, by omega, hR1, fun e2 H7 c7 m2 ne2 f7 w7 l7 u7 hR2 => ?_⟩
      have hR1 := hR1.fr f7 w6
      refine ⟨.ref W, rfl, .ref e2, rfl, .ref e1, rfl, (by show 2 ≤ sizeLine; decide), fun b8 n8 => ?_⟩
      have s8 := same_new (o := .lst [V.ref e2, .ref e1]) n8
      have w8 := w7.same s8
      refine ⟨.ref W, rfl, do_draw w8 (by decide) (by decide) (by omega) fun r8 hr8 H9 c9 f9 w9 l9 u9 => ?_⟩
      have k79 : Fr W H7 H9 := (Fr.same s8).trans f9
      have hR1 := hR1.fr k79 w7
      have hR2 := hR2.fr k79 w7
      have h9 : H9 b8 = some (.lst [V.ref e2, .ref e1]) := f9 _ _ (w7.ne n8) upd_same
      have F9 : Fr W H5 H9 := F6.trans (f7.trans k79)
      obtain ⟨ex, mx, hx9, hRx⟩ : ∃ ex mx, atI [V.ref e2, .ref e1] (r8 : Int) = some (.ref ex) ∧ RowsAt K H9 ex 5 mx := by
        rcases (show r8 = 0 ∨ r8 = 1 by omega) with rfl | rfl
        · exact ⟨e2, m2, rfl, hR2⟩
        · exact ⟨e1, m1, rfl, hR1⟩
      refine ⟨b8, _, (r8 : Int), .ref ex, rfl, rfl, SqL.of h9, hx9, W, ex, c9, 5, mx, rfl, w9, by omega, hRx, fun e3 H10 c10 m3 ne3 f10 w10 l10 u10 hR3 => ?_⟩
      have hR1 := hR1.fr f10 w9
      have hR2 := hR2.fr f10 w9
      have F10 : Fr W H5 H10 := F9.trans f10
      have hL10 := F10 _ _ LW (s5 _ _ hL)
      obtain ⟨t1, g1, hH1, hO1⟩ := hR1
      obtain ⟨t2, g2, hH2, hO2⟩ := hR2
      obtain ⟨t3, g3, hH3, hO3⟩ := hR3
      have hE1 : ∀ {H' : Hp}, Same H10 H' → RowsAt K H' e1 5 m1 := fun {H'} s => RowsAt.same ⟨t1, g1, hH1, hO1⟩ s
      have hE2 : ∀ {H' : Hp}, Same H10 H' → RowsAt K H' e2 5 m2 := fun {H'} s => RowsAt.same ⟨t2, g2, hH2, hO2⟩ s
      have hE3 : ∀ {H' : Hp}, Same H10 H' → RowsAt K H' e3 5 m3 := fun {H'} s => RowsAt.same ⟨t3, g3, hH3, hO3⟩ s
      have lt2 : t2.length ≤ 5 := hO2.len
      refine ⟨.ref e2, rfl, e2, kT t2, t2.map (·.1), rfl, .inl g2, keys_kT t2, (by rw [List.length_map]; omega), fun ys p hp hs np => ⟨1, rfl, rfl, .inl ⟨p, ys.map V.str, rfl, SqL.of upd_same, fun pb npb => ⟨pb, rfl, ⟨_, SqL.of upd_same⟩, fun D hD => ?_⟩⟩⟩⟩
      have sp := (same_new (o := .lst (ys.map V.str)) np).trans (same_new (o := .lst (ys.map V.str).reverse) npb)
      have hpb : (upd (upd H10 p (.lst (ys.map V.str))) pb (.lst (ys.map V.str).reverse)) pb = some (.lst ((ys.reverse).map V.str)) := by rw [upd_same, List.map_reverse]
      generalize upd (upd H10 p (.lst (ys.map V.str))) pb (.lst (ys.map V.str).reverse) = H11 at sp hpb hD
      have memr : ∀ {x : Str}, x ∈ ys.reverse → ∃ v r, m2 x = some r ∧ valV t2 x = some v ∧ RwV K H10 v r := fun {x} hx => by
        have z := hH2.mem.mp (hp.mem_iff.mp (List.mem_reverse.mp hx))
        cases e1 : m2 x with
        | none => rw [e1] at z; cases z
        | some r =>
          obtain ⟨v, hv, rv⟩ := hH2.at e1
          exact ⟨v, r, rfl, hv, rv⟩
      have nr : ys.reverse.Nodup := (List.reverse_perm ys).nodup_iff.mpr (hp.nodup_iff.mpr hO2.nd)
      have lr : ys.reverse.length ≤ 5 := by rw [List.length_reverse, hp.length_eq, List.length_map]; exact lt2
      refine lc_pairs (us := ys.reverse) (val := V.str) yields_list (fun x => x) (RwV K) (fun x => (m2 x).getD (none, none)) (fun _ => true) (fun x => [some (.ref a), some (.int n), some (.ref W), some (.ref e1), some (.ref e2), some (.ref e3), z6, some (.str x), z8, z9, z10, z11, z12, z13, z14, z15, z16, z17]) hD (fun H5 s5 => SqL.of (s5 _ _ hpb)) (fun _ _ => rfl)
        (fun H5 x _ _ S k => k) (fun H5 x _ _ S k => k H5 (Same.refl H5)) (fun _ _ _ _ k h => h.keep k) (fun H5 x s5 hx _ S k => ?_) (by omega) (fun as H12 s12 h12 pr => ?_)
      · obtain ⟨v, r, e1, hv, rv⟩ := memr hx
        have s15 := sp.trans s5
        have d1 := dget_kT (.inl (s15 _ _ g2)) x
        rw [hv] at d1
        refine ⟨.str x, rfl, .ref e2, rfl, .str x, rfl, e2, _, rfl, d1, (by show 2 ≤ sizeLine; decide), fun tp ntp => ?_⟩
        have st := same_new (o := .tup [.str x, v]) ntp
        refine k tp v _ st upd_same ?_
        show RwV K _ v ((m2 x).getD (none, none))
        rw [e1]
        exact rv.keep (TupKeep.of (s15.trans st))
      rw [filt_all] at pr
      obtain ⟨tab, p1', p2'⟩ := rows_pairs (g := m2) (n := 5) (kf := fun x : Str => x) (by rw [List.map_id']; exact nr) (fun x hx => by
          obtain ⟨v, r, e1, hv, rv⟩ := memr hx
          show m2 x = some ((m2 x).getD (none, none))
          rw [e1]
          rfl) (fun x hx => by
          rw [List.map_id'] at hx
          cases e1 : m2 x with
          | none => rfl
          | some r => exact absurd (List.mem_reverse.mpr (hp.mem_iff.mpr (hH2.mem.mpr (by rw [e1]; rfl)))) hx) pr (fun x hx => hO2.path x (hp.mem_iff.mp (List.mem_reverse.mp hx))) (fun x hx => by
          obtain ⟨v, r, e1, hv, rv⟩ := memr hx
          show GoodR ((m2 x).getD (none, none))
          rw [e1]
          exact hO2.good x r e1) lr
      refine ⟨D, as, kT tab, rfl, .inl (.inl h12), p1', fun pT npT => ?_⟩
      have hT := p2' pT npT
      have sT := (sp.trans s12).trans (same_new (o := .dK (mergeK [] (kT tab))) npT)
      generalize upd H12 pT (.dK (mergeK [] (kT tab))) = H13 at sT hT
      clear p1' p2' pr h12 s12 hD
      refine ⟨.ref e1, rfl, do_changeA (m := m1) (n := 5) (hE1 sT) (by decide) fun cc cx cd H14 _ _ s14 hC => ?_⟩
      refine ⟨.ref pT, rfl, do_changeA (m := m2) (n := 5) (hT.same s14) (by decide) fun dd dx dd' H15 _ _ s15 hDD => ?_⟩
      refine ⟨.ref e3, rfl, do_changeA (m := m3) (n := 5) (hE3 (sT.trans (s14.trans s15))) (by decide) fun ee ex' ed H16 _ _ s16 hEE => ?_⟩
      have S16 := sT.trans (s14.trans (s15.trans s16))
      have hC := hC.same (s15.trans s16)
      have hDD := hDD.same s16
      refine ⟨_, _, _, rfl, ?_⟩
      have shown : ∀ {H' : Hp}, Same H10 H' → Dq K H' (.ref e1) (rowsD (t1.map (·.1)) m1) ∧ Dq K H' (.ref e2) (rowsD (t2.map (·.1)) m2) ∧ Dq K H' (.ref e3) (rowsD (t3.map (·.1)) m3) := fun {H'} s =>
        ⟨dq_rows (s _ _ g1) (hH1.imp fun _ _ x => x.keep (TupKeep.of s)) hO1.nd, dq_rows (s _ _ g2) (hH2.imp fun _ _ x => x.keep (TupKeep.of s)) hO2.nd, dq_rows (s _ _ g3) (hH3.imp fun _ _ x => x.keep (TupKeep.of s)) hO3.nd⟩
      have can := three_shown (rows_facts hO1.good hO1.path (by rw [List.length_map]; have := hO1.len; omega)) (rows_facts hO2.good hO2.path (by rw [List.length_map]; have := hO2.len; omega)) (rows_facts hO3.good hO3.path (by rw [List.length_map]; have := hO3.len; omega))
      generalize hTX : PyData.tuple [rowsD (t1.map (·.1)) m1, rowsD (t2.map (·.1)) m2, rowsD (t3.map (·.1)) m3] = TX at can
      refine ⟨.ref e1, rfl, .ref e2, rfl, .ref e3, rfl, (by show 3 ≤ sizeLine; decide), fun tp ntp => ?_⟩
      have stp := same_new (o := .tup [V.ref e1, .ref e2, .ref e3]) ntp
      obtain ⟨q1, q2, q3⟩ := shown (S16.trans stp)
      refine ⟨tp, TX, rfl, by rw [← hTX]; exact .tup (SqT.of upd_same) (.cons q1 (.cons q2 (.cons q3 .nil))), can.1, can.2.1, can.2.2, ?_⟩
      have S17 := S16.trans stp
      have hC := hC.same stp
      have hDD := hDD.same stp
      have hEE := hEE.same stp
      have w17 : Wl (upd H16 tp (.tup [V.ref e1, .ref e2, .ref e3])) W c10 := w10.same S17
      generalize upd H16 tp (.tup [V.ref e1, .ref e2, .ref e3]) = H17 at S17 hC hDD hEE w17
      refine ⟨.ref cc, rfl, .ref e1, rfl, (by show 2 ≤ sizeLine; decide), fun q1' nq1 => ?_⟩
      have u1 := same_new (o := .tup [V.ref cc, .ref e1]) nq1
      refine ⟨.ref dd, rfl, .ref e2, rfl, (by show 2 ≤ sizeLine; decide), fun q2' nq2 => ?_⟩
      have u2 := same_new (o := .tup [V.ref dd, .ref e2]) nq2
      refine ⟨.ref ee, rfl, .ref e3, rfl, (by show 2 ≤ sizeLine; decide), fun q3' nq3 => ?_⟩
      have u3 := same_new (o := .tup [V.ref ee, .ref e3]) nq3
      have v1 := u3 _ _ (u2 _ _ (upd_same (H := H17) (a := q1') (o := .tup [V.ref cc, .ref e1])))
      have v2 := u3 _ _ (upd_same (H := upd H17 q1' (.tup [V.ref cc, .ref e1])) (a := q2') (o := .tup [V.ref dd, .ref e2]))
      have v3 := upd_same (H := upd (upd H17 q1' (.tup [V.ref cc, .ref e1])) q2' (.tup [V.ref dd, .ref e2])) (a := q3') (o := .tup [V.ref ee, .ref e3])
      have U3 := u1.trans (u2.trans u3)
      generalize upd (upd (upd H17 q1' (.tup [V.ref cc, .ref e1])) q2' (.tup [V.ref dd, .ref e2])) q3' (.tup [V.ref ee, .ref e3]) = H20 at U3 v1 v2 v3
      refine fun e0' n0' => do_changeA (rows_none upd_same) (n := 5) (by decide) fun c0 cx0 cd0 H21 _ _ s21 hC0 => ?_
      have s21 := (same_new (o := .dK []) n0').trans s21
      refine fun e9 n9 => ⟨(by show 2 ≤ sizeLine; decide), fun q4' nq4 => ?_⟩
      have u4 := same_new (o := .dK []) n9
      have u5 := same_new (o := .tup [V.ref c0, .ref e9]) nq4
      have v4 := u5 _ _ (upd_same (H := H21) (a := e9) (o := .dK []))
      have v5 := upd_same (H := upd H21 e9 (.dK [])) (a := q4') (o := .tup [V.ref c0, .ref e9])
      refine ⟨(by show 4 ≤ sizeLine; decide), fun qL nqL => ?_⟩
      have u6 := same_new (o := .lst [V.ref q1', .ref q2', .ref q3', .ref q4']) nqL
      have U6 := u4.trans (u5.trans u6)
      have v4 := u6 _ _ v4
      have v5 := u6 _ _ v5
      have v6 := upd_same (H := upd (upd H21 e9 (.dK [])) q4' (.tup [V.ref c0, .ref e9])) (a := qL) (o := .lst [V.ref q1', .ref q2', .ref q3', .ref q4'])
      generalize upd (upd (upd H21 e9 (.dK [])) q4' (.tup [V.ref c0, .ref e9])) qL (.lst [V.ref q1', .ref q2', .ref q3', .ref q4']) = H22 at U6 v4 v5 v6
      have S22 := U3.trans (s21.trans U6)
      have hC := hC.same S22
      have hDD := hDD.same S22
      have hEE := hEE.same S22
      have hC0 := hC0.same U6
      have S10 := S17.trans S22
      have w22 := w17.same S22
      have key : ∀ x ∈ [V.ref q1', .ref q2', .ref q3', .ref q4'], ∃ q' a' dx' d' e' m', x = V.ref q' ∧ H22 q' = some (.tup [.ref a', .ref e']) ∧ ChAt K C H22 a' dx' d' 5 m' ∧ RowsAt K H22 e' 5 m' := fun x hx => by
        simp only [List.mem_cons, List.not_mem_nil, or_false] at hx
        rcases hx with rfl | rfl | rfl | rfl
        · exact ⟨q1', cc, _, _, e1, m1, rfl, (s21.trans U6) _ _ v1, hC, hE1 S10⟩
        · exact ⟨q2', dd, _, _, e2, m2, rfl, (s21.trans U6) _ _ v2, hDD, hE2 S10⟩
        · exact ⟨q3', ee, _, _, e3, m3, rfl, (s21.trans U6) _ _ v3, hEE, hE3 S10⟩
        · exact ⟨q4', c0, _, _, e9, _, rfl, v5, hC0, rows_none v4⟩
      refine ⟨qL, rfl, ⟨_, SqL.of v6⟩, ?_⟩
      refine forG (items := [V.ref q1', .ref q2', .ref q3', .ref q4']) yields_list (fun i σ H' => Same H22 H' ∧ ∃ y12 y13, σ = [some (.ref a), some (.int n), some (.ref W), some (.ref e1), some (.ref e2), some (.ref e3), some (.ref pT), z7, some (.ref cc), some (.ref dd), some (.ref ee), some (.str TX.shown), y12, y13, z14, z15, z16, z17])
        ⟨Same.refl H22, _, _, rfl⟩ (fun i σ H' I => SqL.of (I.1 _ _ v6)) (fun i x σ H' hi I => ?_) (fun σ H' I => ?_)
      · obtain ⟨s1, y12, y13, rfl⟩ := I
        obtain ⟨q', a', dx', d', e', m', rfl, hq, hA', hR'⟩ := key x (List.mem_of_getElem? hi)
        refine ⟨q', _, rfl, SqT.of (s1 _ _ hq), rfl, _, _, rfl, _, _, rfl, rfl, ?_⟩
        exact ⟨.ref a', rfl, .ref e', rfl, a', dx', d', e', 5, m', rfl, hA'.same s1, hR'.same s1, by decide, fun H' s' => ⟨_, rfl, iteF ⟨s1.trans s', _, _, rfl⟩⟩⟩
      obtain ⟨S23, y12, y13, rfl⟩ := I
      have hC := hC.same S23
      have hDD := hDD.same S23
      have hEE := hEE.same S23
      have S10 := S10.trans S23
      have w23 := w22.same S23
      have tyC : ∀ {H' : Hp} {z dz d'z : Addr} {mz : Mp Rw} {nz : Nat}, ChAt K C H' z dz d'z nz mz → TyX K H' (.ref z) (.ref C) := fun {H' z dz d'z mz nz} h => .base (.ins h.1 T.insC.cl T.insC.ha T.insC.hn T.insC.htk T.insC.hm)
      refine ⟨.ref cc, rfl, .ref dd, rfl, .ref cc, .ref dd, 5, 5, some m1, some m2, rfl, ⟨cc, _, _, rfl, hC⟩, ⟨dd, _, _, rfl, hDD⟩, by decide, fun r1 Ha sa hr1 => ?_⟩
      refine ⟨.ref e1, rfl, .ref e2, rfl, .ref e1, .ref e2, 5, 5, some m1, some m2, rfl, ⟨e1, rfl, hE1 (S10.trans sa)⟩, ⟨e2, rfl, hE2 (S10.trans sa)⟩, by decide, fun r2 Hb sb hr2 => ?_⟩
      refine ⟨r1, r2, 5 + 5 + 5, 5 + 5, sumO (some m1) (some m2), rfl, hr1.same sb, hr2, by decide, by decide, fun Hc sc => ⟨_, rfl, iteF ?_⟩⟩
      have sac := sa.trans (sb.trans sc)
      have hC := hC.same sac
      have hDD := hDD.same sac
      have hEE := hEE.same sac
      have S10 := S10.trans sac
      have wc := w23.same sac
      obtain ⟨tc1, gc1, hc1, oc1⟩ := hE1 S10
      obtain ⟨tc2, gc2, hc2, oc2⟩ := hE2 S10
      refine ⟨.ref cc, rfl, .ref dd, rfl, cc, _, _, .ref C, rfl, hC.1, tyC hDD, T.notC, cc, _, _, 5, m1, .ref dd, rfl, hC, .inl ⟨dd, _, _, 5, m2, rfl, hDD, fun b1 hb1 => ⟨b1, rfl, .ref e1, rfl, .ref e2, rfl, rows_eq (c := b1) gc1 gc2 hc1 hc2 oc1 oc2 hb1 ⟨(by cases b1 <;> rfl), _, rfl, ?_⟩⟩⟩⟩
      rw [decide_eq_true rfl]
      refine iteF ?_
      refine ⟨.ref cc, rfl, .ref dd, rfl, .ref cc, .ref dd, 5, 5, some m1, some m2, rfl, ⟨cc, _, _, rfl, hC⟩, ⟨dd, _, _, rfl, hDD⟩, by decide, fun r3 Hd sd hr3 => ?_⟩
      refine ⟨.ref ee, rfl, r3, .ref ee, 5 + 5 + 5, 5, sumO (some m1) (some m2), some m3, rfl, hr3, ⟨ee, _, _, rfl, hEE.same sd⟩, by decide, fun r4 He se hr4 => ?_⟩
      have sde := sd.trans se
      refine ⟨.ref cc, rfl, .ref dd, rfl, .ref ee, rfl, .ref dd, .ref ee, 5, 5, some m2, some m3, rfl, ⟨dd, _, _, rfl, hDD.same sde⟩, ⟨ee, _, _, rfl, hEE.same sde⟩, by decide, fun r5 Hf sf hr5 => ?_⟩
      refine ⟨.ref cc, r5, 5, 5 + 5 + 5, some m1, sumO (some m2) (some m3), rfl, ⟨cc, _, _, rfl, hC.same (sde.trans sf)⟩, hr5, by decide, fun r6 Hg sg hr6 => ?_⟩
      rw [← sumO_assoc] at hr6
      have sdg := sde.trans (sf.trans sg)
      have hr4 := hr4.same (sf.trans sg)
      have hC := hC.same sdg
      have hDD := hDD.same sdg
      have hEE := hEE.same sdg
      have S10 := S10.trans sdg
      have wg := wc.same sdg
      refine ⟨r4, rfl, .ref e1, rfl, .ref e2, rfl, .ref e1, .ref e2, 5, 5, some m1, some m2, rfl, ⟨e1, rfl, hE1 S10⟩, ⟨e2, rfl, hE2 S10⟩, by decide, fun r7 Hh sh hr7 => ?_⟩
      refine ⟨.ref e3, rfl, r7, .ref e3, 5 + 5, 5, sumO (some m1) (some m2), some m3, rfl, hr7, ⟨e3, rfl, hE3 (S10.trans sh)⟩, by decide, fun r8' Hi si hr8' => ?_⟩
      refine ⟨r4, r8', 5 + 5 + 5 + 5 + (5 + 5 + 5), 5 + 5 + 5, sumO (sumO (some m1) (some m2)) (some m3), rfl, hr4.same (sh.trans si), hr8', by decide, by decide, fun Hj sj => ⟨_, rfl, iteF ?_⟩⟩
      have shj := sh.trans (si.trans sj)
      have hr4 := hr4.same shj
      have hr6 := hr6.same shj
      have hC := hC.same shj
      have hDD := hDD.same shj
      have hEE := hEE.same shj
      have S10 := S10.trans shj
      have wj := wg.same shj
      have e46 : decide (r6 = V.non) = decide (r4 = V.non) := by
        cases ho : sumO (sumO (some m1) (some m2)) (some m3) with
        | none =>
          rw [ho] at hr4 hr6
          rw [show r4 = .non from hr4, show r6 = .non from hr6]
        | some mm =>
          rw [ho] at hr4 hr6
          obtain ⟨_, _, _, h4, _⟩ := hr4
          obtain ⟨_, _, _, h6, _⟩ := hr6
          rw [h4, h6]
          rfl
      refine ⟨r4, rfl, rfl, r6, rfl, rfl, rfl, _, rfl, ?_⟩
      rw [e46, decide_eq_true rfl]
      refine iteF ?_
      refine ⟨fun σ' H' => σ' = [some (.ref a), some (.int n), some (.ref W), some (.ref e1), some (.ref e2), some (.ref e3), some (.ref pT), z7, some (.ref cc), some (.ref dd), some (.ref ee), some (.str TX.shown), y12, y13, some r4, some r6, z16, z17] ∧ Same Hj H', ?first, ?rest⟩
      case first =>
        refine ⟨r4, rfl, rfl, _, rfl, ?_⟩
        cases ho : sumO (sumO (some m1) (some m2)) (some m3) with
        | none =>
          rw [ho] at hr4
          obtain rfl : r4 = .non := hr4
          exact iteF ⟨rfl, Same.refl Hj⟩
        | some mm =>
          rw [ho] at hr4 hr6
          obtain ⟨a4, x4, d4, rfl, h4⟩ := hr4
          obtain ⟨a6, x6, d6, rfl, h6⟩ := hr6
          rw [decide_eq_false (fun z => by cases z)]
          refine iteT ?_
          refine ⟨.ref a4, rfl, .ref a6, rfl, a4, x4, _, .ref C, rfl, h4.1, tyC h6, T.notC, a4, x4, d4, _, mm, .ref a6, rfl, h4, .inl ⟨a6, x6, d6, _, mm, rfl, h6, fun b2 hb2 => ?_⟩⟩
          rw [show b2 = true from hb2.mpr rfl]
          exact ⟨_, rfl, _, rfl, iteF ⟨rfl, Same.refl Hj⟩⟩
      case rest =>
        rintro σ' Hk ⟨rfl, sk⟩
        have hC := hC.same sk
        have hDD := hDD.same sk
        have S10 := S10.trans sk
        have wk := wj.same sk
        refine ⟨fun σ' H' => σ' = [some (.ref a), some (.int n), some (.ref W), some (.ref e1), some (.ref e2), some (.ref e3), some (.ref pT), z7, some (.ref cc), some (.ref dd), some (.ref ee), some (.str TX.shown), y12, y13, some r4, some r6, z16, z17] ∧ Same Hk H', ?first, ?rest⟩
        case first =>
          refine ⟨.ref e1, rfl, .ref e2, rfl, .ref e1, .ref e2, 5, 5, some m1, some m2, rfl, ⟨e1, rfl, hE1 S10⟩, ⟨e2, rfl, hE2 S10⟩, by decide, fun r9 Hl sl hr9 => ?_⟩
          refine ⟨rfl, _, rfl, ?_⟩
          have := Classical.propDecidable (fitsM m1 m2)
          by_cases ft : fitsM m1 m2
          · rw [sumO_fit ft] at hr9
            obtain ⟨e9', rfl, _⟩ := hr9
            rw [decide_eq_false (fun z => by cases z)]
            refine iteT ?_
            have hC := hC.same sl
            have hDD := hDD.same sl
            refine ⟨.ref cc, rfl, .ref dd, rfl, cc, _, _, rfl, hC.1, .ins hDD.1, cc, _, _, 5, m1, .ref dd, rfl, hC, .inl ⟨dd, _, _, 5, m2, rfl, hDD, by decide, .inl ⟨ft, fun ca xa da Hm _ _ sm hA1 => ⟨ca, rfl, ?_⟩⟩⟩⟩
            refine ⟨ca, xa, _, rfl, hA1.1, ca, xa, da, 5 + 5 + 5, _, rfl, hA1, by decide, fun cb xb db Hn _ _ sn hB1 => ?_⟩
            have hDD := hDD.same (sm.trans sn)
            refine ⟨.ref dd, rfl, dd, _, _, rfl, hDD.1, dd, _, _, 5, m2, rfl, hDD, by decide, fun cn xn dn Ho _ _ so hN1 => ?_⟩
            have hC := hC.same (sm.trans (sn.trans so))
            refine ⟨.ref cc, rfl, cc, _, _, rfl, hC.1, cc, _, _, 5, m1, rfl, hC, by decide, fun co xo do' Hp _ _ sp' hO1' => ?_⟩
            have hN1 := hN1.same sp'
            refine ⟨cn, xn, _, rfl, hN1.1, .ins hO1'.1, cn, xn, dn, 5, negM m2, .ref co, rfl, hN1, .inl ⟨co, xo, do', 5, negM m1, rfl, hO1', by decide, .inl ⟨neg_fits ft, fun cp xp dp Hq _ _ sq hP1 => ⟨cp, rfl, ?_⟩⟩⟩⟩
            have hB1 := hB1.same (so.trans (sp'.trans sq))
            rw [neg_sum] at hP1
            refine ⟨cb, xb, _, .ref C, rfl, hB1.1, tyC hP1, T.notC, cb, xb, db, _, _, .ref cp, rfl, hB1, .inl ⟨cp, xp, dp, _, _, rfl, hP1, fun b3 hb3 => ?_⟩⟩
            rw [show b3 = true from hb3.mpr rfl]
            exact ⟨_, rfl, _, rfl, iteF ⟨rfl, sl.trans (sm.trans (sn.trans (so.trans (sp'.trans sq))))⟩⟩
          · rw [sumO_not ft] at hr9
            obtain rfl : r9 = .non := hr9
            exact iteF ⟨rfl, sl⟩
        case rest =>
          rintro σ' Hl ⟨rfl, sl⟩
          have hC := hC.same sl
          have S10 := S10.trans sl
          have wl := wk.same sl
          refine ⟨(by show 0 ≤ sizeLine; decide), fun k1 nk1 => ?_⟩
          have x1 := same_new (o := .lst []) nk1
          have kk1 := upd_same (H := Hl) (a := k1) (o := .lst [])
          have k1W : k1 ≠ W := wl.ne nk1
          have w1 := wl.same x1
          generalize upd Hl k1 (.lst []) = G1 at x1 kk1 w1
          refine ⟨(by show 1 ≤ sizeLine; decide), fun k2 nk2 => ?_⟩
          have x2 := same_new (o := .tup [V.str "a"]) nk2
          have kk2 := upd_same (H := G1) (a := k2) (o := .tup [V.str "a"])
          generalize upd G1 k2 (.tup [V.str "a"]) = G2 at x2 kk2
          refine fun k3 nk3 => ⟨upd_same, [(.inr "a", .non)], rfl, (by decide), ?_⟩
          have x3 := same_mut (same_new (o := .dK []) nk3) (o := .dK (mergeK [] [((.inr "a" : Key), V.non)])) nk3
          have kk3 : (upd (upd G2 k3 (.dK [])) k3 (.dK (mergeK [] [((.inr "a" : Key), V.non)]))) k3 = some (.dK (kT [("a", .non)])) := upd_same
          generalize upd (upd G2 k3 (.dK [])) k3 (.dK (mergeK [] [((.inr "a" : Key), V.non)])) = G3 at x3 kk3
          refine fun k4 nk4 => ⟨(by show 1 ≤ sizeLine; decide), fun t4 nt4 => ⟨(same_new nt4) _ _ upd_same, [(.inr "a", .ref t4)], rfl, (by show 1 ≤ 15; decide), ?_⟩⟩
          have x4 := same_mut ((same_new (o := .dK []) nk4).trans (same_new (o := .tup [V.non]) nt4)) (o := .dK (mergeK [] [((.inr "a" : Key), V.ref t4)])) nk4
          have t4k : t4 ≠ k4 := fun z => by rw [z, upd_same] at nt4; cases nt4
          have tt4 : (upd (upd (upd G3 k4 (.dK [])) t4 (.tup [V.non])) k4 (.dK (mergeK [] [((.inr "a" : Key), V.ref t4)]))) t4 = some (.tup [V.non]) := by rw [upd_ne t4k, upd_same]
          have kk4 : (upd (upd (upd G3 k4 (.dK [])) t4 (.tup [V.non])) k4 (.dK (mergeK [] [((.inr "a" : Key), V.ref t4)]))) k4 = some (.dK (kT [("a", .ref t4)])) := upd_same
          generalize upd (upd (upd G3 k4 (.dK [])) t4 (.tup [V.non])) k4 (.dK (mergeK [] [((.inr "a" : Key), V.ref t4)])) = G4 at x4 kk4 tt4
          refine fun k5 nk5 => ⟨(by show 2 ≤ sizeLine; decide), fun t5 nt5 => ⟨(same_new nt5) _ _ upd_same, [(.inr "", .ref t5)], rfl, (by show 1 ≤ 15; decide), ?_⟩⟩
          have x5 := same_mut ((same_new (o := .dK []) nk5).trans (same_new (o := .tup [V.non, .non]) nt5)) (o := .dK (mergeK [] [((.inr "" : Key), V.ref t5)])) nk5
          have kk5 : (upd (upd (upd G4 k5 (.dK [])) t5 (.tup [V.non, .non])) k5 (.dK (mergeK [] [((.inr "" : Key), V.ref t5)]))) k5 = some (.dK (kT [("", .ref t5)])) := upd_same
          generalize upd (upd (upd G4 k5 (.dK [])) t5 (.tup [V.non, .non])) k5 (.dK (mergeK [] [((.inr "" : Key), V.ref t5)])) = G5 at x5 kk5
          refine fun k6 nk6 => ⟨(by show 2 ≤ sizeLine; decide), fun t6 nt6 => ⟨(same_new nt6) _ _ upd_same, [(.inr "a", .ref t6)], rfl, (by show 1 ≤ 15; decide), ?_⟩⟩
          have x6 := same_mut ((same_new (o := .dK []) nk6).trans (same_new (o := .tup [V.int 3, .non]) nt6)) (o := .dK (mergeK [] [((.inr "a" : Key), V.ref t6)])) nk6
          have t6k : t6 ≠ k6 := fun z => by rw [z, upd_same] at nt6; cases nt6
          have tt6 : (upd (upd (upd G5 k6 (.dK [])) t6 (.tup [V.int 3, .non])) k6 (.dK (mergeK [] [((.inr "a" : Key), V.ref t6)]))) t6 = some (.tup [V.int 3, .non]) := by rw [upd_ne t6k, upd_same]
          have kk6 : (upd (upd (upd G5 k6 (.dK [])) t6 (.tup [V.int 3, .non])) k6 (.dK (mergeK [] [((.inr "a" : Key), V.ref t6)]))) k6 = some (.dK (kT [("a", .ref t6)])) := upd_same
          generalize upd (upd (upd G5 k6 (.dK [])) t6 (.tup [V.int 3, .non])) k6 (.dK (mergeK [] [((.inr "a" : Key), V.ref t6)])) = G6 at x6 kk6 tt6
          have y5 := x6
          have y4 := x5.trans y5
          have y3 := x4.trans y4
          have y2 := x3.trans y3
          have y1 := x2.trans y2
          have w6 := w1.same y1
          have X6 := x1.trans y1
          refine ⟨(by show 8 ≤ sizeLine; decide), fun kS nkS => ?_⟩
          have xS := same_new (o := .lst [V.non, .int 3, .ref k1, .ref k2, .ref k3, .ref k4, .ref k5, .ref k6]) nkS
          have wS := w6.same xS
          refine ⟨.ref W, rfl, .ref kS, rfl, do_pick wS upd_same (w6.ne nkS) (by show 0 < 8; decide) (by show 8 < 1000000; decide) (by omega) fun odd hodd H7 c7 f7 w7 l7 u7 => ?_⟩
          have fS : Fr W Hl H7 := (Fr.same (X6.trans xS)).trans f7
          have at7 : ∀ {b : Addr} {o : HO}, b ≠ W → G6 b = some o → H7 b = some o := fun {b o} nb z => f7 _ _ nb (xS _ _ z)
          have nl : ∀ {b : Addr} {o : HO}, G6 b = some o → (∀ l, o ≠ .lst l) → b ≠ W := fun {b o} z no e => by
            obtain ⟨_, x, y, h⟩ := w6
            rw [e, h] at z
            exact no _ (Option.some.inj z).symm
          have h1 := at7 k1W (y1 _ _ kk1)
          have h2 := at7 (nl (y2 _ _ kk2) fun _ z => nomatch z) (y2 _ _ kk2)
          have h3 := at7 (nl (y3 _ _ kk3) fun _ z => nomatch z) (y3 _ _ kk3)
          have h4 := at7 (nl (y4 _ _ kk4) fun _ z => nomatch z) (y4 _ _ kk4)
          have h4' := at7 (nl (y4 _ _ tt4) fun _ z => nomatch z) (y4 _ _ tt4)
          have h5 := at7 (nl (y5 _ _ kk5) fun _ z => nomatch z) (y5 _ _ kk5)
          have h6 := at7 (nl kk6 fun _ z => nomatch z) kk6
          have h6' := at7 (nl tt6 fun _ z => nomatch z) tt6
          have oa : OkS "a" := ok_by (by decide +kernel)
          have pa : isPathF "a" = true := by decide +kernel
          have nt : ∀ {H' : Hp} {v : V} {Ty : String}, TyX K H' v (.type Ty) → Ty ∈ (["NoneType", "int", "str", "list", "dict"] : List String) → NoTup K H' v := fun h m => ⟨_, m, h⟩
          obtain ⟨bad, apart⟩ : BadRows K H7 odd ∧ NotCh K H7 odd := by
            simp only [List.mem_cons, List.not_mem_nil, or_false] at hodd
            rcases hodd with rfl | rfl | rfl | rfl | rfl | rfl | rfl | rfl
            · exact ⟨.inl ⟨"NoneType", by decide, .base .non⟩, "NoneType", by decide, .base .non⟩
            · exact ⟨.inl ⟨"int", by decide, .base (.int 3)⟩, "int", by decide, .base (.int 3)⟩
            · exact ⟨.inl ⟨"list", by decide, .base (.lst h1)⟩, "list", by decide, .base (.lst h1)⟩
            · exact ⟨.inl ⟨"tuple", by decide, .base (.tup h2)⟩, "tuple", by decide, .base (.tup h2)⟩
            · exact ⟨.inr ⟨k3, "a", .non, rfl, h3, by decide, oa, .inr ⟨pa, fun H' _ _ => .inl (nt (.base .non) (by decide))⟩⟩, "dict", by decide, .base (.dK h3)⟩
            · exact ⟨.inr ⟨k4, "a", .ref t4, rfl, h4, by decide, oa, .inr ⟨pa, fun H' k _ => .inr (.inl ⟨t4, .non, rfl, .inl (k _ _ h4')⟩)⟩⟩, "dict", by decide, .base (.dK h4)⟩
            · exact ⟨.inr ⟨k5, "", .ref t5, rfl, h5, by decide, ok_by (by decide +kernel), .inl (by decide +kernel)⟩, "dict", by decide, .base (.dK h5)⟩
            · exact ⟨.inr ⟨k6, "a", .ref t6, rfl, h6, by decide, oa, .inr ⟨pa, fun H' k _ => .inr (.inr ⟨t6, .int 3, .non, rfl, .inl (k _ _ h6'), nt (.base (.int 3)) (by decide), fun z => nomatch z⟩)⟩⟩, "dict", by decide, .base (.dK h6)⟩
          have hC := hC.fr fS wl
          refine ⟨odd, rfl, odd, rfl, bad, fun H8 s8 => ⟨_, rfl, iteF ?_⟩⟩
          refine ⟨.ref cc, rfl, odd, rfl, cc, _, _, 5, m1, odd, rfl, hC.same s8, apart.same s8, fun H9 s9 => ⟨_, rfl, iteF ?_⟩⟩
          have A1 := fS _ _ (wl.neK (S10 _ _ g1)) (S10 _ _ g1)
          have A2 := fS _ _ (wl.neK (S10 _ _ g2)) (S10 _ _ g2)
          have A3 := fS _ _ (wl.neK (S10 _ _ g3)) (S10 _ _ g3)
          refine ⟨.ref e1, rfl, .ref e2, rfl, .ref e3, rfl, (by show 3 ≤ sizeLine; decide), fun tq ntq => ?_⟩
          have sq := (s8.trans s9).trans (same_new (o := .tup [V.ref e1, .ref e2, .ref e3]) ntq)
          have kq : TupKeep H10 (upd H9 tq (.tup [V.ref e1, .ref e2, .ref e3])) := ((TupKeep.of S10).trans (TupKeep.fr fS wl)).trans (TupKeep.of sq)
          refine ⟨tq, TX, rfl, ?_, can.1, can.2.1, can.2.2, .str TX.shown, rfl, rfl, _, rfl, ?_⟩
          · rw [← hTX]
            exact .tup (SqT.of upd_same) (.cons (dq_rows (sq _ _ A1) (hH1.imp fun _ _ x => x.keep kq) hO1.nd) (.cons (dq_rows (sq _ _ A2) (hH2.imp fun _ _ x => x.keep kq) hO2.nd) (.cons (dq_rows (sq _ _ A3) (hH3.imp fun _ _ x => x.keep kq) hO3.nd) .nil)))
          · rw [decide_eq_true rfl]
            refine iteF ?_
            exact ⟨sq _ _ (fS _ _ LW (S10 _ _ hL10)), _, _, _, _, _, _, _, _, _, _, _, _, _, _, _, _, _, rfl⟩
    · exact q H'
end

end Fk

set_option maxHeartbeats 4000000
namespace Fk
open PySem PySem.Spec PyProof.Rows L2
section
variable {P : Program} {w : World} {K : PySem.W.Frag} {mg : Str → Option Value} {base : Heap}
theorem ini_ForkError {f : Addr} {fd : FuncData} (F : C8.Fun K "__init__" "ForkError.__init__" s_ForkError_init f fd) : FnOk P w K mg base C8.CX0 1 f fd ["self", "why"] (spErr K "why") := by
  refine C8.fn0 F sc_ForkError_init (fun vs H Q E h => ?_) (fun cdv A outer s H vs Q E hr h => ?_)
  · obtain ⟨a, C, fI, y, rfl, _⟩ := h
    rfl
  · obtain ⟨a, C, fI, y, rfl, T, hno, ea, q⟩ := h
    refine ⟨_, pss_one (ps_osv (pv 0) (pv 1)), ?_⟩
    exact ⟨y, rfl, .ref a, rfl, a, C, fI, rfl, T, hno, ea, q⟩
end
theorem sub_ty {K : PySem.W.Frag} {C : Addr} : ∀ Ty ∈ OTY41, PySem.W.subIn K (.type Ty) (.ref C) = some false := by
  intro Ty h
  simp only [OTY41, List.mem_cons, List.not_mem_nil, or_false] at h
  rcases h with rfl | rfl | rfl | rfl | rfl <;> rfl
theorem find_ty {K : PySem.W.Frag} : ∀ Ty ∈ OTY41, ∃ fo ro, PySem.W.findIn K (.type Ty) "__add__" = some fo ∧ PySem.W.findIn K (.type Ty) "__radd__" = some ro := by
  intro Ty h
  simp only [OTY41, List.mem_cons, List.not_mem_nil, or_false] at h
  rcases h with rfl | rfl | rfl | rfl | rfl <;> exact ⟨_, _, rfl, rfl⟩
theorem all_mk {l : PySem.W.OpenLaw} {w : World} {K : PySem.W.Frag} {h : Heap} {mg : Str → Option Value} {fa : Addr} (X : K.In h) (G : h.Ns mainGlobals mg) (hfa : mg "law" = some (.ref fa))
    {f1 f2 f3 f4 f5 f6 f7 f8 f9 f10 f11 f12 f13 f14 f15 f16 f17 f18 f19 f20 f21 f22 : Addr} {od1 an1 od2 an2 od3 an3 od4 an4 od5 an5 od6 an6 od7 an7 od8 an8 od9 an9 od10 an10 od11 an11 od12 an12 od13 an13 od14 an14 od15 an15 od16 an16 od17 an17 od18 an18 od19 an19 od20 an20 od21 an21 od22 an22 : Option Addr} {sl1 sl2 sl3 sl4 sl5 sl6 sl7 sl8 sl9 sl10 sl11 sl12 sl13 sl14 sl15 sl16 sl17 sl18 sl19 sl20 sl21 sl22 : Array (Option Value)} {oc1 kV1 dc1 pm1 cd1 ct1 oc2 kV2 dc2 pm2 cd2 ct2 oc3 kV3 dc3 pm3 cd3 ct3 oc4 kV4 dc4 pm4 cd4 ct4 oc5 kV5 dc5 pm5 cd5 ct5 oc6 kV6 dc6 pm6 cd6 ct6 oc7 kV7 dc7 pm7 cd7 ct7 oc8 kV8 dc8 pm8 cd8 ct8 oc9 kV9 dc9 pm9 cd9 ct9 oc10 kV10 dc10 pm10 cd10 ct10 oc11 kV11 dc11 pm11 cd11 ct11 oc12 kV12 dc12 pm12 cd12 ct12 oc13 kV13 dc13 pm13 cd13 ct13 oc14 kV14 dc14 pm14 cd14 ct14 oc15 kV15 dc15 pm15 cd15 ct15 oc16 kV16 dc16 pm16 cd16 ct16 oc17 kV17 dc17 pm17 cd17 ct17 oc18 kV18 dc18 pm18 cd18 ct18 oc19 kV19 dc19 pm19 cd19 ct19 oc20 kV20 dc20 pm20 cd20 ct20 oc21 kV21 dc21 pm21 cd21 ct21 oc22 kV22 dc22 pm22 cd22 ct22 : Value} {t_HEX_DIGITS : Tok} {t_SEGMENT_SIGNS : Tok} {t_LONGEST_WORD : Tok}
    (a1 : PySem.W.nsIn K mainGlobals "is_id" = some (some (.ref f1))) (l1 : K.lookup f1 = some ⟨oc1, od1, .func (PySem.W.fnOf "is_id" "is_id" (C8.fnArgs s_is_id) (C8.fnBody s_is_id) (C8.fnScope s_is_id) .none kV1 dc1 pm1 an1 cd1 ct1), sl1⟩) (c1 : PySem.W.codeIn K cd1 "is_id" = true) (k1 : PySem.W.keepIn K (.ref f1) = true)
    (a2 : PySem.W.nsIn K mainGlobals "is_path" = some (some (.ref f2))) (l2 : K.lookup f2 = some ⟨oc2, od2, .func (PySem.W.fnOf "is_path" "is_path" (C8.fnArgs s_is_path) (C8.fnBody s_is_path) (C8.fnScope s_is_path) .none kV2 dc2 pm2 an2 cd2 ct2), sl2⟩) (c2 : PySem.W.codeIn K cd2 "is_path" = true) (k2 : PySem.W.keepIn K (.ref f2) = true)
    (a3 : PySem.W.nsIn K mainGlobals "is_segment" = some (some (.ref f3))) (l3 : K.lookup f3 = some ⟨oc3, od3, .func (PySem.W.fnOf "is_segment" "is_segment" (C8.fnArgs s_is_segment) (C8.fnBody s_is_segment) (C8.fnScope s_is_segment) .none kV3 dc3 pm3 an3 cd3 ct3), sl3⟩) (c3 : PySem.W.codeIn K cd3 "is_segment" = true) (k3 : PySem.W.keepIn K (.ref f3) = true)
    (a4 : PySem.W.nsIn K mainGlobals "ascending" = some (some (.ref f4))) (l4 : K.lookup f4 = some ⟨oc4, od4, .func (PySem.W.fnOf "ascending" "ascending" (C8.fnArgs s_ascending) (C8.fnBody s_ascending) (C8.fnScope s_ascending) .none kV4 dc4 pm4 an4 cd4 ct4), sl4⟩) (c4 : PySem.W.codeIn K cd4 "ascending" = true) (k4 : PySem.W.keepIn K (.ref f4) = true)
    (a5 : PySem.W.nsIn K mainGlobals "_is_word" = some (some (.ref f5))) (l5 : K.lookup f5 = some ⟨oc5, od5, .func (PySem.W.fnOf "_is_word" "_is_word" (C8.fnArgs s__is_word) (C8.fnBody s__is_word) (C8.fnScope s__is_word) .none kV5 dc5 pm5 an5 cd5 ct5), sl5⟩) (c5 : PySem.W.codeIn K cd5 "_is_word" = true) (k5 : PySem.W.keepIn K (.ref f5) = true)
    (a6 : PySem.W.nsIn K mainGlobals "is_value" = some (some (.ref f6))) (l6 : K.lookup f6 = some ⟨oc6, od6, .func (PySem.W.fnOf "is_value" "is_value" (C8.fnArgs s_is_value) (C8.fnBody s_is_value) (C8.fnScope s_is_value) .none kV6 dc6 pm6 an6 cd6 ct6), sl6⟩) (c6 : PySem.W.codeIn K cd6 "is_value" = true) (k6 : PySem.W.keepIn K (.ref f6) = true)
    (a7 : PySem.W.nsIn K mainGlobals "_check_change" = some (some (.ref f7))) (l7 : K.lookup f7 = some ⟨oc7, od7, .func (PySem.W.fnOf "_check_change" "_check_change" (C8.fnArgs s__check_change) (C8.fnBody s__check_change) (C8.fnScope s__check_change) .none kV7 dc7 pm7 an7 cd7 ct7), sl7⟩) (c7 : PySem.W.codeIn K cd7 "_check_change" = true) (k7 : PySem.W.keepIn K (.ref f7) = true)
    (a8 : PySem.W.nsIn K mainGlobals "_is_row" = some (some (.ref f8))) (l8 : K.lookup f8 = some ⟨oc8, od8, .func (PySem.W.fnOf "_is_row" "_is_row" (C8.fnArgs s__is_row) (C8.fnBody s__is_row) (C8.fnScope s__is_row) .none kV8 dc8 pm8 an8 cd8 ct8), sl8⟩) (c8 : PySem.W.codeIn K cd8 "_is_row" = true) (k8 : PySem.W.keepIn K (.ref f8) = true)
    (a9 : PySem.W.nsIn K mainGlobals "_is_value_or_none" = some (some (.ref f9))) (l9 : K.lookup f9 = some ⟨oc9, od9, .func (PySem.W.fnOf "_is_value_or_none" "_is_value_or_none" (C8.fnArgs s__is_value_or_none) (C8.fnBody s__is_value_or_none) (C8.fnScope s__is_value_or_none) .none kV9 dc9 pm9 an9 cd9 ct9), sl9⟩) (c9 : PySem.W.codeIn K cd9 "_is_value_or_none" = true) (k9 : PySem.W.keepIn K (.ref f9) = true)
    (a10 : PySem.W.nsIn K mainGlobals "_law_cell_at" = some (some (.ref f10))) (l10 : K.lookup f10 = some ⟨oc10, od10, .func (PySem.W.fnOf "_law_cell_at" "_law_cell_at" (C8.fnArgs s_l_cell_at) (C8.fnBody s_l_cell_at) (C8.fnScope s_l_cell_at) .none kV10 dc10 pm10 an10 cd10 ct10), sl10⟩) (c10 : PySem.W.codeIn K cd10 "_law_cell_at" = true) (k10 : PySem.W.keepIn K (.ref f10) = true)
    (a11 : PySem.W.nsIn K mainGlobals "_law_well" = some (some (.ref f11))) (l11 : K.lookup f11 = some ⟨oc11, od11, .func (PySem.W.fnOf "_law_well" "_law_well" (C8.fnArgs s_l_well) (C8.fnBody s_l_well) (C8.fnScope s_l_well) .none kV11 dc11 pm11 an11 cd11 ct11), sl11⟩) (c11 : PySem.W.codeIn K cd11 "_law_well" = true) (k11 : PySem.W.keepIn K (.ref f11) = true)
    (a12 : PySem.W.nsIn K mainGlobals "_law_draw" = some (some (.ref f12))) (l12 : K.lookup f12 = some ⟨oc12, od12, .func (PySem.W.fnOf "_law_draw" "_law_draw" (C8.fnArgs s_l_draw) (C8.fnBody s_l_draw) (C8.fnScope s_l_draw) .none kV12 dc12 pm12 an12 cd12 ct12), sl12⟩) (c12 : PySem.W.codeIn K cd12 "_law_draw" = true) (k12 : PySem.W.keepIn K (.ref f12) = true)
    (a13 : PySem.W.nsIn K mainGlobals "_law_pick" = some (some (.ref f13))) (l13 : K.lookup f13 = some ⟨oc13, od13, .func (PySem.W.fnOf "_law_pick" "_law_pick" (C8.fnArgs s_l_pick) (C8.fnBody s_l_pick) (C8.fnScope s_l_pick) .none kV13 dc13 pm13 an13 cd13 ct13), sl13⟩) (c13 : PySem.W.codeIn K cd13 "_law_pick" = true) (k13 : PySem.W.keepIn K (.ref f13) = true)
    (a14 : PySem.W.nsIn K mainGlobals "_law_value" = some (some (.ref f14))) (l14 : K.lookup f14 = some ⟨oc14, od14, .func (PySem.W.fnOf "_law_value" "_law_value" (C8.fnArgs s_l_value) (C8.fnBody s_l_value) (C8.fnScope s_l_value) .none kV14 dc14 pm14 an14 cd14 ct14), sl14⟩) (c14 : PySem.W.codeIn K cd14 "_law_value" = true) (k14 : PySem.W.keepIn K (.ref f14) = true)
    (a15 : PySem.W.nsIn K mainGlobals "_law_rows" = some (some (.ref f15))) (l15 : K.lookup f15 = some ⟨oc15, od15, .func (PySem.W.fnOf "_law_rows" "_law_rows" (C8.fnArgs s_l_rows) (C8.fnBody s_l_rows) (C8.fnScope s_l_rows) .none kV15 dc15 pm15 an15 cd15 ct15), sl15⟩) (c15 : PySem.W.codeIn K cd15 "_law_rows" = true) (k15 : PySem.W.keepIn K (.ref f15) = true)
    (a16 : PySem.W.nsIn K mainGlobals "_law_sum" = some (some (.ref f16))) (l16 : K.lookup f16 = some ⟨oc16, od16, .func (PySem.W.fnOf "_law_sum" "_law_sum" (C8.fnArgs s_l_sum) (C8.fnBody s_l_sum) (C8.fnScope s_l_sum) .none kV16 dc16 pm16 an16 cd16 ct16), sl16⟩) (c16 : PySem.W.codeIn K cd16 "_law_sum" = true) (k16 : PySem.W.keepIn K (.ref f16) = true)
    (a17 : PySem.W.nsIn K mainGlobals "_law_added" = some (some (.ref f17))) (l17 : K.lookup f17 = some ⟨oc17, od17, .func (PySem.W.fnOf "_law_added" "_law_added" (C8.fnArgs s_l_added) (C8.fnBody s_l_added) (C8.fnScope s_l_added) .none kV17 dc17 pm17 an17 cd17 ct17), sl17⟩) (c17 : PySem.W.codeIn K cd17 "_law_added" = true) (k17 : PySem.W.keepIn K (.ref f17) = true)
    (a18 : PySem.W.nsIn K mainGlobals "_law_is" = some (some (.ref f18))) (l18 : K.lookup f18 = some ⟨oc18, od18, .func (PySem.W.fnOf "_law_is" "_law_is" (C8.fnArgs s_l_is) (C8.fnBody s_l_is) (C8.fnScope s_l_is) .none kV18 dc18 pm18 an18 cd18 ct18), sl18⟩) (c18 : PySem.W.codeIn K cd18 "_law_is" = true) (k18 : PySem.W.keepIn K (.ref f18) = true)
    (a19 : PySem.W.nsIn K mainGlobals "_law_refused" = some (some (.ref f19))) (l19 : K.lookup f19 = some ⟨oc19, od19, .func (PySem.W.fnOf "_law_refused" "_law_refused" (C8.fnArgs s_l_refused) (C8.fnBody s_l_refused) (C8.fnScope s_l_refused) .none kV19 dc19 pm19 an19 cd19 ct19), sl19⟩) (c19 : PySem.W.codeIn K cd19 "_law_refused" = true) (k19 : PySem.W.keepIn K (.ref f19) = true)
    (a20 : PySem.W.nsIn K mainGlobals "_law_refuses" = some (some (.ref f20))) (l20 : K.lookup f20 = some ⟨oc20, od20, .func (PySem.W.fnOf "_law_refuses" "_law_refuses" (C8.fnArgs s_l_refuses) (C8.fnBody s_l_refuses) (C8.fnScope s_l_refuses) .none kV20 dc20 pm20 an20 cd20 ct20), sl20⟩) (c20 : PySem.W.codeIn K cd20 "_law_refuses" = true) (k20 : PySem.W.keepIn K (.ref f20) = true)
    (a21 : PySem.W.nsIn K mainGlobals "_law_one_right" = some (some (.ref f21))) (l21 : K.lookup f21 = some ⟨oc21, od21, .func (PySem.W.fnOf "_law_one_right" "_law_one_right" (C8.fnArgs s_l_one_right) (C8.fnBody s_l_one_right) (C8.fnScope s_l_one_right) .none kV21 dc21 pm21 an21 cd21 ct21), sl21⟩) (c21 : PySem.W.codeIn K cd21 "_law_one_right" = true) (k21 : PySem.W.keepIn K (.ref f21) = true)
    (a22 : PySem.W.nsIn K mainGlobals "law" = some (some (.ref f22))) (l22 : K.lookup f22 = some ⟨oc22, od22, .func (PySem.W.fnOf "law" "law" (C8.fnArgs s_law) (C8.fnBody s_law) (C8.fnScope s_law) .none kV22 dc22 pm22 an22 cd22 ct22), sl22⟩) (c22 : PySem.W.codeIn K cd22 "law" = true) (k22 : PySem.W.keepIn K (.ref f22) = true)
    (z_ValueError : PySem.W.nsIn K mainGlobals "ValueError" = some none)
    (z_all : PySem.W.nsIn K mainGlobals "all" = some none)
    (z_any : PySem.W.nsIn K mainGlobals "any" = some none)
    (z_dict : PySem.W.nsIn K mainGlobals "dict" = some none)
    (z_int : PySem.W.nsIn K mainGlobals "int" = some none)
    (z_isinstance : PySem.W.nsIn K mainGlobals "isinstance" = some none)
    (z_len : PySem.W.nsIn K mainGlobals "len" = some none)
    (z_list : PySem.W.nsIn K mainGlobals "list" = some none)
    (z_range : PySem.W.nsIn K mainGlobals "range" = some none)
    (z_sorted : PySem.W.nsIn K mainGlobals "sorted" = some none)
    (z_str : PySem.W.nsIn K mainGlobals "str" = some none)
    (z_tuple : PySem.W.nsIn K mainGlobals "tuple" = some none)
    (g_HEX_DIGITS : PySem.W.nsIn K mainGlobals "HEX_DIGITS" = some (some (.str (Str.ofString "0123456789abcdef") t_HEX_DIGITS)))
    (g_SEGMENT_SIGNS : PySem.W.nsIn K mainGlobals "SEGMENT_SIGNS" = some (some (.str (Str.ofString "abcdefghijklmnopqrstuvwxyz0123456789._-") t_SEGMENT_SIGNS)))
    (g_LONGEST_WORD : PySem.W.nsIn K mainGlobals "LONGEST_WORD" = some (some (.int 12 t_LONGEST_WORD)))
    {CA cF cN iF fk dT : Addr}
    {fmChange_init : Addr}
    {odmChange_init anmChange_init : Option Addr} {slmChange_init : Array (Option Value)} {ocmChange_init kVmChange_init dcmChange_init pmmChange_init cdmChange_init ctmChange_init : Value}
    {fmChange_plain : Addr}
    {odmChange_plain anmChange_plain : Option Addr} {slmChange_plain : Array (Option Value)} {ocmChange_plain kVmChange_plain dcmChange_plain pmmChange_plain cdmChange_plain ctmChange_plain : Value}
    {fmChange_is_apart : Addr}
    {odmChange_is_apart anmChange_is_apart : Option Addr} {slmChange_is_apart : Array (Option Value)} {ocmChange_is_apart kVmChange_is_apart dcmChange_is_apart pmmChange_is_apart cdmChange_is_apart ctmChange_is_apart : Value}
    {fmChange_add : Addr}
    {odmChange_add anmChange_add : Option Addr} {slmChange_add : Array (Option Value)} {ocmChange_add kVmChange_add dcmChange_add pmmChange_add cdmChange_add ctmChange_add : Value}
    {fmChange_neg : Addr}
    {odmChange_neg anmChange_neg : Option Addr} {slmChange_neg : Array (Option Value)} {ocmChange_neg kVmChange_neg dcmChange_neg pmmChange_neg cdmChange_neg ctmChange_neg : Value}
    {fmChange_eq : Addr}
    {odmChange_eq anmChange_eq : Option Addr} {slmChange_eq : Array (Option Value)} {ocmChange_eq kVmChange_eq dcmChange_eq pmmChange_eq cdmChange_eq ctmChange_eq : Value}
    {fpChange_rows qpChange_rows : Addr} {rpChange_rows : List Value}
    {odpChange_rows anpChange_rows : Option Addr} {slpChange_rows : Array (Option Value)} {ocpChange_rows kVpChange_rows dcpChange_rows pmpChange_rows cdpChange_rows ctpChange_rows : Value}
    {fko : Option Addr} {fkn : Nat} {fkl : Array (Option Value)} {tk1 tk2 : Tok}
    {qF : Str} {NF : Addr} {bsF subF : List Value} {snF : List Str} {abF : Bool} {colF : Option Bool} {ddF : Option Addr} {mF_0 mF_1 mF_2 mF_3 mF_5 : Option Value}
    {qN : Str} {NN : Addr} {bsN subN : List Value} {snN : List Str} {abN : Bool} {colN : Option Bool} {ddN : Option Addr} {mN_0 mN_1 mN_2 mN_3 mN_5 : Option Value}
    {odiF aniF : Option Addr} {sliF : Array (Option Value)} {ociF kViF dciF pmiF cdiF ctiF : Value}
    {tkd : Tok} {tcw : Value} {tow : Option Addr} {tnw : Nat} {tsw : Array (Option Value)}
    (eA_mg : PySem.W.nsIn K mainGlobals "Change" = some (some (.ref CA)))
    (eF_mg : PySem.W.nsIn K mainGlobals "ForkError" = some (some (.ref cF)))
    (eN_mg : PySem.W.nsIn K mainGlobals "BadChange" = some (some (.ref cN)))
    (z_repr : PySem.W.nsIn K mainGlobals "repr" = some none)
    (CA_pg : PySem.W.plainGet K CA Str.empty = true)
    (CA_hd : PySem.W.hasDictIn K CA = true)
    (CA_po : PySem.W.plainOver K CA = true)
    (CA_sa : PySem.W.findIn K (.ref CA) "__setattr__" = some (some (.builtin "object.__setattr__")))
    (CA_mk : PySem.W.makesIn K CA = true)
    (CA_kc : PySem.W.keepIn K (.ref CA) = true)
    (CA_ha : PySem.W.findIn K (.ref CA) "__class__" = some (some (.builtin "object.__class__")))
    (CA_hm : PySem.W.mroIn K CA (.type "object") = some true)
    (CA_ne : PySem.W.findIn K (.ref CA) "__ne__" = some (some (.builtin "object.__ne__")))
    (CA_sf : PySem.W.selfFirst K CA = true)
    (CA_ra : PySem.W.findIn K (.ref CA) "__radd__" = some none)
    (CA_nr : PySem.W.findIn K (.ref CA) "_rows" = some none)
    (e_hn : PySem.W.specialIn K (.builtin "object.__class__") "__get__" = some (some (.builtin "getset_descriptor.__get__")))
    (e_ht : PySem.W.takesIn K (.builtin "object.__class__") = some true)
    (amChange_init : PySem.W.findIn K (.ref CA) "__init__" = some (some (.ref fmChange_init)))
    (imChange_init : PySem.W.isFn K (.ref fmChange_init) = true)
    (lmChange_init : K.lookup fmChange_init = some ⟨ocmChange_init, odmChange_init, .func (PySem.W.fnOf "__init__" "Change.__init__" (C8.fnArgs s_Change_init) (C8.fnBody s_Change_init) (C8.fnScope s_Change_init) .none kVmChange_init dcmChange_init pmmChange_init anmChange_init cdmChange_init ctmChange_init), slmChange_init⟩)
    (cmChange_init : PySem.W.codeIn K cdmChange_init "Change.__init__" = true)
    (kmChange_init : PySem.W.keepIn K (.ref fmChange_init) = true)
    (amChange_plain : PySem.W.findIn K (.ref CA) "plain" = some (some (.ref fmChange_plain)))
    (imChange_plain : PySem.W.isFn K (.ref fmChange_plain) = true)
    (lmChange_plain : K.lookup fmChange_plain = some ⟨ocmChange_plain, odmChange_plain, .func (PySem.W.fnOf "plain" "Change.plain" (C8.fnArgs s_Change_plain) (C8.fnBody s_Change_plain) (C8.fnScope s_Change_plain) .none kVmChange_plain dcmChange_plain pmmChange_plain anmChange_plain cdmChange_plain ctmChange_plain), slmChange_plain⟩)
    (cmChange_plain : PySem.W.codeIn K cdmChange_plain "Change.plain" = true)
    (kmChange_plain : PySem.W.keepIn K (.ref fmChange_plain) = true)
    (amChange_is_apart : PySem.W.findIn K (.ref CA) "is_apart" = some (some (.ref fmChange_is_apart)))
    (imChange_is_apart : PySem.W.isFn K (.ref fmChange_is_apart) = true)
    (lmChange_is_apart : K.lookup fmChange_is_apart = some ⟨ocmChange_is_apart, odmChange_is_apart, .func (PySem.W.fnOf "is_apart" "Change.is_apart" (C8.fnArgs s_Change_is_apart) (C8.fnBody s_Change_is_apart) (C8.fnScope s_Change_is_apart) .none kVmChange_is_apart dcmChange_is_apart pmmChange_is_apart anmChange_is_apart cdmChange_is_apart ctmChange_is_apart), slmChange_is_apart⟩)
    (cmChange_is_apart : PySem.W.codeIn K cdmChange_is_apart "Change.is_apart" = true)
    (kmChange_is_apart : PySem.W.keepIn K (.ref fmChange_is_apart) = true)
    (amChange_add : PySem.W.findIn K (.ref CA) "__add__" = some (some (.ref fmChange_add)))
    (imChange_add : PySem.W.isFn K (.ref fmChange_add) = true)
    (lmChange_add : K.lookup fmChange_add = some ⟨ocmChange_add, odmChange_add, .func (PySem.W.fnOf "__add__" "Change.__add__" (C8.fnArgs s_Change_add) (C8.fnBody s_Change_add) (C8.fnScope s_Change_add) .none kVmChange_add dcmChange_add pmmChange_add anmChange_add cdmChange_add ctmChange_add), slmChange_add⟩)
    (cmChange_add : PySem.W.codeIn K cdmChange_add "Change.__add__" = true)
    (kmChange_add : PySem.W.keepIn K (.ref fmChange_add) = true)
    (amChange_neg : PySem.W.findIn K (.ref CA) "__neg__" = some (some (.ref fmChange_neg)))
    (imChange_neg : PySem.W.isFn K (.ref fmChange_neg) = true)
    (lmChange_neg : K.lookup fmChange_neg = some ⟨ocmChange_neg, odmChange_neg, .func (PySem.W.fnOf "__neg__" "Change.__neg__" (C8.fnArgs s_Change_neg) (C8.fnBody s_Change_neg) (C8.fnScope s_Change_neg) .none kVmChange_neg dcmChange_neg pmmChange_neg anmChange_neg cdmChange_neg ctmChange_neg), slmChange_neg⟩)
    (cmChange_neg : PySem.W.codeIn K cdmChange_neg "Change.__neg__" = true)
    (kmChange_neg : PySem.W.keepIn K (.ref fmChange_neg) = true)
    (amChange_eq : PySem.W.findIn K (.ref CA) "__eq__" = some (some (.ref fmChange_eq)))
    (imChange_eq : PySem.W.isFn K (.ref fmChange_eq) = true)
    (lmChange_eq : K.lookup fmChange_eq = some ⟨ocmChange_eq, odmChange_eq, .func (PySem.W.fnOf "__eq__" "Change.__eq__" (C8.fnArgs s_Change_eq) (C8.fnBody s_Change_eq) (C8.fnScope s_Change_eq) .none kVmChange_eq dcmChange_eq pmmChange_eq anmChange_eq cdmChange_eq ctmChange_eq), slmChange_eq⟩)
    (cmChange_eq : PySem.W.codeIn K cdmChange_eq "Change.__eq__" = true)
    (kmChange_eq : PySem.W.keepIn K (.ref fmChange_eq) = true)
    (apChange_rows : PySem.W.findIn K (.ref CA) "rows" = some (some (.ref qpChange_rows)))
    (gpChange_rows : PySem.W.specialIn K (.ref qpChange_rows) "__get__" = some (some (.builtin "property.__get__")))
    (tpChange_rows : PySem.W.takesIn K (.ref qpChange_rows) = some true)
    (rpChange_rows_ : PySem.W.recIn K qpChange_rows "property" = some (.ref fpChange_rows :: rpChange_rows))
    (lpChange_rows : K.lookup fpChange_rows = some ⟨ocpChange_rows, odpChange_rows, .func (PySem.W.fnOf "rows" "Change.rows" (C8.fnArgs s_Change_rows) (C8.fnBody s_Change_rows) (C8.fnScope s_Change_rows) .none kVpChange_rows dcpChange_rows pmpChange_rows anpChange_rows cdpChange_rows ctpChange_rows), slpChange_rows⟩)
    (cpChange_rows : PySem.W.codeIn K cdpChange_rows "Change.rows" = true)
    (g_FK : PySem.W.nsIn K mainGlobals "FILE_KINDS" = some (some (.ref fk)))
    (t_fk : K.lookup fk = some ⟨.type "tuple", fko, .seq #[.str (Str.ofString "file") tk1, .str (Str.ofString "exec") tk2] fkn, fkl⟩)
    (xF : K.lookup cF = some (excClassObj "ForkError" qF cF NF bsF [.type "ValueError", .type "Exception", .type "BaseException", .type "object"] true snF subF abF colF ddF mF_0 mF_1 mF_2 mF_3 mF_5 "ValueError.__new__"))
    (xN : K.lookup cN = some (excClassObj "BadChange" qN cN NN bsN [.ref cF, .type "ValueError", .type "Exception", .type "BaseException", .type "object"] true snN subN abN colN ddN mN_0 mN_1 mN_2 mN_3 mN_5 "ValueError.__new__"))
    (saN : PySem.W.findIn K (.ref cN) "__setattr__" = some (some (.builtin "object.__setattr__")))
    (kCN : PySem.W.keepIn K (.ref cN) = true)
    (iCN : PySem.W.findIn K (.ref cN) "__init__" = some (some (.ref iF)))
    (gaN : PySem.W.findIn K (.ref cN) "__getattribute__" = some (some (.builtin "BaseException.__getattribute__")))
    (ggN : PySem.W.findIn K (.ref cN) "__getattr__" = some none)
    (haN : PySem.W.findIn K (.ref cN) "__class__" = some (some (.builtin "object.__class__")))
    (nfN : PySem.W.findIn K (.ref cN) "why" = some none)
    (tiF : PySem.W.typeIn K (.ref iF) = some (.type "function"))
    (liF : K.lookup iF = some ⟨ociF, odiF, .func (PySem.W.fnOf "__init__" "ForkError.__init__" (C8.fnArgs s_ForkError_init) (C8.fnBody s_ForkError_init) (C8.fnScope s_ForkError_init) (.ref dT) kViF dciF pmiF aniF cdiF ctiF), sliF⟩)
    (ciF : PySem.W.codeIn K cdiF "ForkError.__init__" = true)
    (kiF : PySem.W.keepIn K (.ref iF) = true)
    (e_dT : K.lookup dT = some ⟨tcw, tow, .seq #[.str (Str.ofString "") tkd] tnw, tsw⟩)
    (odNoneType : PySem.W.kitOne K (.type "NoneType") (.ref CA) = some false)
    (odint : PySem.W.kitOne K (.type "int") (.ref CA) = some false)
    (odlist : PySem.W.kitOne K (.type "list") (.ref CA) = some false)
    (odtuple : PySem.W.kitOne K (.type "tuple") (.ref CA) = some false)
    (oddict : PySem.W.kitOne K (.type "dict") (.ref CA) = some false)
    : LawTop l w K C8.CX0 63 "_law_script" mg fa h := by
  have e := hfa.symm.trans (PySem.W.mg_of X G a22)
  cases e
  have T : Top K mg := {
    d_is_id := ⟨_, _, ⟨⟨⟨_, _, _, _, _, _, _, _, _, _, rfl, l1, c1⟩⟩, PySem.W.mg_of X G a1, k1⟩, rfl⟩
    d_is_path := ⟨_, _, ⟨⟨⟨_, _, _, _, _, _, _, _, _, _, rfl, l2, c2⟩⟩, PySem.W.mg_of X G a2, k2⟩, rfl⟩
    d_is_segment := ⟨_, _, ⟨⟨⟨_, _, _, _, _, _, _, _, _, _, rfl, l3, c3⟩⟩, PySem.W.mg_of X G a3, k3⟩, rfl⟩
    d_ascending := ⟨_, _, ⟨⟨⟨_, _, _, _, _, _, _, _, _, _, rfl, l4, c4⟩⟩, PySem.W.mg_of X G a4, k4⟩, rfl⟩
    d__is_word := ⟨_, _, ⟨⟨⟨_, _, _, _, _, _, _, _, _, _, rfl, l5, c5⟩⟩, PySem.W.mg_of X G a5, k5⟩, rfl⟩
    d_is_value := ⟨_, _, ⟨⟨⟨_, _, _, _, _, _, _, _, _, _, rfl, l6, c6⟩⟩, PySem.W.mg_of X G a6, k6⟩, rfl⟩
    d__check_change := ⟨_, _, ⟨⟨⟨_, _, _, _, _, _, _, _, _, _, rfl, l7, c7⟩⟩, PySem.W.mg_of X G a7, k7⟩, rfl⟩
    d__is_row := ⟨_, _, ⟨⟨⟨_, _, _, _, _, _, _, _, _, _, rfl, l8, c8⟩⟩, PySem.W.mg_of X G a8, k8⟩, rfl⟩
    d__is_value_or_none := ⟨_, _, ⟨⟨⟨_, _, _, _, _, _, _, _, _, _, rfl, l9, c9⟩⟩, PySem.W.mg_of X G a9, k9⟩, rfl⟩
    d_l_cell_at := ⟨_, _, ⟨⟨⟨_, _, _, _, _, _, _, _, _, _, rfl, l10, c10⟩⟩, PySem.W.mg_of X G a10, k10⟩, rfl⟩
    d_l_well := ⟨_, _, ⟨⟨⟨_, _, _, _, _, _, _, _, _, _, rfl, l11, c11⟩⟩, PySem.W.mg_of X G a11, k11⟩, rfl⟩
    d_l_draw := ⟨_, _, ⟨⟨⟨_, _, _, _, _, _, _, _, _, _, rfl, l12, c12⟩⟩, PySem.W.mg_of X G a12, k12⟩, rfl⟩
    d_l_pick := ⟨_, _, ⟨⟨⟨_, _, _, _, _, _, _, _, _, _, rfl, l13, c13⟩⟩, PySem.W.mg_of X G a13, k13⟩, rfl⟩
    d_l_value := ⟨_, _, ⟨⟨⟨_, _, _, _, _, _, _, _, _, _, rfl, l14, c14⟩⟩, PySem.W.mg_of X G a14, k14⟩, rfl⟩
    d_l_rows := ⟨_, _, ⟨⟨⟨_, _, _, _, _, _, _, _, _, _, rfl, l15, c15⟩⟩, PySem.W.mg_of X G a15, k15⟩, rfl⟩
    d_l_sum := ⟨_, _, ⟨⟨⟨_, _, _, _, _, _, _, _, _, _, rfl, l16, c16⟩⟩, PySem.W.mg_of X G a16, k16⟩, rfl⟩
    d_l_added := ⟨_, _, ⟨⟨⟨_, _, _, _, _, _, _, _, _, _, rfl, l17, c17⟩⟩, PySem.W.mg_of X G a17, k17⟩, rfl⟩
    d_l_is := ⟨_, _, ⟨⟨⟨_, _, _, _, _, _, _, _, _, _, rfl, l18, c18⟩⟩, PySem.W.mg_of X G a18, k18⟩, rfl⟩
    d_l_refused := ⟨_, _, ⟨⟨⟨_, _, _, _, _, _, _, _, _, _, rfl, l19, c19⟩⟩, PySem.W.mg_of X G a19, k19⟩, rfl⟩
    d_l_refuses := ⟨_, _, ⟨⟨⟨_, _, _, _, _, _, _, _, _, _, rfl, l20, c20⟩⟩, PySem.W.mg_of X G a20, k20⟩, rfl⟩
    d_l_one_right := ⟨_, _, ⟨⟨⟨_, _, _, _, _, _, _, _, _, _, rfl, l21, c21⟩⟩, PySem.W.mg_of X G a21, k21⟩, rfl⟩
    d_law := ⟨_, _, ⟨⟨⟨_, _, _, _, _, _, _, _, _, _, rfl, l22, c22⟩⟩, PySem.W.mg_of X G a22, k22⟩, rfl⟩
    z_ValueError := PySem.W.mg_none_of X G z_ValueError
    z_all := PySem.W.mg_none_of X G z_all
    z_any := PySem.W.mg_none_of X G z_any
    z_dict := PySem.W.mg_none_of X G z_dict
    z_int := PySem.W.mg_none_of X G z_int
    z_isinstance := PySem.W.mg_none_of X G z_isinstance
    z_len := PySem.W.mg_none_of X G z_len
    z_list := PySem.W.mg_none_of X G z_list
    z_range := PySem.W.mg_none_of X G z_range
    z_sorted := PySem.W.mg_none_of X G z_sorted
    z_str := PySem.W.mg_none_of X G z_str
    z_tuple := PySem.W.mg_none_of X G z_tuple
    g_HEX_DIGITS := ⟨_, PySem.W.mg_of X G g_HEX_DIGITS, ⟨_, rfl⟩⟩
    g_SEGMENT_SIGNS := ⟨_, PySem.W.mg_of X G g_SEGMENT_SIGNS, ⟨_, rfl⟩⟩
    g_LONGEST_WORD := ⟨_, PySem.W.mg_of X G g_LONGEST_WORD, ⟨_, rfl⟩⟩ }
  have cfF : CF K "ForkError" "ValueError.__new__" VE cF := ⟨_, _, _, _, _, _, _, _, _, _, _, _, _, xF⟩
  have cfN : CF K "BadChange" "ValueError.__new__" (.ref cF :: VE) cN := ⟨_, _, _, _, _, _, _, _, _, _, _, _, _, xN⟩
  have hbE : ((Value.ref cF :: VE).contains (.type "BaseException")) = true := rfl
  have hbO : ((Value.ref cF :: VE).contains (.type "object")) = true := rfl
  have FD : FunD K "__init__" "ForkError.__init__" (C8.fnArgs s_ForkError_init) (C8.fnBody s_ForkError_init) (C8.fnScope s_ForkError_init) [V.str ""] [] iF (PySem.W.fnOf "__init__" "ForkError.__init__" (C8.fnArgs s_ForkError_init) (C8.fnBody s_ForkError_init) (C8.fnScope s_ForkError_init) (.ref dT) kViF dciF pmiF aniF cdiF ctiF) :=
    ⟨⟨_, _, _, _, _, _, _, _, _, _, rfl, liF, ciF, .inr ⟨(fun z => by cases z), dT, _, [.str (Str.ofString "") tkd], tnw, rfl, e_dT, rfl, .cons ⟨tkd, rfl⟩ .nil⟩, .inl rfl⟩, kiF⟩
  have eN : ErrC K mg "BadChange" "why" cN iF := by
    refine ⟨PySem.W.mg_of X G eN_mg, cfN.oex (by show PySem.HandSPX.refsVE VE = true; decide +kernel) saN kCN hbE,
      cfN.xc PySem.F.excBase_ValueError (rve_ok _) (rve_pass _) hbO hbE saN kCN iCN tiF gaN ggN haN e_hn e_ht, nfN, _, fun P w base => ini_ForkError ⟨⟨_, _, _, _, _, _, _, _, _, _, rfl, liF, ciF⟩⟩, ?_⟩
    obtain ⟨ds, v, b⟩ := FD.binds1 (ps := ["self", "why"]) 2 1 (fun z => by cases z) rfl (fun T kV doc pm an cdv ct us its h1 h2 => match us, its, h1, h2 with | [_, _], [_], _, _ => ⟨_, rfl, rfl⟩)
    cases v
    exact b
  have kAA : PySem.W.kitOne K (.ref CA) (.ref CA) = some true := by unfold PySem.W.kitOne; rw [if_pos (beq_self_eq_true _)]
  have inA : C8.InsC K CA := ⟨⟨CA_pg, CA_hd, CA_po, CA_sa⟩, CA_ha, e_hn, e_ht, CA_hm, kAA⟩
  have TS : TopC K mg CA fk cN iF := { T with
    insC := inA
    mgC := PySem.W.mg_of X G eA_mg
    ini := ⟨_, _, ⟨CA_mk, amChange_init, imChange_init, CA_kc⟩, ⟨⟨_, _, _, _, _, _, _, _, _, _, rfl, lmChange_init, cmChange_init⟩⟩, rfl⟩
    odd := fun Ty h => by
      simp only [OTY41, List.mem_cons, List.not_mem_nil, or_false] at h
      rcases h with rfl | rfl | rfl | rfl | rfl
      · exact odNoneType
      · exact odint
      · exact odlist
      · exact odtuple
      · exact oddict
    g_FILE_KINDS := ⟨_, PySem.W.mg_of X G g_FK, rfl⟩
    kF := ⟨_, _, _, t_fk, rfl, rfl, by show 2 ≤ sizeLine; decide, .cons ⟨tk1, rfl⟩ (.cons ⟨tk2, rfl⟩ .nil)⟩
    d_plain := ⟨_, _, ⟨⟨_, _, _, _, _, _, _, _, _, _, rfl, lmChange_plain, cmChange_plain⟩⟩, ⟨amChange_plain, imChange_plain, kmChange_plain⟩, rfl⟩
    d_apart := ⟨_, _, ⟨⟨_, _, _, _, _, _, _, _, _, _, rfl, lmChange_is_apart, cmChange_is_apart⟩⟩, ⟨amChange_is_apart, imChange_is_apart, kmChange_is_apart⟩, rfl⟩
    d_add := ⟨_, _, ⟨⟨_, _, _, _, _, _, _, _, _, _, rfl, lmChange_add, cmChange_add⟩⟩, ⟨amChange_add, imChange_add, kmChange_add⟩, rfl⟩
    d_neg := ⟨_, _, ⟨⟨_, _, _, _, _, _, _, _, _, _, rfl, lmChange_neg, cmChange_neg⟩⟩, ⟨amChange_neg, imChange_neg, kmChange_neg⟩, rfl⟩
    d_eq := ⟨_, _, ⟨⟨_, _, _, _, _, _, _, _, _, _, rfl, lmChange_eq, cmChange_eq⟩⟩, ⟨amChange_eq, imChange_eq, kmChange_eq⟩, rfl⟩
    pRows := ⟨_, _, _, ⟨apChange_rows, gpChange_rows, tpChange_rows, _, rpChange_rows_⟩, ⟨⟨_, _, _, _, _, _, _, _, _, _, rfl, lpChange_rows, cpChange_rows⟩⟩, rfl⟩
    nR := CA_nr
    ne := CA_ne
    addF := ⟨CA_sf, CA_ra⟩
    addT := fun Ty h => let ⟨fo, ro, a, b⟩ := find_ty Ty h; ⟨fo, ro, a, b, sub_ty Ty h⟩
    notF := fun Ty h => by
      unfold PySem.W.notFirst
      rw [sub_ty Ty h]
      exact Bool.or_true _
    notC := by
      unfold PySem.W.notFirst
      rw [beq_self_eq_true]
      rfl
    eC := eN
    exC := cfN.exm cfN hbE (by rw [List.contains_cons, beq_self_eq_true]; rfl) }
  exact ⟨PySem.W.fnOf "law" "law" (C8.fnArgs s_law) (C8.fnBody s_law) (C8.fnScope s_law) .none kV22 dc22 pm22 an22 cd22 ct22, [], spLawT K, (fun p hp => by cases hp), (fun p hp => by cases hp), (fun p hp => by cases hp), fun s v => .of_eq rfl, fun H a ns hl _ _ hS => ⟨a, ns, rfl, hS, hl, fun _ => rfl⟩, fun base _ _ _ => ok_law TS (PySem.W.mg_none_of X G z_repr) ⟨⟨_, _, _, _, _, _, _, _, _, _, rfl, l22, c22⟩⟩ rfl ⟨rfl, by decide, by decide⟩⟩
end Fk
open PySem PySem.W PyProof.Rows
set_option maxHeartbeats 0 in
theorem PySem.Challenge.cw_forkhaul_k41_whole_sums_of_changes_holds : PySem.Challenge.rw_forkhaul_k41_whole_sums_of_changes.Holds := by
  w_on; o_law; k_head; (case hw => w_witness2)
  k_fill
  refine Fk.walk_ofTop (l := PySem.Challenge.rw_forkhaul_k41_whole_sums_of_changes) (n := 63) (x := "_law_script") (CX := fun _ => C8.CX0) (ys := []) rfl (by decide) rfl (fun y hy => by cases hy) (fun w h Y => PySem.W.kIn_of Y) ?F (fun _ _ _ _ _ h => h)
  case F =>
    intro w mg fa h Y KX G hmg tabs
    refine' Fk.all_mk KX G hmg ?a1 ?l1 ?c1 ?k1 ?a2 ?l2 ?c2 ?k2 ?a3 ?l3 ?c3 ?k3 ?a4 ?l4 ?c4 ?k4 ?a5 ?l5 ?c5 ?k5 ?a6 ?l6 ?c6 ?k6 ?a7 ?l7 ?c7 ?k7 ?a8 ?l8 ?c8 ?k8 ?a9 ?l9 ?c9 ?k9 ?a10 ?l10 ?c10 ?k10 ?a11 ?l11 ?c11 ?k11 ?a12 ?l12 ?c12 ?k12 ?a13 ?l13 ?c13 ?k13 ?a14 ?l14 ?c14 ?k14 ?a15 ?l15 ?c15 ?k15 ?a16 ?l16 ?c16 ?k16 ?a17 ?l17 ?c17 ?k17 ?a18 ?l18 ?c18 ?k18 ?a19 ?l19 ?c19 ?k19 ?a20 ?l20 ?c20 ?k20 ?a21 ?l21 ?c21 ?k21 ?a22 ?l22 ?c22 ?k22 ?z_ValueError ?z_all ?z_any ?z_dict ?z_int ?z_isinstance ?z_len ?z_list ?z_range ?z_sorted ?z_str ?z_tuple ?g_HEX_DIGITS ?g_SEGMENT_SIGNS ?g_LONGEST_WORD ?eA_mg ?eF_mg ?eN_mg ?z_repr ?CA_pg ?CA_hd ?CA_po ?CA_sa ?CA_mk ?CA_kc ?CA_ha ?CA_hm ?CA_ne ?CA_sf ?CA_ra ?CA_nr ?e_hn ?e_ht ?amChange_init ?imChange_init ?lmChange_init ?cmChange_init ?kmChange_init ?amChange_plain ?imChange_plain ?lmChange_plain ?cmChange_plain ?kmChange_plain ?amChange_is_apart ?imChange_is_apart ?lmChange_is_apart ?cmChange_is_apart ?kmChange_is_apart ?amChange_add ?imChange_add ?lmChange_add ?cmChange_add ?kmChange_add ?amChange_neg ?imChange_neg ?lmChange_neg ?cmChange_neg ?kmChange_neg ?amChange_eq ?imChange_eq ?lmChange_eq ?cmChange_eq ?kmChange_eq ?apChange_rows ?gpChange_rows ?tpChange_rows ?rpChange_rows_ ?lpChange_rows ?cpChange_rows ?g_FK ?t_fk ?xF ?xN ?saN ?kCN ?iCN ?gaN ?ggN ?haN ?nfN ?tiF ?liF ?ciF ?kiF ?e_dT ?odNoneType ?odint ?odlist ?odtuple ?oddict
    (case a1 => k_is); (case l1 => k_is); (case c1 => k_is); (case k1 => k_is); (case a2 => k_is); (case l2 => k_is); (case c2 => k_is); (case k2 => k_is); (case a3 => k_is); (case l3 => k_is); (case c3 => k_is); (case k3 => k_is); (case a4 => k_is); (case l4 => k_is); (case c4 => k_is); (case k4 => k_is); (case a5 => k_is); (case l5 => k_is); (case c5 => k_is); (case k5 => k_is); (case a6 => k_is); (case l6 => k_is); (case c6 => k_is); (case k6 => k_is); (case a7 => k_is); (case l7 => k_is); (case c7 => k_is); (case k7 => k_is); (case a8 => k_is); (case l8 => k_is); (case c8 => k_is); (case k8 => k_is); (case a9 => k_is); (case l9 => k_is); (case c9 => k_is); (case k9 => k_is); (case a10 => k_is); (case l10 => k_is); (case c10 => k_is); (case k10 => k_is); (case a11 => k_is); (case l11 => k_is); (case c11 => k_is); (case k11 => k_is); (case a12 => k_is); (case l12 => k_is); (case c12 => k_is); (case k12 => k_is); (case a13 => k_is); (case l13 => k_is); (case c13 => k_is); (case k13 => k_is); (case a14 => k_is); (case l14 => k_is); (case c14 => k_is); (case k14 => k_is); (case a15 => k_is); (case l15 => k_is); (case c15 => k_is); (case k15 => k_is); (case a16 => k_is); (case l16 => k_is); (case c16 => k_is); (case k16 => k_is); (case a17 => k_is); (case l17 => k_is); (case c17 => k_is); (case k17 => k_is); (case a18 => k_is); (case l18 => k_is); (case c18 => k_is); (case k18 => k_is); (case a19 => k_is); (case l19 => k_is); (case c19 => k_is); (case k19 => k_is); (case a20 => k_is); (case l20 => k_is); (case c20 => k_is); (case k20 => k_is); (case a21 => k_is); (case l21 => k_is); (case c21 => k_is); (case k21 => k_is); (case a22 => k_is); (case l22 => k_is); (case c22 => k_is); (case k22 => k_is); (case z_ValueError => k_is); (case z_all => k_is); (case z_any => k_is); (case z_dict => k_is); (case z_int => k_is); (case z_isinstance => k_is); (case z_len => k_is); (case z_list => k_is); (case z_range => k_is); (case z_sorted => k_is); (case z_str => k_is); (case z_tuple => k_is); (case g_HEX_DIGITS => k_is); (case g_SEGMENT_SIGNS => k_is); (case g_LONGEST_WORD => k_is); (case eA_mg => k_is); (case eF_mg => k_is); (case eN_mg => k_is); (case z_repr => k_is); (case CA_pg => k_is); (case CA_hd => k_is); (case CA_po => k_is); (case CA_sa => k_is); (case CA_mk => k_is); (case CA_kc => k_is); (case CA_ha => k_is); (case CA_hm => k_is); (case CA_ne => k_is); (case CA_sf => k_is); (case CA_ra => k_is); (case CA_nr => k_is); (case e_hn => k_is); (case e_ht => k_is); (case amChange_init => k_is); (case imChange_init => k_is); (case lmChange_init => k_is); (case cmChange_init => k_is); (case kmChange_init => k_is); (case amChange_plain => k_is); (case imChange_plain => k_is); (case lmChange_plain => k_is); (case cmChange_plain => k_is); (case kmChange_plain => k_is); (case amChange_is_apart => k_is); (case imChange_is_apart => k_is); (case lmChange_is_apart => k_is); (case cmChange_is_apart => k_is); (case kmChange_is_apart => k_is); (case amChange_add => k_is); (case imChange_add => k_is); (case lmChange_add => k_is); (case cmChange_add => k_is); (case kmChange_add => k_is); (case amChange_neg => k_is); (case imChange_neg => k_is); (case lmChange_neg => k_is); (case cmChange_neg => k_is); (case kmChange_neg => k_is); (case amChange_eq => k_is); (case imChange_eq => k_is); (case lmChange_eq => k_is); (case cmChange_eq => k_is); (case kmChange_eq => k_is); (case apChange_rows => k_is); (case gpChange_rows => k_is); (case tpChange_rows => k_is); (case rpChange_rows_ => k_is); (case lpChange_rows => k_is); (case cpChange_rows => k_is); (case g_FK => k_is); (case t_fk => k_is); (case xF => k_is); (case xN => k_is); (case saN => k_is); (case kCN => k_is); (case iCN => k_is); (case gaN => k_is); (case ggN => k_is); (case haN => k_is); (case nfN => k_is); (case tiF => k_is); (case liF => k_is); (case ciF => k_is); (case kiF => k_is); (case e_dT => k_is); (case odNoneType => kit_is); (case odint => kit_is); (case odlist => kit_is); (case odtuple => kit_is); (case oddict => kit_is)


import PyProof.Rows.All
import Wide.All
import OpenK.AllK
import Wide.FinOn
import HandS.ForMost
import HandS.Codes
import HandS.IsInst
import HandS.Wide
import HandS.CallLocal
import HandS.Exc
import HandS.ExcInit
import HandS.Defaults
import HandS.MakeKw
import HandS.TryOnly
import HandS.ExcField
import KE.KExcIs
import KE.KExcInit
import PyProof.P3Eq
import HandS.ExcIs
import HandS.WordsExc
import PySem.Challenge.RW_forkhaul_k02_errors_and_their_kinds
set_option Elab.async false
set_option linter.all false
set_option maxRecDepth 100000
set_option maxHeartbeats 4000000
/-! The base of the proofs: repetition of texts, defs by their names, comprehensions by an invariant, frames. -/
namespace Fk
open PySem PySem.Spec PyProof.Rows L2

/-! ### a text repeated -/
theorem fold_cps (x : Array Nat) : ∀ (n : Nat) (acc : Array Nat), ((List.replicate n x).foldl (· ++ ·) acc).toList = acc.toList ++ (List.replicate n x.toList).flatten
  | 0, acc => by simp
  | n + 1, acc => by
    rw [List.replicate_succ, List.foldl_cons, fold_cps x n (acc ++ x), List.replicate_succ, List.flatten_cons, Array.toList_append, List.append_assoc]
def repS (x : Str) (n : Nat) : Str := ⟨(List.replicate n x.cps.toList).flatten.toArray⟩
theorem tl_rep (x : Str) (n : Nat) : TL.tl (repS x n) = (List.replicate n (TL.tl x)).flatten := rfl
theorem rep_len (x : Str) (n : Nat) : (repS x n).length = n * x.length := by
  rw [TL.len_tl, tl_rep, TL.len_tl]
  induction n with
  | zero => simp
  | succ n ih => rw [List.replicate_succ, List.flatten_cons, List.length_append, ih, Nat.succ_mul, Nat.add_comm]
theorem tooLong_no {n : Nat} (h : n ≤ 16777216) : Builtin.Str.tooLong n = false := by
  unfold Builtin.Str.tooLong
  have e : (16777216 : Nat) = sizeLine ∨ 16777216 ≤ sizeLine := by right; decide
  have h2 : 16777216 ≤ sizeLine := by rcases e with e | e <;> omega
  simp
  omega
def rMulSI : R2 := fun x y H Q => ∃ (z : Str) (k : Int), x = .str z ∧ y = .int k ∧ 0 ≤ k ∧ k ≤ 10000 ∧ z.length * k.toNat ≤ 1000000 ∧ Q (.str (repS z k.toNat)) H
theorem op_mul_si {X : Cx} : OpR X (binaryOp .Mult) rMulSI := by
  intro pins s σ H x y v u Q I rx ry h
  obtain ⟨z, k, rfl, rfl, h0, h1, h2, q⟩ := h
  obtain ⟨t, rfl⟩ := rx
  obtain ⟨t', rfl⟩ := ry
  refine PySem.P.mul_str ?_ (fun h3 h4 => ?_) (fun h3 h4 => ?_) ?_
  · have e1 : ¬ k < -(2 ^ 63 : Int) := by omega
    have e2 : ¬ k ≥ 2 ^ 63 := by omega
    rw [decide_eq_false e1, decide_eq_false e2]
    rfl
  · have hk : 1 ≤ k := by omega
    have hz : z.length ≤ 1000000 := by
      have h5 : z.length * 1 ≤ z.length * k.toNat := Nat.mul_le_mul_left _ (by omega)
      omega
    have h6 : (10 ^ 14 : Int) ≤ (2 ^ 63 - 1) / k := by
      refine Int.le_ediv_of_mul_le (by omega) ?_
      have h7 : (10 ^ 14 : Int) * k ≤ 10 ^ 14 * 10000 := Int.mul_le_mul_of_nonneg_left h1 (by decide)
      have h8 : ((10 ^ 14 : Int) * 10000) ≤ 2 ^ 63 - 1 := by decide
      omega
    have h9 : ((z.length : Nat) : Int) ≤ 1000000 := by omega
    have h10 : (1000000 : Int) < 10 ^ 14 := by decide
    omega
  · exact tooLong_no (by omega)
  · by_cases h3 : k < 1
    · rw [if_pos h3]
      have e : k.toNat = 0 := by omega
      rw [e] at q
      have ez : repS z 0 = Str.empty := TL.ext_tl rfl
      rw [ez] at q
      exact ⟨by decide, V.str Str.empty, H, I.tok _, ⟨_, rfl⟩, q⟩
    · rw [if_neg h3]
      by_cases h4 : (k == 1 || z.length == 0) = true
      · rw [if_pos h4]
        have ez : repS z k.toNat = z := by
          apply TL.ext_tl
          rw [tl_rep]
          rcases Bool.or_eq_true_iff.mp h4 with h5 | h5
          · have e : k.toNat = 1 := by
              have := eq_of_beq h5
              omega
            rw [e]
            simp
          · have e : TL.tl z = [] := by
              have := eq_of_beq h5
              rw [TL.len_tl] at this
              exact List.length_eq_zero_iff.mp this
            rw [e]
            simp
        rw [ez] at q
        exact ⟨V.str z, H, I, ⟨_, rfl⟩, q⟩
      · rw [if_neg h4]
        have ez : (⟨(List.replicate k.toNat z.cps).foldl (· ++ ·) #[]⟩ : Str) = repS z k.toNat := by
          apply TL.ext_tl
          show ((List.replicate k.toNat z.cps).foldl (· ++ ·) #[]).toList = _
          rw [fold_cps]
          rfl
        have hl : (repS z k.toNat).length ≤ sizeLine := by
          rw [rep_len, Nat.mul_comm]
          exact Nat.le_trans h2 (by decide)
        rw [← ez] at q hl
        exact ⟨hl, V.str _, H, I.tok _, ⟨_, rfl⟩, q⟩

section
variable {P : Program} {w : World} {K : PySem.W.Frag} {mg : Str → Option Value} {base : Heap}
/-! ### defs by their names -/
/-- a def of the module whose parameters have no defaults -/
def IsDef (K : PySem.W.Frag) (mg : Str → Option Value) (x : Str) (st : Stmt) : Prop := ∃ f fd, C8.Def K mg x st f fd ∧ fd.defaults = .none
theorem cal_of {x : Str} {st : Stmt} {N ps : List Str} {k : Nat} {sp : Sp} (D : IsDef K mg x st) (S : FnScope N ps (C8.fnScope st))
    (hb : ∀ (kV doc pm : Value) (an : Option Addr) (cdv ct : Value) (us : List Value), us.length = ps.length → bindArgs (PySem.W.fnOf x x (C8.fnArgs st) (C8.fnBody st) (C8.fnScope st) .none kV doc pm an cdv ct) ⟨us, []⟩ = pure (ps.zip us))
    (len : ∀ vs H Q E, sp vs H Q E → vs.length = ps.length)
    (hbody : ∀ (f : Addr) (cdv : Value) (A : Around) (outer : List Env) (s : Shared) (H : Hp) (vs : List V) (Q : VK) (E : XK), Room k (A.deeper (envOfC x (C8.fnScope st) s.heap.objs.size f cdv)) → sp vs H Q E →
      ∃ t, PSs (cxOf C8.CX0 P w K mg base N x (C8.fnScope st) f cdv A outer s H E).nox (C8.fnBody st) t ∧ t { nx := fun _ H' => Q .non H', rt := Q } (start N vs) H) : C8.Cal P w K mg base (k + 1) x sp [] := by
  obtain ⟨f, fd, D, df⟩ := D
  exact C8.cal0 D (D.fn.binds df hb) .nil S len (hbody f)
theorem pe_c0 {X : Cx} {k j : Nat} {x : Str} {sp : Sp} {dvs : List V} {p pos : Pos} (c : C8.Cal X.prog X.w X.K X.mg X.base k x sp dvs) (hr : Room j X.A) (hk : k ≤ j) (hg : Gl X x)
    (hdb : (x == ("__debug__" : Str)) = false := by decide) : PE X (.Call (.Name x p) [] [] pos) (tCall sp dvs C8.E0 tNil) := by
  obtain ⟨f, fd, ps, ds, F, hm, kp, b, d⟩ := c.ex
  exact pe_call0 F (hr.mono hk) hg hm kp b d C8.pass0 hdb
/-- a def's address as a value, with its promise -/
theorem held_of {k : Nat} {x : Str} {sp : Sp} {f : Addr} (c : C8.Cal P w K mg base k x sp []) (h : mg x = some (.ref f)) : Held P w K mg base k f sp := by
  obtain ⟨f', fd, ps, ds, F, hm, kp, b, d⟩ := c.ex
  rw [h] at hm
  cases hm
  cases d
  exact ⟨fd, ps, F, kp, b⟩
end

/-! ### heaps -/
/-- all that was tracked is as it was, but what stands at a -/
def Fr (a : Addr) (H H' : Hp) : Prop := ∀ b o, b ≠ a → H b = some o → H' b = some o
theorem Fr.refl (a : Addr) (H : Hp) : Fr a H H := fun _ _ _ h => h
theorem Fr.trans {a : Addr} {H H1 H2 : Hp} (x : Fr a H H1) (y : Fr a H1 H2) : Fr a H H2 := fun b o n h => y b o n (x b o n h)
theorem Fr.at {a : Addr} {H : Hp} {o : HO} : Fr a H (upd H a o) := fun b u n h => by
  rw [upd_ne n]
  exact h
theorem Fr.new {a p : Addr} {H : Hp} {o : HO} (h : H p = none) : Fr a H (upd H p o) := fun b u _ e => by
  rw [upd_ne (ne_of_none e h)]
  exact e
/-- what came later may change -/
theorem Fr.mut {a p : Addr} {H H' : Hp} {o : HO} (x : Fr a H H') (h : H p = none) : Fr a H (upd H' p o) := fun b u n e => by
  rw [upd_ne (ne_of_none e h)]
  exact x b u n e
theorem Fr.same {a : Addr} {H H' : Hp} (h : Same H H') : Fr a H H' := fun b o _ e => h b o e
theorem Fr.free {a p : Addr} {H H' : Hp} (x : Fr a H H') (n : p ≠ a) (h : H' p = none) : H p = none := by
  cases q : H p with
  | none => rfl
  | some o =>
    rw [x p o n q] at h
    cases h
theorem same_new {H : Hp} {p : Addr} {o : HO} (h : H p = none) : Same H (upd H p o) := fun b u e => by
  rw [upd_ne (ne_of_none e h)]
  exact e
theorem same_mut {H H' : Hp} {p : Addr} {o : HO} (x : Same H H') (h : H p = none) : Same H (upd H' p o) := fun b u e => by
  rw [upd_ne (ne_of_none e h)]
  exact x b u e
theorem small_line {n : Nat} (h : n ≤ 1000000) : n ≤ sizeLine := Nat.le_trans h (by decide)
theorem small_lt {n : Nat} (h : n ≤ 1000000) : n < sizeLine := Nat.lt_of_le_of_lt h (by decide)

/-! ### comprehensions -/
theorem set_set {σ : L2.St} {i : Nat} {x y : Option V} : (σ.set i x).set i y = σ.set i y := by
  rw [List.set_set]
/-- what an iterator yields while the list at D grows: the items of a list -/
structure Yields (J : It) (items : List V) (G : Hp → Prop) : Prop where
  go : ∀ k H, G H → k < items.length → J.go k H
  stop : ∀ H, G H → J.stop items.length H
  yld : ∀ k H x H', k < items.length → G H → J.yld k H x H' → H' = H ∧ items[k]? = some x
theorem yields_str (x : Str) : Yields (Its x) (x.cps.toList.map fun c => V.str ⟨#[c]⟩) (fun _ => True) where
  go := fun k H _ h => by
    rw [List.length_map] at h
    exact (by simpa using h : k < x.cps.size)
  stop := fun H _ => by
    show x.cps.size ≤ _
    simp
  yld := fun k H v H' _ _ h => by
    obtain ⟨e, c, hc, hv⟩ := h
    refine ⟨e, ?_⟩
    rw [List.getElem?_map, Array.getElem?_toList, hc, hv]
    rfl
theorem yields_list {K : PySem.W.Frag} {a : Addr} {xs : List V} : Yields (Itl K a) xs (fun H => SqL K H a xs) where
  go := fun k H g h => ⟨xs, xs[k], g, List.getElem?_eq_getElem h⟩
  stop := fun H g => ⟨xs, g, Nat.le_refl _⟩
  yld := fun k H x H' _ g h => ⟨h.1, h.2 xs g⟩
theorem yields_range {lo : Int} {n : Nat} : Yields (Itr lo n) ((List.range n).map fun (i : Nat) => V.int (lo + (i : Int))) (fun _ => True) where
  go := fun k H _ h => by
    rw [List.length_map, List.length_range] at h
    exact h
  stop := fun H _ => by
    show n ≤ _
    rw [List.length_map, List.length_range]
    exact Nat.le_refl _
  yld := fun k H x H' hk _ h => by
    obtain ⟨e, hx⟩ := h
    rw [List.length_map, List.length_range] at hk
    refine ⟨e, ?_⟩
    rw [List.getElem?_map, List.getElem?_range hk, hx]
    rfl
/-- behind k turns of a comprehension: the list at D holds acc, of which I speaks -/
def LcN (I : Nat → List V → Hp → Prop) (D : Addr) (k : Nat) (H : Hp) : Prop := ∃ acc, H D = some (.lst acc) ∧ acc.length ≤ k ∧ I k acc H
theorem lc_take {I : Nat → List V → Hp → Prop} {D : Addr} {k : Nat} {H4 : Hp} {y : V} {acc : List V} (h : H4 D = some (.lst acc)) (l : acc.length ≤ k) (hk : k < 1000000) (q : I (k + 1) (acc ++ [y]) (upd H4 D (.lst (acc ++ [y])))) :
    ∃ acc, H4 D = some (.lst acc) ∧ acc.length < sizeLine ∧ LcN I D (k + 1) (upd H4 D (.lst (acc ++ [y]))) :=
  ⟨acc, h, small_lt (by omega), acc ++ [y], upd_same, by rw [List.length_append, List.length_singleton]; omega, q⟩
theorem lc_skip {I : Nat → List V → Hp → Prop} {D : Addr} {k : Nat} {H4 : Hp} {acc : List V} (h : H4 D = some (.lst acc)) (l : acc.length ≤ k) (q : I (k + 1) acc H4) : LcN I D (k + 1) H4 := ⟨acc, h, by omega, q⟩
/-- a comprehension by an invariant I over (turns, what the new list holds, the heap) -/
theorem lc_inv {J : It} {items : List V} {G : Hp → Prop} {H1 : Hp} {D : Addr} {σ : L2.St} {i : Nat} {tt : TT} {te : TE} {Q : Hp → Prop} (Y : Yields J items G) (I : Nat → List V → Hp → Prop)
    (hG : ∀ k acc H, I k acc H → H D = some (.lst acc) → G H) (h0 : I 0 [] (upd H1 D (.lst [])))
    (hs : ∀ k acc H x, I k acc H → H D = some (.lst acc) → items[k]? = some x → acc.length ≤ k → k < 1000000 → tt (σ.set i (some x)) H fun b H3 =>
      if b = true then te (σ.set i (some x)) H3 fun y H4 => ∃ acc, H4 D = some (.lst acc) ∧ acc.length < sizeLine ∧ LcN I D (k + 1) (upd H4 D (.lst (acc ++ [y]))) else LcN I D (k + 1) H3)
    (hl : items.length ≤ 1000000) (hd : ∀ acc H, I items.length acc H → H D = some (.lst acc) → acc.length ≤ items.length → Q H) :
    ∃ W : Nat → Nat → Hp → Prop, (∃ m, W 0 m (upd H1 D (.lst []))) ∧ ∀ k m H, W k m H →
      (J.stop k H ∧ Q H) ∨ (J.go k H ∧ ∃ Nx : Hp → Prop, (∀ H', Nx H' → ∃ m', m' < m ∧ W (k + 1) m' H') ∧ ∀ x H', J.yld k H x H' → gName i x (wipe σ [i]) H' fun σ2 H2 => wipe σ2 [i] = wipe σ [i] ∧ tt σ2 H2 fun b H3 =>
        if b = true then te σ2 H3 fun y H4 => ∃ acc, H4 D = some (.lst acc) ∧ acc.length < sizeLine ∧ Nx (upd H4 D (.lst (acc ++ [y]))) else Nx H3) := by
  refine ⟨fun k m H => m = items.length - k ∧ k ≤ items.length ∧ LcN I D k H, ⟨items.length, by omega, Nat.zero_le _, [], upd_same, Nat.zero_le _, h0⟩, ?_⟩
  rintro k m H ⟨rfl, hk, acc, hD, hacc, hI⟩
  by_cases hlt : k < items.length
  · refine .inr ⟨Y.go k H (hG _ _ _ hI hD) hlt, LcN I D (k + 1), fun H' q => ⟨items.length - (k + 1), by omega, rfl, hlt, q⟩, fun x H' y => ?_⟩
    obtain ⟨rfl, hx⟩ := Y.yld k H x H' hlt (hG _ _ _ hI hD) y
    show wipe ((wipe σ [i]).set i (some x)) [i] = wipe σ [i] ∧ tt ((wipe σ [i]).set i (some x)) _ _
    have e1 : (wipe σ [i]).set i (some x) = σ.set i (some x) := set_set
    have e2 : wipe (σ.set i (some x)) [i] = wipe σ [i] := set_set
    rw [e1]
    exact ⟨e2, hs k acc _ x hI hD hx hacc (by omega)⟩
  · have e : k = items.length := by omega
    subst e
    exact .inl ⟨Y.stop H (hG _ _ _ hI hD), hd acc H hI hD hacc⟩
/-- a comprehension whose element and test change nothing that is tracked -/
theorem lc_pure {α : Type} {J : It} {us : List α} {g : α → V} {G : Hp → Prop} {H1 : Hp} {D : Addr} {σ : L2.St} {i : Nat} {tt : TT} {te : TE} {Q : Hp → Prop} (Y : Yields J (us.map g) G) (f : α → V) (p : α → Bool) (hD1 : H1 D = none)
    (hG : ∀ H, Same H1 H → G H)
    (hs : ∀ H u, Same H1 H → u ∈ us → ∀ (R : Bool → Hp → Prop), (∀ H3, Same H H3 → R (p u) H3) → tt (σ.set i (some (g u))) H R)
    (he : ∀ H u, Same H1 H → u ∈ us → p u = true → ∀ (R : VK), (∀ H3, Same H H3 → R (f u) H3) → te (σ.set i (some (g u))) H R)
    (hl : us.length ≤ 1000000) (hd : ∀ H, Same H1 H → H D = some (.lst ((us.filter p).map f)) → Q H) :
    ∃ W : Nat → Nat → Hp → Prop, (∃ m, W 0 m (upd H1 D (.lst []))) ∧ ∀ k m H, W k m H →
      (J.stop k H ∧ Q H) ∨ (J.go k H ∧ ∃ Nx : Hp → Prop, (∀ H', Nx H' → ∃ m', m' < m ∧ W (k + 1) m' H') ∧ ∀ x H', J.yld k H x H' → gName i x (wipe σ [i]) H' fun σ2 H2 => wipe σ2 [i] = wipe σ [i] ∧ tt σ2 H2 fun b H3 =>
        if b = true then te σ2 H3 fun y H4 => ∃ acc, H4 D = some (.lst acc) ∧ acc.length < sizeLine ∧ Nx (upd H4 D (.lst (acc ++ [y]))) else Nx H3) := by
  refine lc_inv Y (fun k acc H => Same H1 H ∧ acc = ((us.take k).filter p).map f) (fun k acc H h _ => hG H h.1) ⟨same_new hD1, rfl⟩ (fun k acc H x hI hD hx hacc hk => ?_) (by rw [List.length_map]; exact hl) (fun acc H hI hD _ => ?_)
  · obtain ⟨sm, ea⟩ := hI
    rw [List.getElem?_map] at hx
    cases hu : us[k]? with
    | none => rw [hu] at hx; cases hx
    | some u =>
      rw [hu] at hx
      cases hx
      have hm : u ∈ us := List.mem_of_getElem? hu
      have et : us.take (k + 1) = us.take k ++ [u] := by
        rw [List.take_add_one, hu]
        rfl
      refine hs H u sm hm _ (fun H3 s3 => ?_)
      by_cases hp : p u = true
      · rw [if_pos hp]
        refine he H3 u (sm.trans s3) hm hp _ (fun H4 s4 => ?_)
        refine lc_take (s4 _ _ (s3 _ _ hD)) hacc hk ⟨same_mut ((sm.trans s3).trans s4) hD1, ?_⟩
        rw [et, List.filter_append, List.map_append, ← ea, List.filter_cons, hp]
        rfl
      · rw [if_neg hp]
        refine lc_skip (s3 _ _ hD) hacc ⟨sm.trans s3, ?_⟩
        rw [et, List.filter_append, List.map_append, ← ea, List.filter_cons, if_neg hp]
        simp
  · obtain ⟨sm, ea⟩ := hI
    rw [List.length_map, List.take_length] at ea
    rw [ea] at hD
    exact hd H sm hD

/-! ### what may be asked -/
def evalV (f : Str → Bool) : V → Bool
  | .str x => f x
  | _ => false
/-- its signs are signs -/
def OkS (x : Str) : Prop := ∀ u ∈ TL.tl x, u < 1114112
/-- a text, not too long, or a thing that is no text -/
inductive Thing (H : Hp) : V → Prop where
  | str (x : Str) (h : x.length ≤ 100000) (o : OkS x) : Thing H (.str x)
  | non : Thing H .non
  | bl (b : Bool) : Thing H (.bl b)
  | int (i : Int) : Thing H (.int i)
  | lst (a : Addr) (xs : List V) (h : H a = some (.lst xs)) : Thing H (.ref a)
  | tup (a : Addr) (xs : List V) (h : H a = some (.tup xs)) : Thing H (.ref a)
  | dK (a : Addr) (kvs : List (Key × V)) (h : H a = some (.dK kvs)) : Thing H (.ref a)
theorem Thing.fr {a : Addr} {H H' : Hp} {v : V} (t : Thing H v) (n : v ≠ .ref a) (f : Fr a H H') : Thing H' v := by
  cases t with
  | str x h o => exact .str x h o
  | non => exact .non
  | bl b => exact .bl b
  | int i => exact .int i
  | lst b xs h => exact .lst b xs (f b _ (fun e => n (by rw [e])) h)
  | tup b xs h => exact .tup b xs (f b _ (fun e => n (by rw [e])) h)
  | dK b xs h => exact .dK b xs (f b _ (fun e => n (by rw [e])) h)
theorem Thing.same {H H' : Hp} {v : V} (t : Thing H v) (f : Same H H') : Thing H' v := by
  cases t with
  | str x h o => exact .str x h o
  | non => exact .non
  | bl b => exact .bl b
  | int i => exact .int i
  | lst b xs h => exact .lst b xs (f b _ h)
  | tup b xs h => exact .tup b xs (f b _ h)
  | dK b xs h => exact .dK b xs (f b _ h)
/-- isinstance(thing, str) -/
theorem Thing.isi {K : PySem.W.Frag} {H : Hp} {v : V} {Q : VK} (t : Thing H v) (h : Q (.bl (evalV (fun _ => true) v)) H) : rIsi K [v, .ty "str"] H Q := by
  cases t with
  | str x _ _ => exact ⟨_, _, .type "str", .type "str", true, rfl, .ty "str", .base (.str x), kit_ty (by decide +kernel), h⟩
  | non => exact ⟨_, _, .type "NoneType", .type "str", false, rfl, .ty "str", .base .non, kit_ty (by decide +kernel), h⟩
  | bl b => exact ⟨_, _, .type "bool", .type "str", false, rfl, .ty "str", .base (.bl b), kit_ty (by decide +kernel), h⟩
  | int i => exact ⟨_, _, .type "int", .type "str", false, rfl, .ty "str", .base (.int i), kit_ty (by decide +kernel), h⟩
  | lst a xs e => exact ⟨_, _, .type "list", .type "str", false, rfl, .ty "str", .base (.lst e), kit_ty (by decide +kernel), h⟩
  | tup a xs e => exact ⟨_, _, .type "tuple", .type "str", false, rfl, .ty "str", .base (.tup e), kit_ty (by decide +kernel), h⟩
  | dK a xs e => exact ⟨_, _, .type "dict", .type "str", false, rfl, .ty "str", .base (.dK e), kit_ty (by decide +kernel), h⟩
theorem Thing.cases {H : Hp} {v : V} (t : Thing H v) : (∃ x, v = .str x ∧ x.length ≤ 100000 ∧ OkS x) ∨ ∀ f, evalV f v = false := by
  cases t with
  | str x h o => exact .inl ⟨x, rfl, h, o⟩
  | _ => exact .inr fun _ => rfl
/-- the promise of a def that tells whether its argument is such a text -/
def spWord (f : Str → Bool) : Sp := fun vs H Q _ => ∃ v, vs = [v] ∧ Thing H v ∧ ∀ H', Same H H' → Q (.bl (evalV f v)) H'

/-! ### the words, as functions of a text -/
def HEX : Str := "0123456789abcdef"
def LET : Str := "abcdefghijklmnopqrstuvwxyz"
def RSG : Str := "abcdefghijklmnopqrstuvwxyz0123456789-"
def SSG : Str := "abcdefghijklmnopqrstuvwxyz0123456789._-"
def sgn (c : Nat) : V := .str ⟨#[c]⟩
def hasOnly (x y : Str) : Bool := (TL.tl x).all fun c => decide (c ∈ TL.tl y)
def dots (x : Str) : Bool := !(Builtin.Str.occurrences x (".." : Str) 0 x.length 1).isEmpty
def isWordF (y x : Str) : Bool := decide (1 ≤ x.length) && (decide (x.length ≤ 12) && hasOnly x y)
def isSegF (x : Str) : Bool := isWordF SSG x && (!decide (x = ".") && !dots x)
def segs (x : Str) : List Str := Txt.split x "/"
def isIdF (x : Str) : Bool := decide (x.length = 16) && hasOnly x HEX
def isPathF (x : Str) : Bool := decide ((segs x).length ≤ 6) && (segs x).all isSegF
def mostF (x : Str) : Nat := if (segs x)[0]? = some ("far" : Str) then 7 else 5
def isRefF (x : Str) : Bool := decide ((segs x).length ≤ mostF x) && (segs x).all (isWordF RSG)
def plainC (c : Nat) : Bool := !decide ([c] < [32]) && !decide ([126] < [c])
def isTextF (x : Str) : Bool := decide (x.length ≤ 2000) && (TL.tl x).all fun c => decide (c = 10) || plainC c
end Fk
namespace Fk
open PySem PySem.Spec PyProof.Rows L2
theorem sql_fr {K : PySem.W.Frag} {a b : Addr} {H H' : Hp} {xs : List V} (h : SqL K H b xs) (n : b ≠ a) (f : Fr a H H') : SqL K H' b xs := by
  rcases h with (h | ⟨o, h⟩) | h
  · exact .inl (.inl (f _ _ n h))
  · exact .inl (.inr ⟨o, f _ _ n h⟩)
  · exact .inr h
/-- a well of numbers at a, from which c were drawn -/
def Wl (H : Hp) (a : Addr) (c : Int) : Prop := 0 ≤ c ∧ ∃ x y : Int, H a = some (.lst [.int x, .int y, .int c])
theorem Wl.same {H H' : Hp} {a : Addr} {c : Int} (h : Wl H a c) (f : Same H H') : Wl H' a c := by
  obtain ⟨h0, x, y, e⟩ := h
  exact ⟨h0, x, y, f _ _ e⟩
/-- behind at most d draws from the well at a -/
def Aft (a : Addr) (c d : Int) (H : Hp) (R : Hp → Prop) : Prop := ∀ H' c', Fr a H H' → Wl H' a c' → c ≤ c' → c' ≤ c + d → R H'
theorem join_signs : ∀ cs : List Nat, TL.tl (Txt.join ("" : Str) (cs.map fun c => (⟨#[c]⟩ : Str))) = cs := by
  intro cs
  rw [TL.join_eq, TL.tl_join]
  have e : TL.tl ("" : Str) = [] := by decide +kernel
  rw [e]
  induction cs with
  | nil => rfl
  | cons c r ih =>
    cases r with
    | nil => rfl
    | cons d r =>
      show [c] ++ [] ++ TL.joinL [] (((d :: r).map fun c => (⟨#[c]⟩ : Str)).map TL.tl) = _
      rw [ih]
      rfl
theorem signs_sum : ∀ cs : List Nat, ((cs.map fun c => (⟨#[c]⟩ : Str)).map (·.length)).sum = cs.length
  | [] => rfl
  | c :: r => by
    rw [List.map_cons, List.map_cons, List.sum_cons, signs_sum r, List.length_cons]
    show 1 + _ = _
    omega
theorem atI_int {α : Type} {xs : List α} {r : Int} (h0 : 0 ≤ r) (h1 : r < xs.length) : ∃ v, v ∈ xs ∧ xs[r.toNat]? = some v ∧ atI xs r = some v := by
  have h2 : r.toNat < xs.length := by omega
  have e : r = ((r.toNat : Nat) : Int) := by omega
  refine ⟨xs[r.toNat], List.getElem_mem h2, List.getElem?_eq_getElem h2, ?_⟩
  have q := atI_nat (List.getElem?_eq_getElem h2)
  rw [← e] at q
  exact q
theorem Wl.upd {H : Hp} {a : Addr} {x y c : Int} (h : 0 ≤ c) : Wl (upd H a (.lst [.int x, .int y, .int c])) a c := ⟨h, x, y, upd_same⟩
theorem Fr.fr_new {a p : Addr} {H H' : Hp} {o : HO} (x : Fr a H H') (h : H' p = none) : Fr a H (L2.upd H' p o) := x.trans (Fr.new h)
theorem Wl.new {H : Hp} {a p : Addr} {c : Int} {o : HO} (h : Wl H a c) (n : H p = none) : Wl (L2.upd H p o) a c := h.same (same_new n)
theorem Wl.mut {H : Hp} {a p : Addr} {c : Int} {o : HO} (h : Wl H a c) (n : p ≠ a) : Wl (L2.upd H p o) a c := by
  obtain ⟨h0, x, y, e⟩ := h
  exact ⟨h0, x, y, by rw [upd_ne n.symm]; exact e⟩
theorem Wl.ne {H : Hp} {a p : Addr} {c : Int} (h : Wl H a c) (n : H p = none) : p ≠ a := by
  obtain ⟨h0, x, y, e⟩ := h
  exact (ne_of_none e n).symm
theorem Aft.start {a : Addr} {c d : Int} {H : Hp} {R : Hp → Prop} (h : Aft a c d H R) (w : Wl H a c) (hd : 0 ≤ d) : R H := h H c (Fr.refl a H) w (Int.le_refl _) (by omega)
theorem Aft.more {a : Addr} {c c1 d d1 : Int} {H H1 : Hp} {R : Hp → Prop} (h : Aft a c d H R) (f : Fr a H H1) (h1 : c ≤ c1) (h2 : c1 + d1 ≤ c + d) : Aft a c1 d1 H1 R := fun H' c' f' w h3 h4 => h H' c' (f.trans f') w (by omega) (by omega)
theorem yes_ {σ : L2.St} {H : Hp} {A B : Hp → Prop} (h : A H) : tYes σ H (fun b H3 => if b = true then A H3 else B H3) := by
  show (if true = true then A H else B H)
  rw [if_pos rfl]
  exact h
end Fk

set_option maxHeartbeats 4000000
namespace Fk
open PySem PySem.Spec PyProof.Rows L2
/-! ### texts that are drawn: what holds of them -/
theorem tl_cut (z : Str) (lo hi : Option Int) : TL.tl (cutS z lo hi) = ((TL.tl z).drop (HT.sIx z.length 0 lo)).take (HT.sIx z.length z.length hi - HT.sIx z.length 0 lo) := rfl
theorem cut_to (z : Str) (n : Nat) : TL.tl (cutS z none (some (n : Int))) = (TL.tl z).take n := by
  rw [tl_cut, HT.sIx_none, HT.sIx_nat, List.drop_zero, Nat.sub_zero, TL.len_tl]
  rcases Nat.le_total n (TL.tl z).length with h | h
  · rw [Nat.min_eq_left h]
  · rw [Nat.min_eq_right h, List.take_length, List.take_of_length_le h]
theorem cut_from (z : Str) (n : Nat) : TL.tl (cutS z (some (n : Int)) none) = (TL.tl z).drop n := by
  rw [tl_cut, HT.sIx_none, HT.sIx_nat, TL.len_tl]
  rcases Nat.le_total n (TL.tl z).length with h | h
  · rw [Nat.min_eq_left h, List.take_of_length_le (by rw [List.length_drop]; omega)]
  · rw [Nat.min_eq_right h, List.drop_length, List.take_nil, List.drop_of_length_le h]
theorem cutS_le (z : Str) (lo hi : Option Int) : (cutS z lo hi).length ≤ z.length := cutS_length z lo hi
def LTS : Str := "abcdefghijklmnopqrstuvwxyz0123456789_-"
theorem dots_count {x : Str} (h : dots x = true) : 2 ≤ (TL.tl x).count 46 := by
  obtain ⟨i, _, h2⟩ := (StrLaws.found_iff x (".." : Str)).mp h
  rw [StrLaws.subAt_eq] at h2
  have e : ((TL.tl x).drop i).take 2 = [46, 46] := by
    have e1 := eq_of_beq h2
    have e2 : (".." : Str).length = 2 := by decide +kernel
    have e3 : (".." : Str).cps.toList = [46, 46] := by decide +kernel
    rw [e2, e3] at e1
    exact e1
  have s : List.Sublist [46, 46] (TL.tl x) := by
    rw [← e]
    exact (List.take_sublist _ _).trans (List.drop_sublist _ _)
  exact s.count_le 46
theorem has_only {x y : Str} (h : ∀ u ∈ TL.tl x, u ∈ TL.tl y) : hasOnly x y = true := by
  unfold hasOnly
  rw [List.all_eq_true]
  exact fun u hu => decide_eq_true (h u hu)
theorem dot_tl : TL.tl ("." : Str) = [46] := by decide +kernel
theorem seg_of {x : Str} (h : ∀ u ∈ TL.tl x, u ∈ TL.tl SSG) (h1 : 1 ≤ x.length) (h2 : x.length ≤ 12) (h3 : (TL.tl x).count 46 ≤ 1) (h4 : (TL.tl x).count 46 = 0 ∨ 2 ≤ x.length) : isSegF x = true := by
  unfold isSegF isWordF
  have d : dots x = false := Bool.eq_false_iff.mpr fun z => by
    have := dots_count z
    omega
  have n : ¬ x = "." := fun e => by
    have e1 : TL.tl x = [46] := by rw [e]; exact dot_tl
    rw [TL.len_tl, e1] at h4
    rcases h4 with h4 | h4
    · exact absurd h4 (by decide)
    · exact absurd h4 (by decide)
  rw [decide_eq_true h1, decide_eq_true h2, has_only h, decide_eq_false n, d]
  rfl
theorem lts_ssg : ∀ u ∈ TL.tl LTS, u ∈ TL.tl SSG := by decide +kernel
theorem lts_dot : 46 ∉ TL.tl LTS := by decide +kernel
theorem seg_plain {x : Str} (h : ∀ u ∈ TL.tl x, u ∈ TL.tl LTS) (h1 : 1 ≤ x.length) (h2 : x.length ≤ 12) : isSegF x = true := by
  have c0 : (TL.tl x).count 46 = 0 := List.count_eq_zero.mpr fun z => lts_dot (h _ z)
  exact seg_of (fun u hu => lts_ssg u (h u hu)) h1 h2 (by omega) (.inl c0)
theorem seg_dotted {x : Str} (n : Nat) (h : ∀ u ∈ TL.tl x, u ∈ TL.tl LTS) (h1 : 1 ≤ x.length) (h2 : x.length < 12) :
    isSegF ((cutS x none (some (n : Int)) ++ ("." : Str)) ++ cutS x (some (n : Int)) none) = true ∧ ((cutS x none (some (n : Int)) ++ ("." : Str)) ++ cutS x (some (n : Int)) none).length ≤ 12 := by
  have e : TL.tl ((cutS x none (some (n : Int)) ++ ("." : Str)) ++ cutS x (some (n : Int)) none) = ((TL.tl x).take n ++ [46]) ++ (TL.tl x).drop n := by
    rw [TL.tl_append, TL.tl_append, cut_to, cut_from, dot_tl]
  have c0 : (TL.tl x).count 46 = 0 := List.count_eq_zero.mpr fun z => lts_dot (h _ z)
  have len : (((TL.tl x).take n ++ [46]) ++ (TL.tl x).drop n).length = x.length + 1 := by
    have := congrArg List.length (List.take_append_drop n (TL.tl x))
    rw [List.length_append] at this
    rw [List.length_append, List.length_append, List.length_singleton, TL.len_tl]
    omega
  have cnt : (((TL.tl x).take n ++ [46]) ++ (TL.tl x).drop n).count 46 = 1 := by
    have := congrArg (List.count 46) (List.take_append_drop n (TL.tl x))
    rw [List.count_append, c0] at this
    rw [List.count_append, List.count_append]
    have : [46].count 46 = 1 := rfl
    omega
  refine ⟨seg_of (fun u hu => ?_) (by rw [TL.len_tl, e, len]; omega) (by rw [TL.len_tl, e, len]; omega) (by rw [e, cnt]; exact Nat.le_refl _) (.inr (by rw [TL.len_tl, e, len]; omega)), by rw [TL.len_tl, e, len]; omega⟩
  rw [e] at hu
  rcases List.mem_append.mp hu with hu | hu
  · rcases List.mem_append.mp hu with hu | hu
    · exact lts_ssg u (h u (List.mem_of_mem_take hu))
    · rw [List.mem_singleton.mp hu]
      decide +kernel
  · exact lts_ssg u (h u (List.mem_of_mem_drop hu))
theorem slash_tl : TL.tl ("/" : Str) = [47] := by decide +kernel
theorem seg_slash {x : Str} (h : isSegF x = true) : 47 ∉ TL.tl x := by
  unfold isSegF isWordF hasOnly at h
  simp only [Bool.and_eq_true] at h
  have h1 := h.1.2.2
  rw [List.all_eq_true] at h1
  intro z
  have h2 := of_decide_eq_true (h1 47 z)
  exact absurd h2 (by decide +kernel)
theorem seg_len {x : Str} (h : isSegF x = true) : x.length ≤ 12 := by
  unfold isSegF isWordF at h
  simp only [Bool.and_eq_true] at h
  exact of_decide_eq_true h.1.2.1
theorem path_of {ps : List Str} (h0 : ps ≠ []) (h1 : ps.length ≤ 6) (h : ∀ p ∈ ps, isSegF p = true) : isPathF (Txt.join "/" ps) = true := by
  unfold isPathF segs
  rw [TL.split_join (S := []) slash_tl (by decide +kernel) h0 fun p hp => seg_slash (h p hp), decide_eq_true h1, List.all_eq_true.mpr h]
  rfl
theorem join_len (y : Str) : ∀ ps : List Str, (∀ p ∈ ps, p.length ≤ 12) → (Txt.join y ps).length ≤ ps.length * (12 + y.length) := by
  intro ps h
  rw [TL.join_eq]
  refine Nat.le_trans (StrLaws.join_length_le y ps) ?_
  rw [Nat.mul_add]
  refine Nat.add_le_add_right ?_ _
  induction ps with
  | nil => exact Nat.le_refl _
  | cons p r ih =>
    rw [List.map_cons, List.sum_cons, List.length_cons, Nat.succ_mul]
    have := ih fun q hq => h q (List.mem_cons_of_mem _ hq)
    have := h p List.mem_cons_self
    omega
theorem sum_len : ∀ ps : List Str, (∀ p ∈ ps, p.length ≤ 12) → (ps.map (·.length)).sum ≤ ps.length * 12 := by
  intro ps h
  induction ps with
  | nil => exact Nat.le_refl _
  | cons p r ih =>
    rw [List.map_cons, List.sum_cons, List.length_cons, Nat.succ_mul]
    have := ih fun q hq => h q (List.mem_cons_of_mem _ hq)
    have := h p List.mem_cons_self
    omega
def ALL : Str := (" !\"#$&'()*+,-./0123456789:;<=>?@ABCDEFGHIJKLMNOPQRSTUVWXYZ[]^_`abcdefghijklmnopqrstuvwxyz{|}~" : Str) ++ ("\\" : Str) ++ ("\n" : Str)
theorem all_plain : ∀ u ∈ TL.tl ALL, (decide (u = 10) || plainC u) = true := by decide +kernel
theorem text_of {x : Str} (h : ∀ u ∈ TL.tl x, u ∈ TL.tl ALL) (h1 : x.length ≤ 2000) : isTextF x = true := by
  unfold isTextF
  rw [decide_eq_true h1, List.all_eq_true.mpr fun u hu => all_plain u (h u hu)]
  rfl
theorem id_of {x : Str} (h : ∀ u ∈ TL.tl x, u ∈ TL.tl HEX) (h1 : x.length = 16) : isIdF x = true := by
  unfold isIdF
  rw [decide_eq_true h1, has_only h]
  rfl
theorem filt_all {α : Type} (l : List α) : l.filter (fun _ => true) = l := List.filter_eq_self.mpr fun _ _ => rfl
theorem of_ev {f : Str → Bool} {x : Str} {b : Bool} {Q : VK} {H : Hp} (q : Q (.bl (evalV f (.str x))) H) (e : f x = b) : Q (.bl b) H := by
  rw [← e]
  exact q
theorem of_ev0 {f : Str → Bool} {v : V} {Q : VK} {H : Hp} (hn : ∀ f, evalV f v = false) (q : Q (.bl (evalV f v)) H) : Q (.bl false) H := by
  rw [← hn f]
  exact q
theorem segs_ne (x : Str) : segs x ≠ [] := by
  intro h
  have e := TL.split_spl x "/" (by decide +kernel) (TL.kind_ok (by decide +kernel))
  have h' : Txt.split x "/" = [] := h
  rw [h'] at e
  have e2 : ∀ l k acc, TL.spl (TL.tl "/") k acc l ≠ [] := by
    intro l
    induction l with
    | nil => intro k acc h; rw [TL.spl_nil] at h; cases h
    | cons c r ih =>
      intro k acc h
      cases k with
      | zero =>
        unfold TL.spl at h
        split at h
        · cases h
        · exact ih _ _ h
      | succ k => exact ih _ _ h
  exact e2 _ _ _ e.symm
theorem segs_len (x : Str) (h : x.length ≤ 100000) : (segs x).length ≤ 100001 ∧ ∀ y ∈ segs x, y.length ≤ 100000 := by
  have e := TL.split_spl x "/" (by decide +kernel) (TL.kind_ok (by decide +kernel))
  have e2 : ∀ l k acc, (TL.spl (TL.tl "/") k acc l).length ≤ l.length + 1 ∧ ∀ y ∈ TL.spl (TL.tl "/") k acc l, y.length ≤ acc.length + l.length := by
    intro l
    induction l with
    | nil => intro k acc; rw [TL.spl_nil]; exact ⟨Nat.le_refl _, fun y hy => by rw [List.mem_singleton.mp hy]; simp⟩
    | cons c r ih =>
      intro k acc
      cases k with
      | zero =>
        unfold TL.spl
        split
        · obtain ⟨i1, i2⟩ := ih ((TL.tl "/").length - 1) []
          refine ⟨by simp only [List.length_cons]; omega, fun y hy => ?_⟩
          rcases List.mem_cons.mp hy with rfl | hy
          · simp only [List.length_cons]; omega
          · have := i2 y hy
            simp only [List.length_cons, List.length_nil] at this ⊢
            omega
        · obtain ⟨i1, i2⟩ := ih 0 (acc ++ [c])
          refine ⟨by simp only [List.length_cons]; omega, fun y hy => ?_⟩
          have := i2 y hy
          simp only [List.length_cons, List.length_append, List.length_nil] at this ⊢
          omega
      | succ k =>
        obtain ⟨i1, i2⟩ := ih k acc
        unfold TL.spl
        refine ⟨by simp only [List.length_cons]; omega, fun y hy => ?_⟩
        have := i2 y hy
        simp only [List.length_cons] at this ⊢
        omega
  obtain ⟨i1, i2⟩ := e2 (TL.tl x) 0 []
  rw [← e] at i1 i2
  rw [List.length_map, ← TL.len_tl] at i1
  refine ⟨?_, fun y hy => ?_⟩
  · show (Txt.split x "/").length ≤ _
    omega
  · have := i2 (TL.tl y) (List.mem_map_of_mem hy)
    rw [← TL.len_tl, ← TL.len_tl] at this
    simp at this
    omega
theorem segs_ok (x : Str) (h : OkS x) : ∀ y ∈ segs x, OkS y := by
  have e := TL.split_spl x "/" (by decide +kernel) (TL.kind_ok (by decide +kernel))
  have e2 : ∀ l k acc, (∀ u ∈ l, u < 1114112) → (∀ u ∈ acc, u < 1114112) → ∀ y ∈ TL.spl (TL.tl "/") k acc l, ∀ u ∈ y, u < 1114112 := by
    intro l
    induction l with
    | nil =>
      intro k acc h1 h2 y hy
      rw [TL.spl_nil] at hy
      rw [List.mem_singleton.mp hy]
      exact h2
    | cons c r ih =>
      intro k acc h1 h2 y hy
      have h3 : ∀ u ∈ r, u < 1114112 := fun u hu => h1 u (List.mem_cons_of_mem _ hu)
      cases k with
      | zero =>
        unfold TL.spl at hy
        split at hy
        · rcases List.mem_cons.mp hy with rfl | hy
          · exact h2
          · exact ih _ _ h3 (fun u hu => (List.not_mem_nil hu).elim) y hy
        · refine ih _ _ h3 (fun u hu => ?_) y hy
          rcases List.mem_append.mp hu with hu | hu
          · exact h2 u hu
          · rw [List.mem_singleton.mp hu]
            exact h1 c List.mem_cons_self
      | succ k => exact ih _ _ h3 h2 y hy
  intro y hy
  have i2 := e2 (TL.tl x) 0 [] h (fun u hu => (List.not_mem_nil hu).elim) (TL.tl y)
  rw [← e] at i2
  exact i2 (List.mem_map_of_mem hy)
theorem dp_nil {K : PySem.W.Frag} {H : Hp} {p : Addr} (h : H p = some (.lst [])) : Dp K H (.ref p) (.list []) := .lst (SqL.of h) .nil
theorem dp_strs {K : PySem.W.Frag} {H : Hp} : ∀ ys : List Str, DpAll K H (ys.map V.str) (ys.map PyData.str)
  | [] => .nil
  | y :: r => .cons (.str y) (dp_strs r)
theorem strOk_of {x : Str} (h : OkS x) : PyData.strOk x = true := by
  unfold PyData.strOk
  rw [← Array.all_toList, List.all_eq_true]
  exact fun u hu => decide_eq_true (h u hu)
theorem lay_strs : ∀ ys : List Str, (∀ y ∈ ys, OkS y) → PyData.canLayAll0 (ys.map PyData.str) = true
  | [], _ => rfl
  | y :: r, h => by simp [PyData.canLayAll0, PyData.canLay0, lay_strs r fun z hz => h z (List.mem_cons_of_mem _ hz), strOk_of (h y List.mem_cons_self)]
theorem depth_strs : ∀ ys : List Str, PyData.depthAll (ys.map PyData.str) = 0
  | [] => rfl
  | _ :: r => by simp [PyData.depthAll, PyData.depth, depth_strs r]
theorem shaped_strs (ys : List Str) (h : ∀ y ∈ ys, OkS y) : SeqAt.shaped (.list (ys.map PyData.str)) = true := by
  simp [SeqAt.shaped, PyData.canLay0, PyData.depth, lay_strs ys h, depth_strs]
theorem shaped_nil : SeqAt.shaped (.list []) = true := shaped_strs [] fun _ h => (List.not_mem_nil h).elim
theorem eqv_nil (ys : List Str) : PyData.eqv (.list (ys.map PyData.str)) (.list []) = ys.isEmpty := by
  cases ys with
  | nil => simp [PyData.eqv, PyData.eqvAll]
  | cons y r => simp [PyData.eqv, PyData.eqvAll]
theorem ifF {c A B : Prop} [Decidable c] (h : ¬ c) (b : B) : if c then A else B := by
  rw [if_neg h]
  exact b
theorem ifT {c A B : Prop} [Decidable c] (h : c) (b : A) : if c then A else B := by
  rw [if_pos h]
  exact b
/-- a list of texts is asked for being empty -/
theorem ask_nil {K : PySem.W.Frag} {H' : Hp} {p q : Addr} {ys : List Str} {Q : VK} (ho : ∀ y ∈ ys, OkS y) (h : H' p = some (.lst (ys.map V.str))) (hq : H' q = some (.lst [])) (k : Q (.bl ys.isEmpty) H') : rEqD K (.ref p) (.ref q) H' Q :=
  ⟨_, _, .lst (SqL.of h) (dp_strs ys), dp_nil hq, shaped_strs ys ho, shaped_nil, by rw [eqv_nil]; exact k⟩
theorem filt_empty {α : Type} (l : List α) (p : α → Bool) : (l.filter fun u => !p u).isEmpty = l.all p := by
  induction l with
  | nil => rfl
  | cons a r ih =>
    rw [List.filter_cons, List.all_cons]
    cases h : p a with
    | true => simpa [h] using ih
    | false => simp [h]
theorem map_sgn (cs : List Nat) : cs.map sgn = (cs.map fun c => (⟨#[c]⟩ : Str)).map V.str := by
  rw [List.map_map]
  rfl
theorem ok_sgn {c : Nat} (h : c < 1114112) : OkS ⟨#[c]⟩ := fun u hu => by
  have e : u = c := List.mem_singleton.mp hu
  rw [e]
  exact h
theorem ok_sgns {x : Str} (h : OkS x) (p : Nat → Bool) : ∀ y ∈ ((TL.tl x).filter p).map fun c => (⟨#[c]⟩ : Str), OkS y := fun y hy => by
  obtain ⟨c, hc, rfl⟩ := List.mem_map.mp hy
  exact ok_sgn (h c ((List.mem_filter.mp hc).1))
end Fk
namespace Fk
open PySem PySem.Spec PyProof.Rows L2
theorem ok_app {x y : Str} (hx : OkS x) (hy : OkS y) : OkS (x ++ y) := fun u hu => by
  rw [TL.tl_append] at hu
  rcases List.mem_append.mp hu with hu | hu
  · exact hx u hu
  · exact hy u hu
theorem ok_cut {x : Str} (hx : OkS x) (lo hi : Option Int) : OkS (cutS x lo hi) := fun u hu => by
  rw [tl_cut] at hu
  exact hx u (List.mem_of_mem_drop (List.mem_of_mem_take hu))
theorem ok_rep {x : Str} (hx : OkS x) (n : Nat) : OkS (repS x n) := fun u hu => by
  rw [tl_rep] at hu
  obtain ⟨l, hl, hu⟩ := List.mem_flatten.mp hu
  rw [(List.mem_replicate.mp hl).2] at hu
  exact hx u hu
theorem ok_join {y : Str} (hy : OkS y) {ps : List Str} (h : ∀ p ∈ ps, OkS p) : OkS (Txt.join y ps) := fun u hu => by
  rw [TL.join_eq, TL.tl_join] at hu
  have e : ∀ ls : List (List Nat), (∀ l ∈ ls, ∀ u ∈ l, u < 1114112) → ∀ u ∈ TL.joinL (TL.tl y) ls, u < 1114112 := by
    intro ls
    induction ls with
    | nil => intro _ u hu; exact (List.not_mem_nil hu).elim
    | cons l r ih =>
      intro h u hu
      cases r with
      | nil => exact h l List.mem_cons_self u hu
      | cons m r =>
        have hu : u ∈ l ++ (TL.tl y ++ TL.joinL (TL.tl y) (m :: r)) := hu
        rcases List.mem_append.mp hu with hu | hu
        · exact h l List.mem_cons_self u hu
        · rcases List.mem_append.mp hu with hu | hu
          · exact hy u hu
          · exact ih (fun l hl => h l (List.mem_cons_of_mem _ hl)) u hu
  refine e _ (fun l hl => ?_) u hu
  obtain ⟨p, hp, rfl⟩ := List.mem_map.mp hl
  exact h p hp
theorem ok_by {x : Str} (h : (TL.tl x).all (fun u => decide (u < 1114112)) = true) : OkS x := fun u hu => of_decide_eq_true (List.all_eq_true.mp h u hu)
theorem ok_sub {x y : Str} (h : ∀ u ∈ TL.tl x, u ∈ TL.tl y) (hy : OkS y) : OkS x := fun u hu => hy u (h u hu)
theorem ok_hex : OkS HEX := ok_by (by decide +kernel)
theorem ok_ssg : OkS SSG := ok_by (by decide +kernel)
theorem ok_rsg : OkS RSG := ok_by (by decide +kernel)
theorem ok_let : OkS LET := ok_by (by decide +kernel)
theorem ok_all : OkS ALL := ok_by (by decide +kernel)
theorem ok_slash : OkS "/" := ok_by (by decide +kernel)
theorem only_sub {x y : Str} (h : hasOnly x y = true) : ∀ u ∈ TL.tl x, u ∈ TL.tl y := fun u hu => of_decide_eq_true (List.all_eq_true.mp h u hu)
theorem ok_seg {x : Str} (h : isSegF x = true) : OkS x := by
  unfold isSegF isWordF at h
  simp only [Bool.and_eq_true] at h
  exact ok_sub (only_sub h.1.2.2) ok_ssg
theorem word_of {x y : Str} (h : ∀ u ∈ TL.tl x, u ∈ TL.tl y) (h1 : 1 ≤ x.length) (h2 : x.length ≤ 12) : isWordF y x = true := by
  unfold isWordF
  rw [decide_eq_true h1, decide_eq_true h2, has_only h]
  rfl
theorem Same.of_fr {a : Addr} {H H1 H2 : Hp} (h : H a = none) (s : Same H H1) (f : Fr a H1 H2) : Same H H2 := fun b o e => f b o (ne_of_none e h) (s b o e)
theorem def_ne {K : PySem.W.Frag} {mg : Str → Option Value} {x y : Str} {st st' : Stmt} {f f' : Addr} {fd fd' : FuncData} (D : C8.Def K mg x st f fd) (D' : C8.Def K mg y st' f' fd') (h : x ≠ y) : f ≠ f' := by
  intro e
  subst e
  obtain ⟨oc, od, dV, kV, doc, pm, an, cdv, ct, osl, rfl, lk, _⟩ := D.fn.ex
  obtain ⟨oc', od', dV', kV', doc', pm', an', cdv', ct', osl', rfl, lk', _⟩ := D'.fn.ex
  rw [lk] at lk'
  have e1 := Option.some.inj lk'
  injection e1 with e1 e2 e3 e4
  injection e3 with e3
  exact h (congrArg FuncData.name e3)
end Fk
namespace Fk
open PySem PySem.Spec PyProof.Rows L2
theorem plain_lt {c : Nat} (h : (decide (c = 10) || plainC c) = true) : c < 1114112 := by
  rcases Bool.or_eq_true_iff.mp h with h | h
  · have := of_decide_eq_true h
    omega
  · unfold plainC at h
    have h2 := (Bool.and_eq_true_iff.mp h).2
    have h3 : ¬ ([126] < [c]) := fun z => by
      rw [decide_eq_true z] at h2
      exact absurd h2 (by decide)
    have h4 : ¬ 126 < c := fun z => h3 (List.Lex.rel z)
    omega
theorem ok_text {x : Str} (h : isTextF x = true) : OkS x := fun u hu => plain_lt (List.all_eq_true.mp (Bool.and_eq_true_iff.mp h).2 u hu)
end Fk

set_option maxHeartbeats 4000000
/-! An error of an own class as a value: made with keywords or without, its base any whose making is the plain one. -/
namespace Fk
open PySem PySem.Spec L2
open Builtin
section
variable {prog : Program} {w : World} {A : Around} {R : Result → Shared → Prop} {h : Heap} {g : Array GenState} {d : Drawn} {t : Nat} {os : OsState}
variable {nm q : Str} {C N : Addr} {bs bm bmB : List Value} {hdct : Bool} {sn : List Str} {sub : List Value} {ab : Bool} {col : Option Bool} {dd : Option Addr} {k0 k1 k2 k3 k5 : Option Value} {B newId initId : String} {kws : List (Str × Value)}
/-- what the class's own list of bases must say -/
structure BmOk (B : String) (bm : List Value) : Prop where
  b : bm.contains (.type B) = true
  a : bm.contains (.type "AttributeError") = false
  n : bm.contains (.type "NameError") = false
theorem BmOk.b' (o : BmOk B bm) : (Value.ref C :: bm).contains (.type B) = true := by
  have := o.b
  simp only [List.contains_cons, this, Bool.or_true]
theorem BmOk.a' (o : BmOk B bm) : (Value.ref C :: bm).contains (.type "AttributeError") = false := by
  have := o.a
  rw [List.contains_cons, this] <;> rfl
theorem BmOk.n' (o : BmOk B bm) : (Value.ref C :: bm).contains (.type "NameError") = false := by
  have := o.n
  rw [List.contains_cons, this] <;> rfl
theorem xcheck_new (F : ExcBaseFacts B newId initId bmB) (o : BmOk B bm) {rest : List Value} {M : Model} {E : Value → Shared → Prop} {Q : Unit → Shared → Prop} (hC : h.get? C = some (excClassObj nm q C N bs bm hdct sn sub ab col dd k0 k1 k2 k3 k5 newId))
    (hq : Q () ⟨h, g, d, t, os⟩) : wpAny M A (checkBuiltinCall newId ⟨.ref C :: rest, kws⟩) Q E ⟨h, g, d, t, os⟩ := by
  have z1 := o.b' (C := C)
  have z2 := F.noStar
  simp only [checkBuiltinCall, F.newKind, F.newSplit, F.newRow]
  repeat (first
    | refine wpAny_loadPart_at hC ?_
    | (refine wpAny_isSubtype_exc hC ?_; rw [z1])
    | refine wpAny_staticBase_exc hC ?_
    | refine wpAny_madeBy_exc hC ?_
    | simp only [bne_self_eq_false, Bool.false_eq_true, if_false]
    | wp_step)
  exact hq
theorem xnew (F : ExcBaseFacts B newId initId bmB) (o : BmOk B bm) {rest : List Value} (hC : h.get? C = some (excClassObj nm q C N bs bm hdct sn sub ab col dd k0 k1 k2 k3 k5 newId)) (hrest : rest.length ≤ sizeLine)
    (hq : R (.ok (.ret (.ref (h.objs.size + 1)))) ⟨(h.push (W.kdv_tup rest)).push (PySem.HandSPX.excO C h.objs.size), g, d, t, os⟩) :
    codeAny (model prog w) A (.builtin newId ⟨.ref C :: rest, kws⟩) R ⟨h, g, d, t, os⟩ := by
  have z0 := F.ends
  have z1 := o.b' (C := C)
  have z2 := o.a' (C := C)
  have z3 := o.n' (C := C)
  refine codeAny_builtinAt F.entry ?_
  unfold Builtin.«BaseException.__new__»
  refine wpAt_bind ?_
  show wpAt _ _ _ (stack >>= _) _ _ _
  refine wpAt_bind (wpAt_stack fun p below => wpAt_of_wpAny ?_)
  wp_walk
  refine wpAt_of_wpAny ?_
  rw [F.owner]
  repeat (first
    | with_reducible refine wpAny_madeHere_exc F.canon hC ?_
    | with_reducible refine wpAny_loadPart_at hC ?_
    | (with_reducible refine wpAny_isSubtype_exc hC ?_; first | rw [z1] | rw [z2] | rw [z3])
    | wp_step)
  show R _ _
  rw [Heap.size_push]
  exact hq
theorem xtype_call (F : ExcBaseFacts B newId initId bmB) (o : BmOk B bm) {rest : List Value} {fI : Addr} {Q : Fin → Shared → Prop} {E : Value → Shared → Prop} (hC : h.get? C = some (excClassObj nm q C N bs bm hdct sn sub ab col dd k0 k1 k2 k3 k5 newId))
    (hi : W.Looks (model prog w) h (typeLookup (.ref C) "__init__") (some (.ref fI))) (hb : ∀ self, W.Looks (model prog w) h (bindSpecial (.ref fI) self) (.ref fI, [self])) (hrest : rest.length ≤ sizeLine)
    (hq : codeAny (model prog w) A (.call (.ref fI) ⟨.ref (h.objs.size + 1) :: rest, kws⟩) (fun r s' => match r with | .ok (.ret v) => v = .none ∧ Q (.done (.ret (.ref (h.objs.size + 1)))) s' | .ok _ => False | .error e => E e s')
      ⟨(h.push (W.kdv_tup rest)).push (PySem.HandSPX.excO C h.objs.size), g, d, t, os⟩) :
    wpAny (model prog w) A (Builtin.«type.__call__» ⟨.ref C :: rest, kws⟩) Q E ⟨h, g, d, t, os⟩ := by
  repeat (first
    | with_reducible refine wpAny_loadPart_at hC ?_
    | with_reducible refine wpAny_madeBy_exc hC ?_
    | wp_step)
  refine codeAny_call_builtin_code (Code.quiet_builtin _ F.quiet) (xcheck_new F o hC ?_)
  refine xnew F o hC hrest ?_
  show wpAny _ _ _ _ _ _
  have kk : ∀ b u, h.get? b = some u → ((h.push (W.kdv_tup rest)).push (PySem.HandSPX.excO C h.objs.size)).get? b = some u := fun b u e => Heap.get?_push_of_some _ (Heap.get?_push_of_some _ e)
  have c1 := kk _ _ hC
  have gt : ((h.push (W.kdv_tup rest)).push (PySem.HandSPX.excO C h.objs.size)).get? (h.objs.size + 1) = some (PySem.HandSPX.excO C h.objs.size) := by heap_get
  have zC : (Value.ref C :: bm).contains (.ref C) = true := by
    rw [List.contains_cons, beq_self_eq_true, Bool.true_or]
  have j1 := hi.keeps kk
  have j2 := (hb (.ref (h.objs.size + 1))).keeps kk
  unfold isInstance
  repeat (first
    | with_reducible refine wpAny_loadPart_at gt ?_
    | (with_reducible refine wpAny_isSubtype_exc c1 ?_; rw [zC])
    | wp_step)
  show wpAny _ _ (typeLookup (.ref C) _) _ _ _
  refine j1.at (wpAny_holding (wpAny_bind (j2.at (wpAny_bind (wpAny_call (codeAny_mono hq fun r s' z => ?_))))))
  rcases r with e | (v | _ | _ | _) <;> first | exact z | exact z.elim | skip
  obtain ⟨rfl, z⟩ := z
  first
    | exact wpAny_pure (wpAny_pure z)
    | (wp_walk; exact z)

theorem xcall (F : ExcBaseFacts B newId initId bmB) (o : BmOk B bm) {rest : List Value} {fI : Addr} (hC : h.get? C = some (excClassObj nm q C N bs bm hdct sn sub ab col dd k0 k1 k2 k3 k5 newId))
    (hi : W.Looks (model prog w) h (typeLookup (.ref C) "__init__") (some (.ref fI))) (hb : ∀ self, W.Looks (model prog w) h (bindSpecial (.ref fI) self) (.ref fI, [self])) (hrest : rest.length ≤ sizeLine)
    (hq : codeAny (model prog w) (A.under (.builtin "type.__call__" ⟨.ref C :: rest, kws⟩)) (.call (.ref fI) ⟨.ref (h.objs.size + 1) :: rest, kws⟩) (W.InitBack (h.objs.size + 1) R) ⟨(h.push (W.kdv_tup rest)).push (PySem.HandSPX.excO C h.objs.size), g, d, t, os⟩) :
    codeAny (model prog w) A (.call (.ref C) ⟨rest, kws⟩) R ⟨h, g, d, t, os⟩ := by
  have z1 := tc_lookup
  have z2 := tc_bind (.ref C)
  have zT : (⟨h, g, d, t, os⟩ : Shared).TypeIs (.ref C) "type" := ⟨_, hC, rfl⟩
  refine codeAny_of_tree ?_
  show wpAny _ _ (callAny (.ref C) _) _ _ _
  repeat (any_goals (first
    | assumption
    | with_reducible refine wpAny_loadPart_at hC ?_
    | wp_step))
  refine ⟨rfl, codeAny_call_builtin_at (Code.quiet_builtin _ (by decide +kernel)) entry_typeCall (wpAny_check_type_call_sub hC (xtype_call F o hC hi hb hrest (codeAny_mono hq fun r s' z => ?_)))⟩
  rcases r with e | (v | _ | _ | _) <;> exact z

open Builtin.ObjectAttr in
theorem xosa {K : W.Frag} {name : Str} {tk : Tok} {v : Value} {x C : Addr} {fv : Array Value} {cd : ClassData} (XK : K.In h) (hx : h.get? x = some { cls := .ref C, data := .fields fv }) (hcd : W.clsIn K C = some cd) (hne : cd.mro.isEmpty = false)
    (hob : cd.mro.contains (.type "object") = true) (hps : refuseLoop (.ref x) "__setattr__" cd.mro = pure ()) (hh : cd.hasDict = true) (ha : W.findIn K (.ref C) name = some none)
    (hq : ∀ h' tk' dx, (∀ b u, b ≠ x → h.get? b = some u → h'.get? b = some u) → h.objs.size ≤ dx → dx ≠ x → h'.get? x = some { cls := .ref C, dict := some dx, data := .fields fv } → h'.Ns1 dx (fun y => if y = name then some v else none) → R (.ok (.ret .none)) ⟨h', g, d, tk', os⟩) :
    codeAny (model prog w) A (.call (.builtin "object.__setattr__") ⟨[.ref x, .str name tk, v], []⟩) R ⟨h, g, d, t, os⟩ := by
  have iT : W.InstAt h x { cls := .ref C, data := .fields fv } C none := ⟨hx, rfl, rfl, trivial⟩
  have sF := PySem.F.store_object
  have nx : x ≠ h.objs.size := Nat.ne_of_lt (Heap.lt_size hx)
  have isO : W.Looks (model prog w) h (isInstance (.ref x) (.type "object")) true := by
    refine iT.type.andThen (W.looks_mroIn XK ?_)
    unfold W.mroIn
    rw [hcd, Option.bind_some, if_neg (by rw [hne]; decide), hob]
  refine codeAny_call_builtin sF.slot.plain sF.entry (@W.check_slot (model prog w) _ _ ⟨h, g, d, t, os⟩ "object.__setattr__" "object" "__setattr__" (.ref x)
    [.str name tk, v] [] _ sF.kind sF.split isO (sF.args (.ref x) (.str name tk) v) ?_)
  have y1 : W.Looks (model prog w) h (mroOf (.ref C)) cd.mro := (W.looks_clsIn XK hcd).andThen .now
  have y2 : W.Looks (model prog w) h (storeTaker? none) none := .now
  have y3 : W.Looks (model prog w) h (classData C) cd := W.looks_clsIn XK hcd
  rw [W.osa_eq, refuse_eq]
  refine wpAny_bind (wpAny_bind (iT.type.at (wpAny_bind (y1.at ?_))))
  rw [hps]
  refine wpAny_pure (wpAny_bind (iT.type.at (wpAny_bind ((W.looks_findIn XK ha).at (wpAny_bind (y2.at ?_))))))
  show wpAny _ _ (storeInOwnDict (.ref x) (.ref C) (.str name tk) name v false) _ _ _
  obtain ⟨z1, z2, z3, z4, z5, hd, z6, z7, z8, z9, z10⟩ := cd
  dsimp only at hh
  subst hh
  unfold storeInOwnDict ownDictForStores
  repeat (first
    | with_reducible refine PySem.HandSPX.store_in_new ?_ ?_
    | with_reducible refine wpAny_loadPart_at hx ?_
    | with_reducible refine y3.at ?_
    | wp_step)
  · exact ⟨_, #[], _, (Heap.get?_update_ne _ _ _ _ nx.symm).trans (Heap.get?_push_at rfl rfl), rfl, fun e he => absurd he (by simp), fun _ => rfl⟩
  · intro h' tk' hn' hs
    have hx' : (h.push { cls := .type "dict", data := .dict #[] }).get? x = some { cls := .ref C, data := .fields fv } := Heap.get?_push_of_some _ hx
    refine hq h' tk' h.objs.size (fun b u hb hu => ?_) (Nat.le_refl _) nx.symm ?_ hn'
    · exact (hs.2 b (Nat.ne_of_lt (Heap.lt_size hu))).trans ((Heap.get?_update_ne _ _ _ _ hb).trans (Heap.get?_push_of_some _ hu))
    · exact (hs.2 x nx).trans (Heap.get?_update_self _ hx' rfl)
end
end Fk

set_option maxHeartbeats 4000000
namespace Fk
open PySem PySem.Spec L2
/-- what the written part says of an error's class, whose __init__ stands at fI -/
structure XC (K : PySem.W.Frag) (C fI : Addr) : Prop where
  cls : ∃ (B newId initId : String) (bmB : List Value) (nm q : Str) (N : Addr) (bs bm : List Value) (sn : List Str) (sub : List Value) (ab : Bool) (col : Option Bool) (dd : Option Addr) (k0 k1 k2 k3 k5 : Option Value),
    ExcBaseFacts B newId initId bmB ∧ BmOk B bm ∧ (∀ self, refuseLoop self "__setattr__" bm = pure ()) ∧ bm.contains (.type "object") = true ∧ K.lookup C = some (excClassObj nm q C N bs bm true sn sub ab col dd k0 k1 k2 k3 k5 newId)
  sa : PySem.W.findIn K (.ref C) "__setattr__" = some (some (.builtin "object.__setattr__"))
  kC : PySem.W.keepIn K (.ref C) = true
  iC : PySem.W.findIn K (.ref C) "__init__" = some (some (.ref fI))
  tI : PySem.W.typeIn K (.ref fI) = some (.type "function")
  ga : PySem.W.findIn K (.ref C) "__getattribute__" = some (some (.builtin "BaseException.__getattribute__"))
  gg : PySem.W.findIn K (.ref C) "__getattr__" = some none
  su : PySem.W.subIn K (.ref C) (.type "BaseException") = some true
  hd : PySem.W.hasDictIn K C = true
  ha : PySem.W.findIn K (.ref C) "__class__" = some (some (.builtin "object.__class__"))
  hn : PySem.W.specialIn K (.builtin "object.__class__") "__get__" = some (some (.builtin "getset_descriptor.__get__"))
  ht : PySem.W.takesIn K (.builtin "object.__class__") = some true
  hm : PySem.W.mroIn K C (.type "object") = some true
section
variable {X : Cx} {CX : CXT} {k : Nat} {fI C : Addr} {fd : FuncData} {ps : List Str} {sp : Sp}
theorem run_mkv {pins : List (Addr × Obj)} {σ : L2.St} {H : Hp} {s : Shared} {Q : VK} {us vals : List Value} {kz : List (Str × Value)} {vvs : List V} (T : XC X.K C fI) (F1 : FnOk X.prog X.w X.K X.mg X.base CX k fI fd ps sp) (hr : Room (k + 1) X.A)
    (hx : Passes CX X (fun _ _ _ => False)) (I : Inv X pins σ H s) (rv : Vals vvs vals) (hus : us.length ≤ 1000) (hbind : ∀ (s' : Shared) (self : Value), X.K.In s'.heap → BindsTo s' fd ⟨self :: us, kz⟩ (ps.zip (self :: vals)))
    (h : ∀ a, H a = none → sp (.ref a :: vvs) (upd H a (exo a C none)) (fun v H2 => v = .non ∧ Q (.ref a) H2) (fun _ _ _ => False)) :
    wpAny (model X.prog X.w) X.A (call (.ref C) us kz) (EP X pins σ Q) X.xe s := by
  obtain ⟨B, newId, initId, bmB, nm, q, N, bs, bm, sn, sub, ab, col, dd, k0, k1, k2, k3, k5, FB, ok, _, _, hC⟩ := T.cls
  obtain ⟨hp, g, dr, tk, os⟩ := s
  have hsz : hp.objs.size ≤ hp.objs.size + 1 := Nat.le_succ _
  have hq := h (hp.objs.size + 1) (I.hok.fresh hsz)
  have gt : ((hp.push (PySem.W.kdv_tup us)).push (PySem.HandSPX.excO C hp.objs.size)).get? (hp.objs.size + 1) = some (PySem.HandSPX.excO C hp.objs.size) := by heap_get
  have I2 : Inv X pins σ (upd H (hp.objs.size + 1) (exo (hp.objs.size + 1) C none)) ⟨(hp.push (PySem.W.kdv_tup us)).push (PySem.HandSPX.excO C hp.objs.size), g, dr, tk, os⟩ :=
    I.laid (t' := tk) (a := hp.objs.size + 1) (o := exo (hp.objs.size + 1) C none) (fun b u e => Heap.get?_push_of_some _ (Heap.get?_push_of_some _ e)) hsz (exo_ok gt)
  have r2 : Vals (V.ref (hp.objs.size + 1) :: vvs) (Value.ref (hp.objs.size + 1) :: vals) := .cons rfl rv
  have hz : us.length ≤ sizeLine := Nat.le_trans hus (by decide)
  refine wpAny_call (xcall FB ok (I.kIn _ _ hC) (PySem.W.looks_findIn I.kIn T.iC) (fun self => PySem.W.bind_fn I.kIn self T.tI) hz
    (codeAny_mono (F1.run _ X.stack _ _ ⟨Value.ref (hp.objs.size + 1) :: us, kz⟩ _ _ _ (fun _ _ _ => False) (hr.make C us kz) (I2.env0.make C us kz) (hbind _ _ I2.kIn) r2 hq) fun r s' z => ?_))
  cases r with
  | error e => exact hx pins σ _ _ e s' I2 z
  | ok fl =>
    cases fl with
    | ret u =>
      obtain ⟨v, H', I3, rv', ev, q3⟩ := I2.after z
      subst ev
      exact ⟨rv', ⟨V.ref (hp.objs.size + 1), H', I3, rfl, q3⟩⟩
    | next => exact z.elim
    | brk => exact z.elim
    | cont => exact z.elim
variable {x : Str} {p p' pos : Pos} {e o : Expr} {es : List Expr} {kws : List Keyword} {t tk : TA} {ds : List Value} {dvs : List V} {ks : List Str} {te to : TE} {f : Str}
/-- C(e, ..) as a value: an error's object stands at a, then __init__ -/
def tMkV (C : Addr) (sp : Sp) (dvs : List V) (t : TA) : TE := fun σ H Q => t σ H fun vs H1 => vs.length ≤ 1000 ∧ ∀ a, H1 a = none → sp (.ref a :: (vs ++ dvs)) (upd H1 a (exo a C none)) (fun v H2 => v = .non ∧ Q (.ref a) H2) (fun _ _ _ => False)
theorem pe_mkv (T : XC X.K C fI) (F1 : FnOk X.prog X.w X.K X.mg X.base CX k fI fd ps sp) (hr : Room (k + 1) X.A) (hb : Binds X.K fd ps ds) (hd : Vals dvs ds) (hx : Passes CX X (fun _ _ _ => False)) (hg : Gl X x) (hm : X.mg x = some (.ref C)) (ha : PA X (e :: es) t)
    (hdb : (x == ("__debug__" : Str)) = false := by decide) (he : starEach (e :: es) X.env = (false, eval e X.env) :: starEach es X.env := by rfl) (hpl : (backTo pos (starEach es X.env)).any (·.1) = false := by rfl) :
    PE X (.Call (.Name x p) (e :: es) [] pos) (tMkV C sp dvs t) := by
  refine ⟨fun pins s σ H Q I h => ?_⟩
  refine wpAny_Call_Name_kw (ld_glob I hg hm ?_ hdb)
  refine PySem.W.callWith_K (h₀ := X.base) I.ok.mod.kin T.kC (thn (ha.run pos pins s σ H _ I h) fun us s1 ⟨vs, H1, I1, r1, hz, q1⟩ => ⟨I1.kIn, ?_⟩) he hpl
  have q0 := q1 _ (I1.hok.fresh (Nat.le_refl _))
  have l0 := F1.len _ _ _ _ q0
  have l1 := (r1.append hd).length
  rw [List.length_cons] at l0
  exact run_mkv (us := us) (kz := []) T F1 hr hx I1 (r1.append hd) (by rw [← r1.length]; exact hz) (fun s' self X1 => hb s' (self :: us) X1 (by rw [List.cons_append, List.length_cons, ← l1]; exact l0)) q1
theorem pe_mkv0 (T : XC X.K C fI) (F1 : FnOk X.prog X.w X.K X.mg X.base CX k fI fd ps sp) (hr : Room (k + 1) X.A) (hb : Binds X.K fd ps ds) (hd : Vals dvs ds) (hx : Passes CX X (fun _ _ _ => False)) (hg : Gl X x) (hm : X.mg x = some (.ref C))
    (hdb : (x == ("__debug__" : Str)) = false := by decide) : PE X (.Call (.Name x p) [] [] pos) (tMkV C sp dvs tNil) := by
  refine ⟨fun pins s σ H Q I h => ?_⟩
  obtain ⟨_, q1⟩ := h
  refine wpAny_Call_Name_kw (ld_glob I hg hm ?_ hdb)
  refine PySem.W.callWith_K0 I.kIn T.kC ?_
  have q0 := q1 _ (I.hok.fresh (Nat.le_refl _))
  have l0 := F1.len _ _ _ _ q0
  rw [List.length_cons] at l0
  exact run_mkv (us := []) (kz := []) T F1 hr hx I hd (Nat.zero_le _) (fun s' self X1 => hb s' [self] X1 (by rw [List.singleton_append, List.length_cons, ← hd.length]; exact l0)) q1
/-- C(k = e, ..) as a value -/
def tMkVK (C : Addr) (n : Nat) (sp : Sp) (t : TA) : TE := fun σ H Q => t σ H fun zs H1 => zs.length = n ∧ ∀ a, H1 a = none → sp (.ref a :: zs) (upd H1 a (exo a C none)) (fun v H2 => v = .non ∧ Q (.ref a) H2) (fun _ _ _ => False)
theorem pe_mkvK (T : XC X.K C fI) (F1 : FnOk X.prog X.w X.K X.mg X.base CX k fI fd ps sp) (hr : Room (k + 1) X.A) (hb : ∀ (s : Shared) (self : Value) (ws : List Value), X.K.In s.heap → ws.length = ks.length → BindsTo s fd ⟨[self], ks.zip ws⟩ (ps.zip (self :: ws))) (hx : Passes CX X (fun _ _ _ => False))
    (hg : Gl X x) (hm : X.mg x = some (.ref C)) (hkw : PK X kws tk) (hall : (backToKw pos (keywordEach kws X.env)).all (·.1.isSome) = true := by rfl) (hks : (backToKw pos (keywordEach kws X.env)).filterMap (·.1) = ks := by rfl) (hdb : (x == ("__debug__" : Str)) = false := by decide)
    (hpl : ((backTo pos (starEach [] X.env)).any (·.1) || (backToKw pos (keywordEach kws X.env)).any (·.1.isNone)) = false := by rfl) : PE X (.Call (.Name x p) [] kws pos) (tMkVK C ks.length sp tk) := by
  refine ⟨fun pins s σ H Q I h => ?_⟩
  refine wpAny_Call_Name_kw (ld_glob I hg hm ?_ hdb)
  refine PySem.W.callWith_KW0 (h₀ := X.base) I.ok.mod.kin T.kC hall ?_ hpl
  refine thn (hkw.run pos pins s σ H _ I h) fun ws s2 ⟨zs, H2, I2, rz, l2, q2⟩ => ⟨I2.kIn, ?_⟩
  rw [hks]
  exact run_mkv (us := []) T F1 hr hx I2 rz (Nat.zero_le _) (fun s' self X1 => hb s' self ws X1 (by rw [← rz.length]; exact l2)) q2

theorem inst_v {H : Hp} {h : Heap} {P : Program} {w : World} {a d : Addr} {fs : List (Str × V)} (hok : HOk P w H h) (ea : H a = some (exo a C (some d))) (ed : H d = some (exd d fs)) :
    ∃ (ox od : Obj) (mA : Str → Option Value), PySem.W.InstAt h a ox C (some od) ∧ h.get? d = some od ∧ h.Ns1 d mA ∧ ∀ g, RelO (fs.lookup g) (mA g) := by
  obtain ⟨t1, ho⟩ := exo_at hok ea
  obtain ⟨mA, hns, rel⟩ := exd_at hok ed
  obtain ⟨od, es', ep, h1, h2, h3⟩ := id hns
  exact ⟨_, od, mA, ⟨ho, rfl, rfl, h1⟩, h1, hns, rel⟩
/-- e.f, e an error's value -/
def tFv (K : PySem.W.Frag) (f : Str) (te : TE) : TE := fun σ H Q => te σ H fun x H1 => ∃ (a C fI d : Addr) (fs : List (Str × V)) (v : V), x = .ref a ∧ XC K C fI ∧ PySem.W.findIn K (.ref C) f = some none ∧ H1 a = some (exo a C (some d)) ∧ H1 d = some (exd d fs) ∧ fs.lookup f = some v ∧ Q v H1
theorem pe_fv (he : PE X e te) (hb : attributeBase e f X.env (eval e X.env) = eval e X.env := by rfl) : PE X (.Attribute e f pos) (tFv X.K f te) := by
  refine ⟨fun pins s σ H Q I h => ?_⟩
  refine attr_of hb (thn (he.run pins s σ H _ I h) fun u s1 hh => ?_)
  obtain ⟨x, H1, I1, rx, a, C, fI, d, fs, v, ex, T, hno, ea, ed, l, q⟩ := hh
  subst ex
  obtain rfl : u = Value.ref a := rx
  obtain ⟨ox, od, mA, J, hod, hns, rel⟩ := inst_v I1.hok ea ed
  obtain ⟨od', ho', hl'⟩ := lookIn_ns hns
  rw [hod] at ho'
  cases ho'
  obtain ⟨u, hu, ru⟩ := RelO.some_of (v := v) (o := mA f) (by rw [← l]; exact rel f)
  exact PySem.HandSPX.exc_get I1.kIn J T.ga T.gg T.su (PySem.W.findObj_own T.hd hno rfl (by rw [hl', hu])) (handed_of ru) ⟨v, H1, I1.tok _, ru, q⟩
theorem kit_v {K : PySem.W.Frag} {a : Addr} {od : Option Obj} {ox : Obj} (T : XC K C fI) : PySem.W.KitX K (.ref a) (.ref C) (fun h => PySem.W.InstAt h a ox C od) := by
  refine PySem.W.kitx_exc ?_ T.ga T.gg T.su T.ha T.hn T.ht T.hm
  obtain ⟨B, newId, initId, bmB, nm, q, N, bs, bm, sn, sub, ab, col, dd, k0, k1, k2, k3, k5, FB, ok, _, _, hC⟩ := T.cls
  unfold PySem.W.clsIn
  rw [hC]
  rfl
/-- isinstance(e, c), e an error's value -/
def rIsV (K : PySem.W.Frag) : List V → Hp → VK → Prop := fun xs H Q => ∃ (a C fI d : Addr) (fs : List (Str × V)) (c : V) (u : Value) (b : Bool), xs = [.ref a, c] ∧ ClsV c u ∧ XC K C fI ∧ H a = some (exo a C (some d)) ∧ H d = some (exd d fs) ∧ PySem.W.kitOne K (.ref C) u = some b ∧ Q (.bl b) H
theorem call_isv : CallR X (.builtin "isinstance") (rIsV X.K) := by
  intro pins s σ H xs us Q I r h
  obtain ⟨a, C, fI, d, fs, c, u, b, rfl, kc, T, ea, ed, e, q⟩ := h
  obtain ⟨u1, u2, rfl, r1, r2⟩ := vals2 r
  have e2 := kc.eq r2
  subst e2
  obtain rfl : u1 = Value.ref a := r1
  obtain ⟨ox, od, mA, J, hod, hns, rel⟩ := inst_v I.hok ea ed
  exact PySem.W.kia_one (kit_v T) I.kIn J e (fun z => nomatch z) fun tk => ⟨.bl b, H, I.tok tk, rfl, q⟩
/-- isinstance(e, (c, ..)), e the error that the suite holds -/
def rIsS (K : PySem.W.Frag) (a : Addr) (cls : Value) (d : Option Addr) : List V → Hp → VK → Prop := fun xs H Q => ∃ (C fI tp dd : Addr) (fs : List (Str × V)) (cs : List V) (us : List Value) (b : Bool), xs = [.ref a, .ref tp] ∧ cls = .ref C ∧ d = some dd ∧ XC K C fI ∧ H dd = some (.xd fs) ∧
  H tp = some (.tup cs) ∧ Paired ClsV cs us ∧ PySem.W.kitAny K (.ref C) us = some b ∧ Q (.bl b) H
theorem call_isS {a : Addr} {oe : Obj} {cls : Value} {d : Option Addr} {pn : List (Addr × Obj)} (hz : Zc cls d oe) (hf : ∃ vs, oe.data = .fields vs) : CallR (X.suite a ((a, oe) :: pn)) (.builtin "isinstance") (rIsS X.K a cls d) := by
  intro pins s σ H xs us Q I r h
  obtain ⟨C, fI, tp, dd, fs, cs, ws, b, rfl, rfl, rfl, T, ed, hT, kc, e, q⟩ := h
  obtain ⟨u1, u2, rfl, r1, r2⟩ := vals2 r
  obtain rfl : u1 = Value.ref a := r1
  cases (show u2 = Value.ref tp from r2)
  obtain ⟨hget, _⟩ := I.pin (a, oe) (List.mem_append_left _ List.mem_cons_self)
  obtain ⟨vs, hv⟩ := hf
  obtain ⟨mA, hns, rel⟩ := (show ObjOk X.prog X.w H s.heap dd (.xd fs) from I.hok dd _ ed)
  obtain ⟨od, ho, hl⟩ := lookIn_ns hns
  have J : PySem.W.InstAt s.heap a oe C (some od) := ⟨hget, hz.1, by unfold PySem.W.notCls; rw [hv] <;> rfl, by rw [hz.2]; exact ho⟩
  obtain ⟨_, its, rv, o, h1, h2, n, h3⟩ := (show ObjOk X.prog X.w H s.heap tp (.tup cs) from I.hok tp _ hT)
  have e3 := ClsV.all kc rv
  subst e3
  obtain ⟨oc, od', dt, sl⟩ := o
  simp only at h2 h3
  subst h2 h3
  exact PySem.W.kia_tup (kit_v T) I.kIn J h1 e (fun z => nomatch z) fun tk => ⟨.bl b, H, I.tok tk, rfl, q⟩
theorem xost {pins : List (Addr × Obj)} {σ : L2.St} {H : Hp} {s : Shared} {a : Addr} {y : V} {u : Value} {Q : Unit → Shared → Prop} {E : Value → Shared → Prop} {A : Around} (T : XC X.K C fI) (I : Inv X pins σ H s) (ea : H a = some (exo a C none))
    (hno : PySem.W.findIn X.K (.ref C) f = some none) (ry : RelV y u)
    (h : ∀ dx s', H dx = none → dx ≠ a → Inv X pins σ (upd (upd H dx (exd dx [(f, y)])) a (exo a C (some dx))) s' → Q () s') : wpAny (model X.prog X.w) A (setAttr (.ref a) f u) Q E s := by
  obtain ⟨B, newId, initId, bmB, nm, q, N, bs, bm, sn, sub, ab, col, dd, k0, k1, k2, k3, k5, FB, ok, hps, hob, hC⟩ := T.cls
  have hcl : PySem.W.clsIn X.K C = some { name := nm, bases := bs, mro := .ref C :: bm, ns := N, qualname := q, hasDict := true, slotNames := sn, subclasses := sub, abstract := ab, collection := col, hasDel := false } := by
    unfold PySem.W.clsIn
    rw [hC]
  obtain ⟨t1, ho⟩ := exo_at I.hok ea
  obtain ⟨hp, g, d, t, os⟩ := s
  refine PySem.W.set_plain I.kIn (ox := { cls := .ref C, dict := none, data := .fields #[.ref t1, .none, .none, .none, .bool false, .none] }) (od := none) ⟨ho, rfl, rfl, trivial⟩ T.sa ?_
  refine xosa I.kIn ho hcl rfl (by rw [List.contains_cons, hob, Bool.or_true]) (by rw [refuseLoop_ref]; exact hps _) rfl hno (fun h' tk' dx kp dn dne hx hn => ?_)
  have zd : H dx = none := I.hok.fresh dn
  have nd : ∀ {b : Addr} {o : Obj}, hp.get? b = some o → b ≠ dx := fun {b o} w => Nat.ne_of_lt (Nat.lt_of_lt_of_le (Heap.lt_size w) dn)
  have na : ∀ {b : Addr}, H b = none → b ≠ a := fun {b} n z => by
    rw [z, ea] at n
    cases n
  have U : Un X.fs [] H (upd (upd H dx (exd dx [(f, y)])) a (exo a C (some dx))) hp h' := by
    refine ⟨fun b o w n _ _ => kp b o (na n) w, fun b o w n _ _ => ⟨o.slots, kp b o (na n) w⟩, fun b o w n _ => ?_, fun b o w _ => ?_, fun b xs w => ?_, fun b o v w => ?_, fun b ps w => ⟨#[], ?_⟩⟩
    · rw [upd_ne (na n), upd_ne (nd w)]
      exact n
    · by_cases hb : b = a
      · rw [hb]
        exact ⟨_, hx⟩
      · exact ⟨o, kp b o hb w⟩
    · rw [upd_ne (at_ne ea w exo_tup), upd_ne (ne_of_none w zd)]
      exact w
    · rw [upd_ne (at_ne ea w exo_frz), upd_ne (ne_of_none w zd)]
      exact w
    · rw [upd_ne (at_ne ea w exo_tbl), upd_ne (ne_of_none w zd), w]
      simp
  refine h dx _ zd dne (I.un (t' := tk') U fun b o w => ?_)
  by_cases hb : b = a
  · rw [hb, upd_same] at w
    cases w
    rw [hb]
    exact exo_ok hx
  rw [upd_ne hb] at w
  by_cases hd : b = dx
  · rw [hd, upd_same] at w
    cases w
    rw [hd]
    exact exd_ok hn (relO_put (fs := []) ry fun g => True.intro)
  rw [upd_ne hd] at w
  refine (I.hok b o w).stay (fun c v hc z => kp c v ?_ z) (fun c hc => ?_) (fun c xs hc => ?_)
  · rcases hc with hc | hc
    · rw [hc]
      exact hb
    · exact at_ne ea hc exo_own
  · rw [upd_ne (at_ne ea hc exo_own), upd_ne (ne_of_none hc zd)]
    exact hc
  · rw [upd_ne (at_ne ea hc exo_tup), upd_ne (ne_of_none hc zd)]
    exact hc
/-- self.f = e, self an error that has no field yet -/
def tOsv (K : PySem.W.Frag) (f : Str) (to te : TE) : TS := fun D σ H => te σ H fun y H1 => to σ H1 fun x H2 => ∃ a C fI : Addr, x = .ref a ∧ XC K C fI ∧ PySem.W.findIn K (.ref C) f = some none ∧ H2 a = some (exo a C none) ∧
  ∀ dx, H2 dx = none → dx ≠ a → D.nx σ (upd (upd H2 dx (exd dx [(f, y)])) a (exo a C (some dx)))
theorem ps_osv (ho : PE X o to) (he : PE X e te) (hs : swapsWith e (some (.Attribute o f p')) pos.line X.env = pure false := by rfl) : PS X (.Assign [.Attribute o f p'] e pos) (tOsv X.K f to te) := by
  refine ⟨fun pins s σ H D I h => ?_⟩
  refine plainObj_wpAny_Assign_Attribute (thn (he.run pins s σ H _ I h) fun v s1 ⟨y, H1, I1, r1, q1⟩ => thn (ho.run pins s1 σ H1 _ I1 q1) fun u s2 ⟨x, H2, I2, r2, a, C, fI, ex, T, hno, ea, q⟩ => ?_) hs
  subst ex
  obtain rfl : u = Value.ref a := r2
  exact xost T I2 ea hno r1 fun dx s' n ne J => ⟨σ, _, J, q dx n ne⟩
end
end Fk

set_option maxHeartbeats 4000000
/-! What is known of an error's class by its entry in the written part. -/
namespace Fk
open PySem PySem.Spec L2
def VE : List Value := [.type "ValueError", .type "Exception", .type "BaseException", .type "object"]
def KE : List Value := [.type "KeyError", .type "LookupError", .type "Exception", .type "BaseException", .type "object"]
structure CF (K : PySem.W.Frag) (nm : Str) (newId : String) (bm : List Value) (C : Addr) : Prop where
  x : ∃ (q : Str) (N : Addr) (bs : List Value) (sn : List Str) (sub : List Value) (ab : Bool) (col : Option Bool) (dd : Option Addr) (k0 k1 k2 k3 k5 : Option Value), K.lookup C = some (excClassObj nm q C N bs bm true sn sub ab col dd k0 k1 k2 k3 k5 newId)
section
variable {K : PySem.W.Frag} {nm nm' : Str} {newId newId' : String} {bm bm' : List Value} {C C' : Addr}
theorem CF.sub (c : CF K nm newId bm C) (u : Value) : PySem.W.subIn K (.ref C) u = some ((Value.ref C :: bm).contains u) := by
  obtain ⟨q, N, bs, sn, sub, ab, col, dd, k0, k1, k2, k3, k5, e⟩ := c.x
  show PySem.W.mroIn K C u = _
  unfold PySem.W.mroIn PySem.W.clsIn
  rw [e]
  rfl
theorem CF.mro (c : CF K nm newId bm C) (u : Value) : PySem.W.mroIn K C u = some ((Value.ref C :: bm).contains u) := c.sub u
theorem CF.typ (c : CF K nm newId bm C) : PySem.W.typeIn K (.ref C) = some (.type "type") := by
  obtain ⟨q, N, bs, sn, sub, ab, col, dd, k0, k1, k2, k3, k5, e⟩ := c.x
  show (K.lookup C).map (·.cls) = _
  rw [e]
  rfl
theorem CF.hd (c : CF K nm newId bm C) : PySem.W.hasDictIn K C = true := by
  obtain ⟨q, N, bs, sn, sub, ab, col, dd, k0, k1, k2, k3, k5, e⟩ := c.x
  unfold PySem.W.hasDictIn PySem.W.clsIn
  rw [e]
  rfl
theorem CF.isc (c : CF K nm newId bm C) : (PySem.W.clsIn K C).isSome = true := by
  obtain ⟨q, N, bs, sn, sub, ab, col, dd, k0, k1, k2, k3, k5, e⟩ := c.x
  unfold PySem.W.clsIn
  rw [e]
  rfl
theorem CF.kit (c : CF K nm newId bm C) (c' : CF K nm' newId' bm' C') : PySem.W.kitOne K (.ref C) (.ref C') = some ((Value.ref C :: bm).contains (.ref C')) := by
  unfold PySem.W.kitOne
  by_cases h : C = C'
  · subst h
    have e : (Value.ref C == .ref C) = true := beq_self_eq_true _
    rw [if_pos e, List.contains_cons, e, Bool.true_or]
  · have e : ¬ (Value.ref C == .ref C') = true := fun z => by
      have := eq_of_beq z
      cases this
      exact h rfl
    have t : ((PySem.W.clsIn K C').isSome && PySem.W.typeIn K (.ref C') == some (.type "type")) = true := by
      rw [c'.isc, c'.typ] <;> rfl
    rw [if_neg e]
    show (if ((PySem.W.clsIn K C').isSome && PySem.W.typeIn K (.ref C') == some (.type "type")) = true then PySem.W.subIn K (.ref C) (.ref C') else none) = _
    rw [if_pos t]
    exact c.sub _
theorem CF.kitT (c : CF K nm newId bm C) {n : String} (h : PySem.W.kitMeta n = true) : PySem.W.kitOne K (.ref C) (.type n) = some ((Value.ref C :: bm).contains (.type n)) := by
  unfold PySem.W.kitOne
  have e : ¬ (Value.ref C == .type n) = true := fun z => by
    have := eq_of_beq z
    cases this
  rw [if_neg e]
  show (if PySem.W.kitMeta n = true then PySem.W.subIn K (.ref C) (.type n) else none) = _
  rw [if_pos h]
  exact c.sub _
theorem CF.name (c : CF K nm newId bm C) (c' : CF K nm' newId' bm' C) : nm = nm' := by
  obtain ⟨q, N, bs, sn, sub, ab, col, dd, k0, k1, k2, k3, k5, e⟩ := c.x
  obtain ⟨q', N', bs', sn', sub', ab', col', dd', k0', k1', k2', k3', k5', e'⟩ := c'.x
  rw [e] at e'
  have z := Option.some.inj e'
  injection z with z1 z2 z3 z4
  injection z3 with z5
  injection z5
theorem CF.oex (c : CF K nm "ValueError.__new__" bm C) (h : PySem.HandSPX.refsVE bm = true) (sa : PySem.W.findIn K (.ref C) "__setattr__" = some (some (.builtin "object.__setattr__"))) (kC : PySem.W.keepIn K (.ref C) = true) (hb : bm.contains (.type "BaseException") = true) : OexC K C := by
  obtain ⟨q, N, bs, sn, sub, ab, col, dd, k0, k1, k2, k3, k5, e⟩ := id c.x
  refine { cls := ⟨nm, q, N, bs, bm, sn, sub, ab, col, dd, k0, k1, k2, k3, k5, e, h⟩, sa := sa, exC := ?_, tyC := c.typ, kC := kC }
  rw [c.sub, List.contains_cons, hb, Bool.or_true]
theorem CF.exm (c : CF K nm newId bm C) (c' : CF K nm' newId' bm' C') (hb : bm'.contains (.type "BaseException") = true) {b : Bool} (e : (Value.ref C :: bm).contains (.ref C') = b) : PySem.W.exmOne K (.ref C) (.ref C') = some b := by
  refine PySem.W.exm_ref ?_ c'.hd c'.typ ((c.sub _).trans (congrArg some e))
  rw [c'.sub, List.contains_cons, hb, Bool.or_true]
theorem CF.xc (c : CF K nm newId bm C) {B initId : String} {bmB : List Value} {fI : Addr} (FB : ExcBaseFacts B newId initId bmB) (ok : BmOk B bm) (ps : ∀ self, refuseLoop self "__setattr__" bm = pure ()) (ob : bm.contains (.type "object") = true) (hb : bm.contains (.type "BaseException") = true)
    (sa : PySem.W.findIn K (.ref C) "__setattr__" = some (some (.builtin "object.__setattr__"))) (kC : PySem.W.keepIn K (.ref C) = true) (iC : PySem.W.findIn K (.ref C) "__init__" = some (some (.ref fI))) (tI : PySem.W.typeIn K (.ref fI) = some (.type "function"))
    (ga : PySem.W.findIn K (.ref C) "__getattribute__" = some (some (.builtin "BaseException.__getattribute__"))) (gg : PySem.W.findIn K (.ref C) "__getattr__" = some none) (ha : PySem.W.findIn K (.ref C) "__class__" = some (some (.builtin "object.__class__")))
    (hn : PySem.W.specialIn K (.builtin "object.__class__") "__get__" = some (some (.builtin "getset_descriptor.__get__"))) (ht : PySem.W.takesIn K (.builtin "object.__class__") = some true) : XC K C fI := by
  obtain ⟨q, N, bs, sn, sub, ab, col, dd, k0, k1, k2, k3, k5, e⟩ := id c.x
  refine { cls := ⟨B, newId, initId, bmB, nm, q, N, bs, bm, sn, sub, ab, col, dd, k0, k1, k2, k3, k5, FB, ok, ps, ob, e⟩, sa := sa, kC := kC, iC := iC, tI := tI, ga := ga, gg := gg, su := ?_, hd := c.hd, ha := ha, hn := hn, ht := ht, hm := ?_ }
  · rw [c.sub, List.contains_cons, hb, Bool.or_true]
  · rw [c.mro, List.contains_cons, ob, Bool.or_true]
end
theorem ve_ok : BmOk "ValueError" VE := ⟨by decide +kernel, by decide +kernel, by decide +kernel⟩
theorem ke_ok : BmOk "LookupError" KE := ⟨by decide +kernel, by decide +kernel, by decide +kernel⟩
theorem rve_ok (c : Addr) : BmOk "ValueError" (.ref c :: VE) := ⟨ve_ok.b', ve_ok.a', ve_ok.n'⟩
theorem ve_pass (self : Value) : refuseLoop self "__setattr__" VE = pure () := PySem.F.store_ValueError.passes self
theorem rve_pass (c : Addr) (self : Value) : refuseLoop self "__setattr__" (.ref c :: VE) = pure () := by
  rw [refuseLoop_ref]
  exact ve_pass self
theorem ke_pass (self : Value) : refuseLoop self "__setattr__" KE = pure () := by
  kernel_rfl
end Fk

set_option maxHeartbeats 4000000
namespace Fk
open PySem PySem.Spec PyProof.Rows L2
def top (i : Nat) : Stmt := PySem.Challenge.pw_forkhaul_k02_errors_and_their_kinds.main.body.getD i (.Pass ⟨0, 0, 0, 0⟩)
abbrev s_ForkError_init : Stmt := inClass (top 1) 0
theorem sc_ForkError_init : FnScope ["self", "why"] ["self", "why"] (C8.fnScope s_ForkError_init) := C8.fnScope_by (by decide +kernel)

abbrev s_BadObject_init : Stmt := inClass (top 11) 0
theorem sc_BadObject_init : FnScope ["self", "at"] ["self", "at"] (C8.fnScope s_BadObject_init) := C8.fnScope_by (by decide +kernel)

abbrev s_BadPack_init : Stmt := inClass (top 12) 0
theorem sc_BadPack_init : FnScope ["self", "at"] ["self", "at"] (C8.fnScope s_BadPack_init) := C8.fnScope_by (by decide +kernel)

abbrev s_BadExpression_init : Stmt := inClass (top 13) 0
theorem sc_BadExpression_init : FnScope ["self", "at"] ["self", "at"] (C8.fnScope s_BadExpression_init) := C8.fnScope_by (by decide +kernel)

abbrev s_Clash_init : Stmt := inClass (top 14) 0
theorem sc_Clash_init : FnScope ["self", "name"] ["self", "name"] (C8.fnScope s_Clash_init) := C8.fnScope_by (by decide +kernel)

abbrev s_Conflict_init : Stmt := inClass (top 15) 0
theorem sc_Conflict_init : FnScope ["self", "paths"] ["self", "paths"] (C8.fnScope s_Conflict_init) := C8.fnScope_by (by decide +kernel)

abbrev s_Locked_init : Stmt := inClass (top 16) 0
theorem sc_Locked_init : FnScope ["self", "ref"] ["self", "ref"] (C8.fnScope s_Locked_init) := C8.fnScope_by (by decide +kernel)

abbrev s_Stale_init : Stmt := inClass (top 17) 0
theorem sc_Stale_init : FnScope ["self", "ref"] ["self", "ref"] (C8.fnScope s_Stale_init) := C8.fnScope_by (by decide +kernel)

abbrev s_NoObject_init : Stmt := inClass (top 18) 0
theorem sc_NoObject_init : FnScope ["self", "name"] ["self", "name"] (C8.fnScope s_NoObject_init) := C8.fnScope_by (by decide +kernel)

abbrev s_NoRef_init : Stmt := inClass (top 19) 0
theorem sc_NoRef_init : FnScope ["self", "name"] ["self", "name"] (C8.fnScope s_NoRef_init) := C8.fnScope_by (by decide +kernel)

abbrev s_l_cell_at : Stmt := top 21
theorem sc_l_cell_at : FnScope ["_law_script", "_law_k"] ["_law_script", "_law_k"] (C8.fnScope s_l_cell_at) := C8.fnScope_by (by decide +kernel)

abbrev s_l_well : Stmt := top 22
theorem sc_l_well : FnScope ["_law_cell"] ["_law_cell"] (C8.fnScope s_l_well) := C8.fnScope_by (by decide +kernel)

abbrev s_l_draw : Stmt := top 23
theorem sc_l_draw : FnScope ["_law_well_here", "_law_size", "_law_found", "_law_seed", "_law_mixed"] ["_law_well_here", "_law_size"] (C8.fnScope s_l_draw) := C8.fnScope_by (by decide +kernel)

abbrev s_l_pick : Stmt := top 24
theorem sc_l_pick : FnScope ["_law_well_here", "_law_some"] ["_law_well_here", "_law_some"] (C8.fnScope s_l_pick) := C8.fnScope_by (by decide +kernel)

abbrev s_l_signs : Stmt := top 25
theorem sc_l_signs : FnScope ["_law_well_here", "_law_signs_here", "_law_least", "_law_most", "_law_k"] ["_law_well_here", "_law_signs_here", "_law_least", "_law_most"] (C8.fnScope s_l_signs) := C8.fnScope_by (by decide +kernel)

abbrev s_l_all_signs : Stmt := top 26
theorem sc_l_all_signs : FnScope ["_law_found"] [] (C8.fnScope s_l_all_signs) := C8.fnScope_by (by decide +kernel)

abbrev s_l_segment : Stmt := top 27
theorem sc_l_segment : FnScope ["_law_well_here", "_law_letters", "_law_text_here", "_law_spot"] ["_law_well_here"] (C8.fnScope s_l_segment) := C8.fnScope_by (by decide +kernel)

abbrev s_l_path : Stmt := top 28
theorem sc_l_path : FnScope ["_law_well_here", "_law_k"] ["_law_well_here"] (C8.fnScope s_l_path) := C8.fnScope_by (by decide +kernel)

abbrev s_l_text : Stmt := top 29
theorem sc_l_text : FnScope ["_law_well_here", "_law_size", "_law_text_here"] ["_law_well_here"] (C8.fnScope s_l_text) := C8.fnScope_by (by decide +kernel)

abbrev s_l_id : Stmt := top 30
theorem sc_l_id : FnScope ["_law_well_here"] ["_law_well_here"] (C8.fnScope s_l_id) := C8.fnScope_by (by decide +kernel)

abbrev s_l_marks : Stmt := top 31
theorem sc_l_marks : FnScope ["_law_e", "_law_found"] ["_law_e"] (C8.fnScope s_l_marks) := C8.fnScope_by (by decide +kernel)

abbrev s_l_bases : Stmt := top 32
theorem sc_l_bases : FnScope ["_law_e", "_law_found"] ["_law_e"] (C8.fnScope s_l_bases) := C8.fnScope_by (by decide +kernel)

abbrev s_l_plain : Stmt := top 33
theorem sc_l_plain : FnScope ["_law_way", "_law_thing"] ["_law_way", "_law_thing"] (C8.fnScope s_l_plain) := C8.fnScope_by (by decide +kernel)

abbrev s_l_fielded : Stmt := top 34
theorem sc_l_fielded : FnScope ["_law_way", "_law_thing"] ["_law_way", "_law_thing"] (C8.fnScope s_l_fielded) := C8.fnScope_by (by decide +kernel)

abbrev s_l_field : Stmt := top 35
theorem sc_l_field : FnScope ["_law_e", "_law_way"] ["_law_e", "_law_way"] (C8.fnScope s_l_field) := C8.fnScope_by (by decide +kernel)

abbrev s_l_catches : Stmt := top 36
theorem sc_l_catches : FnScope ["_law_e", "caught"] ["_law_e"] (C8.fnScope s_l_catches) := C8.fnScope_by (by decide +kernel)

abbrev s_law : Stmt := top 37
theorem sc_law : FnScope ["_law_script", "_law_cell", "_law_well_here", "_law_way", "_law_some", "_law_thing", "_law_error", "_law_k", "_law_found", "_law_wanted", "_law_base"] ["_law_script"] (C8.fnScope s_law) := C8.fnScope_by (by decide +kernel)

structure Top (K : PySem.W.Frag) (mg : Str → Option Value) : Prop where
  d_l_cell_at : IsDef K mg "_law_cell_at" s_l_cell_at
  d_l_well : IsDef K mg "_law_well" s_l_well
  d_l_draw : IsDef K mg "_law_draw" s_l_draw
  d_l_pick : IsDef K mg "_law_pick" s_l_pick
  d_l_signs : IsDef K mg "_law_signs" s_l_signs
  d_l_all_signs : IsDef K mg "_law_all_signs" s_l_all_signs
  d_l_text : IsDef K mg "_law_text" s_l_text
  d_l_id : IsDef K mg "_law_id" s_l_id
  d_l_marks : IsDef K mg "_law_marks" s_l_marks
  d_l_bases : IsDef K mg "_law_bases" s_l_bases
  d_l_plain : IsDef K mg "_law_plain" s_l_plain
  d_l_fielded : IsDef K mg "_law_fielded" s_l_fielded
  d_l_field : IsDef K mg "_law_field" s_l_field
  d_l_catches : IsDef K mg "_law_catches" s_l_catches
  d_law : IsDef K mg "law" s_law
  z_IndexError : mg "IndexError" = none
  z_KeyError : mg "KeyError" = none
  z_RuntimeError : mg "RuntimeError" = none
  z_TypeError : mg "TypeError" = none
  z_ValueError : mg "ValueError" = none
  z_int : mg "int" = none
  z_isinstance : mg "isinstance" = none
  z_len : mg "len" = none
  z_min : mg "min" = none
  z_range : mg "range" = none
  z_str : mg "str" = none
section
variable {P : Program} {w : World} {K : PySem.W.Frag} {mg : Str → Option Value} {base : Heap}
/-! ### the wells -/
def spCellAt (K : PySem.W.Frag) : Sp := fun vs H Q _ => ∃ (a : Addr) (ns : List Int) (k : Nat), vs = [.ref a, .int k] ∧ SqL K H a (ns.map V.int) ∧ ∀ v : Int, Q (.int v) H
theorem c_l_cell_at (T : Top K mg) : C8.Cal P w K mg base 1 "_law_cell_at" (spCellAt K) [] := by
  refine cal_of T.d_l_cell_at sc_l_cell_at (fun _ _ _ _ _ _ us hl => match us, hl with | [_, _], _ => rfl) (fun vs H Q E h => ?_) (fun f cdv A outer s H vs Q E hr h => ?_)
  · obtain ⟨a, ns, k, rfl, _⟩ := h
    rfl
  · obtain ⟨a, ns, k, rfl, hS, q⟩ := h
    refine ⟨_, (pss_cons (ps_if (pt_cmpR op_lt (pv 1) (pe_callB call_len_seq (by rfl) T.z_len (by decide +kernel) (pa_cons (pv 0) pa_nil)) (nomark _))
      (pss_one (ps_ret (pe_ix ix_list (pv 0) (pv 1) (fun _ _ => rfl))))
      pss_nil)
      (pss_one (ps_ret pe_int))), ?_⟩
    refine ⟨.int k, rfl, .ref a, rfl, a, _, rfl, .inl hS, _, _, rfl, rfl, _, rfl, ite2 (fun h1 => ?_) (fun h1 => ?_)⟩
    · have h1 := of_decide_eq_true h1
      rw [List.length_map] at h1
      have h2 : k < ns.length := by omega
      exact ⟨.ref a, rfl, .int k, rfl, a, _, k, .int ns[k], rfl, rfl, hS, atI_nat (by rw [List.getElem?_map, List.getElem?_eq_getElem h2]; rfl), q _⟩
    · exact q _
def spWell : Sp := fun vs H Q _ => ∃ (x : Int), vs = [.int x] ∧ ∀ H' a, H a = none → Same H H' → Wl H' a 0 → Q (.ref a) H'
theorem c_l_well (T : Top K mg) : C8.Cal P w K mg base 1 "_law_well" spWell [] := by
  refine cal_of T.d_l_well sc_l_well (fun _ _ _ _ _ _ us hl => match us, hl with | [_], _ => rfl) (fun vs H Q E h => ?_) (fun f cdv A outer s H vs Q E hr h => ?_)
  · obtain ⟨x, rfl, _⟩ := h
    rfl
  · obtain ⟨x, rfl, q⟩ := h
    refine ⟨_, (pss_one (ps_ret (pe_lst (pa_cons (pe_op op_mul (pv 0) (pe_callTy call_int1 (by rfl) T.z_int (by decide +kernel) (pa_cons (pe_cmpR op_ge (pv 0) (pe_op op_pow pe_int pe_int) (nomark _)) pa_nil))) (pa_cons (pv 0) (pa_cons pe_int pa_nil)))))), ?_⟩
    refine ⟨.int x, rfl, .int x, rfl, 10, 18, rfl, rfl, ⟨by decide, by decide, by decide⟩, _, _, rfl, rfl, .inr ⟨_, rfl, _, _, rfl, rfl, .inr ?_, .int x, rfl, (by show 3 ≤ sizeLine; decide), fun p hp => ?_⟩⟩
    · split <;> exact ⟨by decide, by decide⟩
    · exact q _ p hp (same_new hp) ⟨Int.le_refl _, _, _, upd_same⟩
/-- the number that is drawn; the well behind it -/
def Drawn (H : Hp) (a : Addr) (n c : Int) (Q : VK) : Prop := ∀ r x y c', 0 ≤ r → r < n → c ≤ c' → c' ≤ c + 1 → Q (.int r) (upd H a (.lst [.int x, .int y, .int c']))
def spDraw : Sp := fun vs H Q _ => ∃ (a : Addr) (n c : Int), vs = [.ref a, .int n] ∧ Wl H a c ∧ 0 < n ∧ n < 1000000 ∧ c < 2 ^ 40 ∧ Drawn H a n c Q
theorem at3 (x y c : Int) : atI [V.int x, .int y, .int c] 0 = some (.int x) ∧ atI [V.int x, .int y, .int c] 1 = some (.int y) ∧ atI [V.int x, .int y, .int c] 2 = some (.int c) := ⟨rfl, rfl, rfl⟩
theorem pow_small {i : Int} (h0 : 0 ≤ i) (h : i < 2 ^ 62) : i.natAbs < 2 ^ 64 := by omega
theorem c_l_draw (T : Top K mg) : C8.Cal P w K mg base 1 "_law_draw" spDraw [] := by
  refine cal_of T.d_l_draw sc_l_draw (fun _ _ _ _ _ _ us hl => match us, hl with | [_, _], _ => rfl) (fun vs H Q E h => ?_) (fun f cdv A outer s H vs Q E hr h => ?_)
  · obtain ⟨a, n, c, rfl, _⟩ := h
    rfl
  · obtain ⟨a, n, c, rfl, ⟨hc0, x, y, hw⟩, hn0, hn1, hc, q⟩ := h
    refine ⟨_, (pss_cons (ps_if (pt_cmpR op_gt (pe_ix ix_list (pv 0) pe_int (fun _ _ => rfl)) pe_int (nomark _))
      (pss_cons (ps_set (i := 2) sc_l_draw.nd rfl (Or.inl rfl) (pe_op op_mod (pe_callTy call_int1 (by rfl) T.z_int (by decide +kernel) (pa_cons (pe_ix ix_list (pv 0) pe_int (fun _ _ => rfl)) pa_nil)) (pv 1)))
      (pss_cons (ps_asg (pe_op op_fdivW (pe_ix ix_list (pv 0) pe_int (fun _ _ => rfl)) (pv 1)) (pg_sub (pv 0) pe_int set_list))
      (pss_one (ps_ret (pv 2)))))
      pss_nil)
      (pss_cons (ps_asg (pe_op op_add (pe_ix ix_list (pv 0) pe_int (fun _ _ => rfl)) pe_int) (pg_sub (pv 0) pe_int set_list))
      (pss_cons (ps_set (i := 3) sc_l_draw.nd rfl (Or.inl rfl) (pe_op op_add (pe_op op_mod (pe_callTy call_int1 (by rfl) T.z_int (by decide +kernel) (pa_cons (pe_ix ix_list (pv 0) pe_int (fun _ _ => rfl)) pa_nil)) pe_int) (pe_op op_mul (pe_op op_mod (pe_callTy call_int1 (by rfl) T.z_int (by decide +kernel) (pa_cons (pe_op op_fdivW (pe_ix ix_list (pv 0) pe_int (fun _ _ => rfl)) pe_int) pa_nil)) pe_int) pe_int)))
      (pss_cons (ps_set (i := 4) sc_l_draw.nd rfl (Or.inl rfl) (pe_op op_mod (pe_callTy call_int1 (by rfl) T.z_int (by decide +kernel) (pa_cons (pe_op op_pow (pe_op op_add (pe_op op_add (pv 3) (pe_op op_mul pe_int (pe_ix ix_list (pv 0) pe_int (fun _ _ => rfl)))) pe_int) pe_int) pa_nil)) pe_int))
      (pss_cons (ps_set (i := 4) sc_l_draw.nd rfl (Or.inl rfl) (pe_op op_mod (pe_callTy call_int1 (by rfl) T.z_int (by decide +kernel) (pa_cons (pe_op op_mul (pv 4) (pe_op op_add (pe_op op_add (pe_op op_fdivW (pv 4) pe_int) pe_int) (pe_ix ix_list (pv 0) pe_int (fun _ _ => rfl)))) pa_nil)) pe_int))
      (pss_one (ps_ret (pe_op op_mod (pe_callTy call_int1 (by rfl) T.z_int (by decide +kernel) (pa_cons (pe_op op_mod (pe_callTy call_int1 (by rfl) T.z_int (by decide +kernel) (pa_cons (pe_op op_mul (pv 4) (pe_op op_add (pe_op op_fdivW (pv 4) pe_int) pe_int)) pa_nil)) pe_int) pa_nil)) (pv 1))))))))), ?_⟩
    refine ⟨.ref a, rfl, a, _, 0, _, rfl, rfl, SqL.of hw, rfl, _, _, rfl, rfl, _, rfl, ite2 (fun h1 => ?_) (fun h1 => ?_)⟩
    · refine ⟨.ref a, rfl, a, _, 0, _, rfl, rfl, SqL.of hw, rfl, .inl ⟨_, rfl, .int n, rfl, _, _, rfl, rfl, hn0, ?_⟩⟩
      refine ⟨.ref a, rfl, a, _, 0, _, rfl, rfl, SqL.of hw, rfl, .int n, rfl, _, _, rfl, rfl, wide_div (b := 20) hn0 (by omega) (by decide) (by decide), .ref a, rfl, a, _, 0, 0, rfl, rfl, hw, rfl, .int (x % n), rfl, ?_⟩
      exact q _ _ _ _ (Int.emod_nonneg _ (by omega)) (Int.emod_lt_of_pos _ hn0) (Int.le_refl _) (by omega)
    · refine ⟨.ref a, rfl, a, _, 2, _, rfl, rfl, SqL.of hw, rfl, _, _, rfl, rfl, .ref a, rfl, a, _, 2, 2, rfl, rfl, hw, rfl, ?_⟩
      have hw2 : (upd H a (.lst [V.int x, .int y, .int (c + 1)])) a = some (.lst [V.int x, .int y, .int (c + 1)]) := upd_same
      have b1 : ∀ z m : Int, 0 < m → 0 ≤ z % m ∧ z % m < m := fun z m h => ⟨Int.emod_nonneg _ (by omega), Int.emod_lt_of_pos _ h⟩
      have y1 := b1 y 2147483549 (by decide)
      have y2 := b1 (y / 2147483549) 80021 (by decide)
      refine ⟨.ref a, rfl, a, _, 1, _, rfl, rfl, SqL.of hw2, rfl, .inl ⟨_, rfl, _, _, rfl, rfl, (by show (0 : Int) < _; decide), .ref a, rfl, a, _, 1, _, rfl, rfl, SqL.of hw2, rfl, _, _, rfl, rfl, wide_div (b := 40) (by decide) (by decide) (by decide) (by decide), .inl ⟨_, rfl, _, _, rfl, rfl, (by show (0 : Int) < _; decide), _, _, rfl, rfl, .inr (by decide), _, _, rfl, rfl, ?_⟩⟩⟩
      refine ⟨_, rfl, .ref a, rfl, a, _, 2, _, rfl, rfl, SqL.of hw2, rfl, _, _, rfl, rfl, .inl (by decide), _, _, rfl, rfl, _, _, rfl, rfl, _, _, rfl, rfl, ⟨by decide, by decide, pow_small (by omega) (by omega)⟩, .inl ⟨_, rfl, _, _, rfl, rfl, (by show (0 : Int) < _; decide), ?_⟩⟩
      generalize ((y % 2147483549 + y / 2147483549 % 80021 * 37 + 5843 * (c + 1) + 17) ^ Int.toNat 5) = big
      have m1 := b1 big 2147483647 (by decide)
      refine ⟨_, rfl, _, rfl, _, _, rfl, rfl, wide_div (b := 40) (by decide) (by decide) (by decide) (by decide), _, _, rfl, rfl, .ref a, rfl, a, _, 2, _, rfl, rfl, SqL.of hw2, rfl, _, _, rfl, rfl, _, _, rfl, rfl, .inl (by omega), .inl ⟨_, rfl, _, _, rfl, rfl, (by show (0 : Int) < _; decide), ?_⟩⟩
      generalize (big % 2147483647 * (big % 2147483647 / 953 + 40993 + (c + 1))) = big2
      have m2 := b1 big2 2147483629 (by decide)
      refine ⟨_, rfl, _, rfl, _, _, rfl, rfl, wide_div (b := 40) (by decide) (by decide) (by decide) (by decide), _, _, rfl, rfl, _, _, rfl, rfl, .inl (by omega), .inl ⟨_, rfl, _, _, rfl, rfl, (by show (0 : Int) < _; decide), .inl ⟨_, rfl, .int n, rfl, _, _, rfl, rfl, hn0, ?_⟩⟩⟩
      exact q _ _ _ _ (Int.emod_nonneg _ (by omega)) (Int.emod_lt_of_pos _ hn0) (by omega) (Int.le_refl _)
def spPick (K : PySem.W.Frag) : Sp := fun vs H Q _ => ∃ (a b : Addr) (xs : List V) (c : Int), vs = [.ref a, .ref b] ∧ Wl H a c ∧ SqL K H b xs ∧ b ≠ a ∧ 0 < xs.length ∧ xs.length < 1000000 ∧ c < 2 ^ 40 ∧ ∀ v ∈ xs, Aft a c 1 H (Q v)
theorem c_l_pick (T : Top K mg) : C8.Cal P w K mg base 2 "_law_pick" (spPick K) [] := by
  refine cal_of T.d_l_pick sc_l_pick (fun _ _ _ _ _ _ us hl => match us, hl with | [_, _], _ => rfl) (fun vs H Q E h => ?_) (fun f cdv A outer s H vs Q E hr h => ?_)
  · obtain ⟨a, b, xs, c, rfl, _⟩ := h
    rfl
  · obtain ⟨a, b, xs, c, rfl, hw, hS, nb, h0, h1, hc, q⟩ := h
    refine ⟨_, (pss_one (ps_ret (pe_ix ix_list (pv 1) (C8.pe_c (c_l_draw T) hr (by decide) (by rfl) (pa_cons (pv 0) (pa_cons (pe_callB call_len_seq (by rfl) T.z_len (by decide +kernel) (pa_cons (pv 1) pa_nil)) pa_nil))) (fun _ _ => rfl)))), ?_⟩
    refine ⟨.ref b, rfl, .ref a, rfl, .ref b, rfl, b, xs, rfl, .inl hS, a, xs.length, c, rfl, hw, by omega, by omega, hc, fun r x y c' hr0 hr1 hc1 hc2 => ?_⟩
    obtain ⟨v, hv, _, e⟩ := atI_int hr0 hr1
    exact ⟨b, xs, r, v, rfl, rfl, sql_fr hS nb Fr.at, e, q v hv _ c' Fr.at (Wl.upd (by have := hw.1; omega)) hc1 hc2⟩
def spSigns : Sp := fun vs H Q _ => ∃ (a : Addr) (s : Str) (l m : Nat) (c : Int), vs = [.ref a, .str s, .int l, .int m] ∧ Wl H a c ∧ 0 < s.length ∧ s.length < 100000 ∧ l ≤ m ∧ m ≤ 1000 ∧ c < 2 ^ 39 ∧
  ∀ x : Str, (∀ u ∈ TL.tl x, u ∈ TL.tl s) → l ≤ x.length → x.length ≤ m → Aft a c (m + 1) H (Q (.str x))
theorem c_l_signs (T : Top K mg) : C8.Cal P w K mg base 2 "_law_signs" spSigns [] := by
  refine cal_of T.d_l_signs sc_l_signs (fun _ _ _ _ _ _ us hl => match us, hl with | [_, _, _, _], _ => rfl) (fun vs H Q E h => ?_) (fun f cdv A outer s H vs Q E hr h => ?_)
  · obtain ⟨a, z, l, m, c, rfl, _⟩ := h
    rfl
  · obtain ⟨a, z, l, m, c, rfl, hw, hz0, hz1, hlm, hm, hc, q⟩ := h
    have hc0 := hw.1
    refine ⟨_, (pss_one (ps_ret (pe_join pe_str (pe_lc (own := [("_law_k", 4)]) (g := gName 4) (by rfl) sc_l_signs.nd (pi_range1 (by rfl) T.z_range (pa_cons (pe_op op_add (pv 2) (C8.pe_c (c_l_draw T) hr (by decide) (by rfl) (pa_cons (pv 0) (pa_cons (pe_op op_add (pe_op op_sub (pv 3) (pv 2)) pe_int) pa_nil)))) pa_nil)) (blkOk_by (own := [("_law_k", 4)]) (N := ["_law_well_here", "_law_signs_here", "_law_least", "_law_most", "_law_k"]) (sc := C8.fnScope s_l_signs) (by decide +kernel)) (fun _ _ _ _ _ => (pg_name (i := 4) sc_l_signs.nd rfl (Or.inl rfl))) (fun _ _ _ _ _ => pts_nil) (fun _ _ _ _ _ => (pe_ix ix_str (pv 1) (C8.pe_c (c_l_draw T) hr (by decide) (by rfl) (pa_cons (pv 0) (pa_cons (pe_callB call_len_str (by rfl) T.z_len (by decide +kernel) (pa_cons (pv 1) pa_nil)) pa_nil))) (fun _ _ => rfl))))))), ?_⟩
    refine ⟨⟨_, rfl⟩, .int l, rfl, .ref a, rfl, .int m, rfl, .int l, rfl, _, _, rfl, rfl, _, _, rfl, rfl, a, _, c, rfl, hw, by omega, by omega, by omega, fun r x y c1 hr0 hr1 hc1 hc2 => ?_⟩
    have hw1 := Wl.upd (H := H) (a := a) (x := x) (y := y) (c := c1) (by omega)
    have f1 : Fr a H (upd H a (.lst [.int x, .int y, .int c1])) := Fr.at
    generalize upd H a (.lst [.int x, .int y, .int c1]) = H1 at hw1 f1 ⊢
    refine ⟨_, _, rfl, rfl, _, rfl, by omega, by omega, fun D hD => ?_⟩
    have nD := hw1.ne hD
    have en : ((l : Int) + r).toNat ≤ m := by omega
    refine lc_inv (i := 4) yields_range (fun k acc H' => Fr a H1 H' ∧ ∃ c', Wl H' a c' ∧ c1 ≤ c' ∧ c' ≤ c1 + k ∧ ∃ cs : List Nat, acc = cs.map sgn ∧ (∀ u ∈ cs, u ∈ TL.tl z) ∧ cs.length = k) (fun _ _ _ _ _ => trivial) ?_ (fun k acc H' x I hA hx ha hk => ?_) ?_ (fun acc H' I hA _ => ?_)
    · exact ⟨Fr.new hD, c1, hw1.new hD, Int.le_refl _, by omega, [], rfl, (fun u hu => nomatch hu), rfl⟩
    · obtain ⟨fr, c', hw', hc3, hc4, cs, rfl, hcs, hl⟩ := I
      have hkm : k < m := by
        have := (List.getElem?_eq_some_iff.mp hx).1
        rw [List.length_map, List.length_range] at this
        omega
      refine yes_ ?_
      refine ⟨.str z, rfl, .ref a, rfl, .str z, rfl, z, rfl, small_line (by omega), a, z.length, c', rfl, hw', by omega, by omega, by omega, fun r x y c2 hr0 hr1 hc5 hc6 => ?_⟩
      obtain ⟨u, hu, _, e⟩ := atI_int (xs := TL.tl z) hr0 (by rw [← TL.len_tl]; exact hr1)
      have fr2 : Fr a H' (upd H' a (.lst [.int x, .int y, .int c2])) := Fr.at
      refine ⟨z, r, u, rfl, rfl, small_line (by omega), e, lc_take (by rw [upd_ne nD]; exact hA) ha hk ⟨(fr.trans fr2).mut hD, c2, (Wl.upd (by omega)).mut nD, by omega, by omega, cs ++ [u], by rw [List.map_append]; rfl, fun w hw => ?_, by rw [List.length_append, hl]; rfl⟩⟩
      rcases List.mem_append.mp hw with hw | hw
      · exact hcs w hw
      · rw [List.mem_singleton.mp hw]
        exact hu
    · rw [List.length_map, List.length_range]
      omega
    · obtain ⟨fr, c', hw', hc3, hc4, cs, rfl, hcs, hl⟩ := I
      rw [List.length_map, List.length_range] at hl hc4
      refine ⟨_, D, cs.map fun c => (⟨#[c]⟩ : Str), rfl, rfl, .inl (SqL.of (by rw [List.map_map]; exact hA)), ?_, ?_⟩
      · rw [signs_sum, List.length_map]
        show cs.length + cs.length * 0 ≤ _
        omega
      · have e := join_signs cs
        refine q _ (by rw [e]; exact hcs) (by rw [TL.len_tl, e]; omega) (by rw [TL.len_tl, e]; omega) H' c' (f1.trans fr) hw' (by omega) (by omega)
def spAllSigns : Sp := fun vs H Q _ => vs = [] ∧ Q (.str ALL) H
theorem c_l_all_signs (T : Top K mg) : C8.Cal P w K mg base 1 "_law_all_signs" spAllSigns [] := by
  refine cal_of T.d_l_all_signs sc_l_all_signs (fun _ _ _ _ _ _ us hl => match us, hl with | [], _ => rfl) (fun vs H Q E h => ?_) (fun f cdv A outer s H vs Q E hr h => ?_)
  · obtain ⟨rfl, _⟩ := h
    rfl
  · obtain ⟨rfl, q⟩ := h
    refine ⟨_, (pss_cons (ps_set (i := 0) sc_l_all_signs.nd rfl (Or.inl rfl) pe_str)
      (pss_one (ps_ret (pe_op op_add_str (pe_op op_add_str (pv 0) pe_str) pe_str)))), ?_⟩
    exact ⟨_, rfl, _, _, rfl, rfl, (by decide +kernel), _, _, rfl, rfl, (by decide +kernel), q⟩
def spId : Sp := fun vs H Q _ => ∃ (a : Addr) (c : Int), vs = [.ref a] ∧ Wl H a c ∧ c < 2 ^ 38 ∧ ∀ x : Str, (∀ u ∈ TL.tl x, u ∈ TL.tl HEX) → x.length = 16 → Aft a c 20 H (Q (.str x))
theorem c_l_id (T : Top K mg) : C8.Cal P w K mg base 3 "_law_id" spId [] := by
  refine cal_of T.d_l_id sc_l_id (fun _ _ _ _ _ _ us hl => match us, hl with | [_], _ => rfl) (fun vs H Q E h => ?_) (fun f cdv A outer s H vs Q E hr h => ?_)
  · obtain ⟨a, c, rfl, _⟩ := h
    rfl
  · obtain ⟨a, c, rfl, hw, hc, q⟩ := h
    refine ⟨_, (pss_one (ps_ret (C8.pe_c (c_l_signs T) hr (by decide) (by rfl) (pa_cons (pv 0) (pa_cons pe_str (pa_cons pe_int (pa_cons pe_int pa_nil))))))), ?_⟩
    exact ⟨.ref a, rfl, a, HEX, 16, 16, c, rfl, hw, by decide +kernel, by decide +kernel, by decide, by decide, by omega, fun x hx h1 h2 => (q x hx (by omega)).more (Fr.refl a H) (Int.le_refl _) (by omega)⟩
theorem menu {xs : List Int} {v : V} (h : v ∈ xs.map V.int) : ∃ m ∈ xs, v = .int m := by
  obtain ⟨m, hm, rfl⟩ := List.mem_map.mp h
  exact ⟨m, hm, rfl⟩
def spText : Sp := fun vs H Q _ => ∃ (a : Addr) (c : Int), vs = [.ref a] ∧ Wl H a c ∧ c < 2 ^ 37 ∧ ∀ x : Str, isTextF x = true → x.length ≤ 2000 → Aft a c 100 H (Q (.str x))
theorem c_l_text (T : Top K mg) : C8.Cal P w K mg base 3 "_law_text" (spText) [] := by
  refine cal_of T.d_l_text sc_l_text (fun _ _ _ _ _ _ us hl => match us, hl with | [_], _ => rfl) (fun vs H Q E h => ?_) (fun f cdv A outer s H vs Q E hr h => ?_)
  · obtain ⟨a, c, rfl, _⟩ := h
    rfl
  · obtain ⟨a, c, rfl, hw, hc, q⟩ := h
    have hc0 := hw.1
    refine ⟨_, (pss_cons (ps_set (i := 1) sc_l_text.nd rfl (Or.inl rfl) (C8.pe_c (c_l_pick T) hr (by decide) (by rfl) (pa_cons (pv 0) (pa_cons (pe_lst (pa_cons pe_int (pa_cons pe_int (pa_cons pe_int (pa_cons pe_int pa_nil))))) pa_nil))))
      (pss_cons (ps_set (i := 2) sc_l_text.nd rfl (Or.inl rfl) (C8.pe_c (c_l_signs T) hr (by decide) (by rfl) (pa_cons (pv 0) (pa_cons (pe_c0 (c_l_all_signs T) hr (by decide) (by rfl)) (pa_cons pe_int (pa_cons (pe_callB (call_min2 rfl) (by rfl) T.z_min (by decide +kernel) (pa_cons (pv 1) (pa_cons pe_int pa_nil))) pa_nil))))))
      (pss_cons (ps_if (PW.pt (pw_and (pt_cmpR op_ne (pv 2) pe_str (nomark _)) (pw_and1 (pt_cmpR op_eq (pv 1) pe_int (nomark _)))))
      (pss_one (ps_set (i := 2) sc_l_text.nd rfl (Or.inl rfl) (pe_slice sl_str (pe_op op_mul_si (pv 2) pe_int) po_none (po_some (C8.pe_c (c_l_pick T) hr (by decide) (by rfl) (pa_cons (pv 0) (pa_cons (pe_lst (pa_cons pe_int (pa_cons pe_int (pa_cons pe_int pa_nil)))) pa_nil)))))))
      pss_nil)
      (pss_one (ps_ret (pv 2)))))), ?_⟩
    refine ⟨.ref a, rfl, (by show 4 ≤ sizeLine; decide), fun p hp => ⟨a, p, _, c, rfl, hw.new hp, SqL.of upd_same, hw.ne hp, (by show 0 < 4; decide), (by show 4 < 1000000; decide), by omega, fun v hv H1 c1 f1 w1 h1 h2 => ?_⟩⟩
    obtain ⟨m, rfl, hm⟩ : ∃ m : Int, v = .int m ∧ 3 ≤ m ∧ m ≤ 2000 := by
      obtain ⟨m, hm, rfl⟩ := menu (xs := [3, 3, 20, 2000]) hv
      simp only [List.mem_cons, List.not_mem_nil, or_false] at hm
      exact ⟨m, rfl, by omega, by omega⟩
    refine ⟨.ref a, rfl, rfl, .int m, rfl, _, _, rfl, ?_⟩
    obtain ⟨m', em, hm'⟩ : ∃ m' : Nat, (if (30 : Int) < m then 30 else m) = m' ∧ m' ≤ 30 := by
      split
      · exact ⟨30, rfl, Nat.le_refl _⟩
      · exact ⟨m.toNat, by omega, by omega⟩
    refine ⟨a, ALL, 0, m', c1, by rw [← em]; rfl, w1, (by decide +kernel), (by decide +kernel), by omega, by omega, by omega, fun x hx h3 h4 H2 c2 f2 w2 h5 h6 => ?_⟩
    have fr2 : Fr a H H2 := (Fr.new hp).trans (f1.trans f2)
    have fin : ∀ H3 c3, Fr a H2 H3 → Wl H3 a c3 → c2 ≤ c3 → c3 ≤ c2 + 10 → Q (.str x) H3 := fun H3 c3 f3 w3 h7 h8 => q x (text_of hx (by omega)) (by omega) H3 c3 (fr2.trans f3) w3 (by omega) (by omega)
    refine ⟨.str x, rfl, rfl, _, rfl, ite2 (fun h7 => ?_) (fun h7 => ?_)⟩
    · refine ⟨.int m, rfl, rfl, _, rfl, ite2 (fun h8 => ?_) (fun h8 => ?_)⟩
      · refine ⟨.str x, rfl, x, 2000, rfl, rfl, by decide, by decide, ?_, .ref a, rfl, (by show 3 ≤ sizeLine; decide), fun p2 hp2 => ⟨a, p2, _, c2, rfl, w2.new hp2, SqL.of upd_same, w2.ne hp2, (by show 0 < 3; decide), (by show 3 < 1000000; decide), by omega, fun v hv H3 c3 f3 w3 h9 h10 => ?_⟩⟩
        · have : x.length * Int.toNat 2000 ≤ 30 * 2000 := Nat.mul_le_mul (by omega) (by decide)
          omega
        · obtain ⟨k, rfl, hk⟩ : ∃ k : Nat, v = .int k ∧ k ≤ 2000 := by
            obtain ⟨m, hm, rfl⟩ := menu (xs := [2000, 1999, 1000]) hv
            simp only [List.mem_cons, List.not_mem_nil, or_false] at hm
            exact ⟨m.toNat, by congr 1; omega, by omega⟩
          have e := cut_to (repS x 2000) k
          have hr : (repS x (Int.toNat 2000)).length ≤ 100000 := by
            rw [rep_len]
            have : Int.toNat 2000 * x.length ≤ 2000 * 30 := Nat.mul_le_mul (by decide) (by omega)
            omega
          refine ⟨_, rfl, repS x (Int.toNat 2000), rfl, small_line (by omega), .str _, rfl, ?_⟩
          have hl : (cutS (repS x 2000) none (some (k : Int))).length ≤ 2000 := by
            rw [TL.len_tl, e, List.length_take]
            omega
          refine q _ (text_of (fun u hu => ?_) hl) hl H3 c3 (fr2.trans ((Fr.new hp2).trans f3)) w3 (by omega) (by omega)
          rw [e] at hu
          have hu := List.mem_of_mem_take hu
          rw [tl_rep] at hu
          obtain ⟨l, hl, hu⟩ := List.mem_flatten.mp hu
          rw [(List.mem_replicate.mp hl).2] at hu
          exact hx u hu
      · exact ⟨.str x, rfl, fin H2 c2 (Fr.refl a H2) w2 (Int.le_refl _) (by omega)⟩
    · exact iteF ⟨.str x, rfl, fin H2 c2 (Fr.refl a H2) w2 (Int.le_refl _) (by omega)⟩
end

/-! ### the errors: their classes, their making -/
def NM : List Str := ["BadName", "BadPath", "BadRef", "BadChange", "BadMark", "BadLetter", "BadCommand", "Crash", "Cut", "BadObject", "BadPack", "BadExpression", "Clash", "Conflict", "Locked", "Stale", "NoObject", "NoRef", "ForkError"]
def FL : List Str := ["why", "why", "why", "why", "why", "why", "why", "why", "why", "at", "at", "at", "name", "paths", "ref", "ref", "name", "name", "why"]
def nameOf (j : Nat) : Str := NM.getD j ""
def fieldOf (j : Nat) : Str := FL.getD j ""
abbrev PS2 (j : Nat) : List Str := ["self", fieldOf j]
def spErr (K : PySem.W.Frag) (f : Str) : Sp := fun vs H Q _ => ∃ (a C fI : Addr) (y : V), vs = [.ref a, y] ∧ XC K C fI ∧ PySem.W.findIn K (.ref C) f = some none ∧ H a = some (exo a C none) ∧
  ∀ dx, H dx = none → dx ≠ a → Q .non (upd (upd H dx (exd dx [(f, y)])) a (exo a C (some dx)))
structure Er (K : PySem.W.Frag) (mg : Str → Option Value) (C I : Nat → Addr) : Prop where
  xc : ∀ j, j < 19 → XC K (C j) (I j)
  nf : ∀ j, j < 19 → PySem.W.findIn K (.ref (C j)) (fieldOf j) = some none
  mgc : ∀ j, j < 19 → mg (nameOf j) = some (.ref (C j))
  kit : ∀ j i, j < 19 → i < 18 → PySem.W.kitOne K (.ref (C j)) (.ref (C i)) = some (decide (i = j))
  kitF : ∀ j, j < 19 → PySem.W.kitOne K (.ref (C j)) (.ref (C 18)) = some (decide (j < 16 ∨ j = 18))
  kitV : ∀ j, j < 19 → PySem.W.kitOne K (.ref (C j)) (.type "ValueError") = some (decide (j < 16 ∨ j = 18))
  kitK : ∀ j, j < 19 → PySem.W.kitOne K (.ref (C j)) (.type "KeyError") = some (decide (16 ≤ j ∧ j < 18))
  kitI : ∀ j, j < 19 → PySem.W.kitOne K (.ref (C j)) (.type "IndexError") = some false
  kitR : ∀ j, j < 19 → PySem.W.kitOne K (.ref (C j)) (.type "RuntimeError") = some false
  kitT : ∀ j, j < 19 → PySem.W.kitOne K (.ref (C j)) (.type "TypeError") = some false
  ini : ∀ j, j < 19 → ∃ fd, (∀ (P : Program) (w : World) (base : Heap), FnOk P w K mg base C8.CX0 1 (I j) fd (PS2 j) (spErr K (fieldOf j))) ∧ Binds K fd (PS2 j) [] ∧
    (∀ (s : Shared) (self : Value) (ws : List Value), K.In s.heap → ws.length = 1 → BindsTo s fd ⟨[self], ([fieldOf j] : List Str).zip ws⟩ ((PS2 j).zip (self :: ws))) ∧ (fieldOf j = "why" → ∃ ds, Vals [V.str ""] ds ∧ Binds K fd (PS2 j) ds)
  ox : ∀ j, j = 10 ∨ j = 13 ∨ j = 15 → OexC K (C j) ∧ PySem.W.exmOne K (.ref (C j)) (.ref (C 18)) = some true
structure TopE (K : PySem.W.Frag) (mg : Str → Option Value) (C I : Nat → Addr) : Prop extends Top K mg where
  er : Er K mg C I
section
variable {K : PySem.W.Frag} {mg : Str → Option Value} {C I : Nat → Addr}
theorem TopE.cg (T : TopE K mg C I) (j : Nat) (hj : j < 19) : ∃ u, mg (nameOf j) = some u ∧ RelV (V.ref (C j)) u := ⟨_, T.er.mgc j hj, rfl⟩
variable {X : Cx} {x : Str} {p pos : Pos} {e : Expr} {es : List Expr} {t : TA} {kpos : Pos} {nm : Option Str} {te : TE}
theorem mk_pos (T : Er X.K X.mg C I) (j : Nat) (hj : j < 19) (hr : Room 2 X.A) (hg : Gl X (nameOf j)) (ha : PA X (e :: es) t) (hdb : ((nameOf j) == ("__debug__" : Str)) = false := by decide)
    (he : starEach (e :: es) X.env = (false, eval e X.env) :: starEach es X.env := by rfl) (hpl : (backTo pos (starEach es X.env)).any (·.1) = false := by rfl) :
    PE X (.Call (.Name (nameOf j) p) (e :: es) [] pos) (tMkV (C j) (spErr X.K (fieldOf j)) [] t) := by
  obtain ⟨fd, F, b, _, _⟩ := T.ini j hj
  exact pe_mkv (T.xc j hj) (F _ _ _) hr b .nil C8.pass0 hg (T.mgc j hj) ha hdb he hpl
theorem mk_zero (T : Er X.K X.mg C I) (j : Nat) (hj : j < 19) (hw : fieldOf j = "why") (hr : Room 2 X.A) (hg : Gl X (nameOf j)) (hdb : ((nameOf j) == ("__debug__" : Str)) = false := by decide) :
    PE X (.Call (.Name (nameOf j) p) [] [] pos) (tMkV (C j) (spErr X.K (fieldOf j)) [V.str ""] tNil) := by
  obtain ⟨fd, F, _, _, d⟩ := T.ini j hj
  obtain ⟨ds, v, b⟩ := d hw
  exact pe_mkv0 (T.xc j hj) (F _ _ _) hr b v C8.pass0 hg (T.mgc j hj) hdb
theorem mk_kw (T : Er X.K X.mg C I) (j : Nat) (hj : j < 19) (hr : Room 2 X.A) (hg : Gl X (nameOf j)) (hkw : PK X [⟨some (fieldOf j), e, kpos⟩] t) (hdb : ((nameOf j) == ("__debug__" : Str)) = false := by decide)
    (hall : (backToKw pos (keywordEach [⟨some (fieldOf j), e, kpos⟩] X.env)).all (·.1.isSome) = true := by rfl) (hks : (backToKw pos (keywordEach [⟨some (fieldOf j), e, kpos⟩] X.env)).filterMap (·.1) = [fieldOf j] := by rfl)
    (hpl : ((backTo pos (starEach [] X.env)).any (·.1) || (backToKw pos (keywordEach [⟨some (fieldOf j), e, kpos⟩] X.env)).any (·.1.isNone)) = false := by rfl) :
    PE X (.Call (.Name (nameOf j) p) [] [⟨some (fieldOf j), e, kpos⟩] pos) (tMkVK (C j) 1 (spErr X.K (fieldOf j)) t) := by
  obtain ⟨fd, F, _, k, _⟩ := T.ini j hj
  exact pe_mkvK (ks := [fieldOf j]) (T.xc j hj) (F _ _ _) hr (fun s self ws X1 l => k s self ws X1 l) C8.pass0 hg (T.mgc j hj) hkw hall hks hdb hpl
theorem rs_pos (T : Er X.K X.mg C I) (j : Nat) (hj : j = 10 ∨ j = 13 ∨ j = 15) (hr : Room 2 X.A) (hg : Gl X (nameOf j)) (ha : PA X (e :: es) t) (hdb : ((nameOf j) == ("__debug__" : Str)) = false := by decide)
    (he : starEach (e :: es) X.env = (false, eval e X.env) :: starEach es X.env := by rfl) (hpl : (backTo pos (starEach es X.env)).any (·.1) = false := by rfl) :
    PMk X (.Call (.Name (nameOf j) p) (e :: es) [] pos) (tMkO (C j) (spErr X.K (fieldOf j)) [] t) := by
  have hj2 : j < 19 := by omega
  obtain ⟨fd, F, b, _, _⟩ := T.ini j hj2
  exact pmk_oex (T.ox j hj).1 (T.xc j hj2).iC (T.xc j hj2).tI (F _ _ _) hr b .nil C8.pass0 hg (T.mgc j hj2) ha hdb he hpl
/-- an error of the j-th class stands at a, its field holds y -/
def ErrAt (C : Nat → Addr) (H : Hp) (a : Addr) (j : Nat) (y : V) : Prop := ∃ d, H a = some (exo a (C j) (some d)) ∧ H d = some (exd d [(fieldOf j, y)])
theorem ErrAt.same {H H' : Hp} {a : Addr} {j : Nat} {y : V} (h : ErrAt C H a j y) (s : Same H H') : ErrAt C H' a j y := by
  obtain ⟨d, h1, h2⟩ := h
  exact ⟨d, s _ _ h1, s _ _ h2⟩
theorem made_err {H : Hp} {a dx : Addr} {j : Nat} {y : V} (na : H a = none) (nd : (upd H a (exo a (C j) none)) dx = none) (ne : dx ≠ a) :
    Same H (upd (upd (upd H a (exo a (C j) none)) dx (exd dx [(fieldOf j, y)])) a (exo a (C j) (some dx))) ∧ ErrAt C (upd (upd (upd H a (exo a (C j) none)) dx (exd dx [(fieldOf j, y)])) a (exo a (C j) (some dx))) a j y := by
  refine ⟨fun b u hb => ?_, dx, upd_same, by rw [upd_ne ne]; exact upd_same⟩
  have n1 : b ≠ a := ne_of_none hb na
  have n2 : b ≠ dx := fun z => by
    rw [← z, upd_ne n1, hb] at nd
    cases nd
  rw [upd_ne n1, upd_ne n2, upd_ne n1]
  exact hb
theorem do_pos {K : PySem.W.Frag} {mg : Str → Option Value} (T : Er K mg C I) {j : Nat} (hj : j < 19) {H : Hp} {y : V} {Q : VK} (q : ∀ H' a, Same H H' → H a = none → ErrAt C H' a j y → Q (.ref a) H') :
    [y].length ≤ 1000 ∧ ∀ a, H a = none → spErr K (fieldOf j) (.ref a :: ([y] ++ [])) (upd H a (exo a (C j) none)) (fun v H2 => v = .non ∧ Q (.ref a) H2) (fun _ _ _ => False) :=
  ⟨(by show 1 ≤ 1000; decide), fun a na => ⟨a, C j, I j, y, rfl, T.xc j hj, T.nf j hj, upd_same, fun dx nd ne => ⟨rfl, q _ a (made_err na nd ne).1 na (made_err na nd ne).2⟩⟩⟩
theorem do_kw {K : PySem.W.Frag} {mg : Str → Option Value} (T : Er K mg C I) {j : Nat} (hj : j < 19) {H : Hp} {y : V} {Q : VK} (q : ∀ H' a, Same H H' → H a = none → ErrAt C H' a j y → Q (.ref a) H') :
    [y].length = 1 ∧ ∀ a, H a = none → spErr K (fieldOf j) (.ref a :: [y]) (upd H a (exo a (C j) none)) (fun v H2 => v = .non ∧ Q (.ref a) H2) (fun _ _ _ => False) :=
  ⟨rfl, fun a na => ⟨a, C j, I j, y, rfl, T.xc j hj, T.nf j hj, upd_same, fun dx nd ne => ⟨rfl, q _ a (made_err na nd ne).1 na (made_err na nd ne).2⟩⟩⟩
/-- isinstance(e, C_i) -/
theorem isi_own {K : PySem.W.Frag} {mg : Str → Option Value} (T : Er K mg C I) {j : Nat} (hj : j < 19) (i : Nat) (hi : i < 18) {H : Hp} {a : Addr} {y : V} {Q : VK} (h : ErrAt C H a j y) (q : Q (.bl (decide (i = j))) H) : rIsV K [.ref a, .ref (C i)] H Q := by
  obtain ⟨d, h1, h2⟩ := h
  exact ⟨a, C j, I j, d, _, .ref (C i), .ref (C i), _, rfl, .own _, T.xc j hj, h1, h2, T.kit j i hj hi, q⟩
theorem isi_frk {K : PySem.W.Frag} {mg : Str → Option Value} (T : Er K mg C I) {j : Nat} (hj : j < 19) {H : Hp} {a : Addr} {y : V} {Q : VK} (h : ErrAt C H a j y) (q : Q (.bl (decide (j < 16 ∨ j = 18))) H) : rIsV K [.ref a, .ref (C 18)] H Q := by
  obtain ⟨d, h1, h2⟩ := h
  exact ⟨a, C j, I j, d, _, .ref (C 18), .ref (C 18), _, rfl, .own _, T.xc j hj, h1, h2, T.kitF j hj, q⟩
theorem isi_ty {K : PySem.W.Frag} {mg : Str → Option Value} (T : Er K mg C I) {j : Nat} (hj : j < 19) {n : String} {b : Bool} (hk : PySem.W.kitOne K (.ref (C j)) (.type n) = some b) {H : Hp} {a : Addr} {y : V} {Q : VK} (h : ErrAt C H a j y) (q : Q (.bl b) H) : rIsV K [.ref a, .ty n] H Q := by
  obtain ⟨d, h1, h2⟩ := h
  exact ⟨a, C j, I j, d, _, .ty n, .type n, _, rfl, .ty n, T.xc j hj, h1, h2, hk, q⟩
end
section
variable {P : Program} {w : World} {K : PySem.W.Frag} {mg : Str → Option Value} {base : Heap}
theorem ini_ForkError {f : Addr} {fd : FuncData} (F : C8.Fun K "__init__" "ForkError.__init__" s_ForkError_init f fd) : FnOk P w K mg base C8.CX0 1 f fd ["self", "why"] (spErr K "why") := by
  refine C8.fn0 F sc_ForkError_init (fun vs H Q E h => ?_) (fun cdv A outer s H vs Q E hr h => ?_)
  · obtain ⟨a, C, fI, y, rfl, _⟩ := h
    rfl
  · obtain ⟨a, C, fI, y, rfl, T, hno, ea, q⟩ := h
    refine ⟨_, pss_one (ps_osv (pv 0) (pv 1)), ?_⟩
    exact ⟨y, rfl, .ref a, rfl, a, C, fI, rfl, T, hno, ea, q⟩
theorem ini_BadObject {f : Addr} {fd : FuncData} (F : C8.Fun K "__init__" "BadObject.__init__" s_BadObject_init f fd) : FnOk P w K mg base C8.CX0 1 f fd ["self", "at"] (spErr K "at") := by
  refine C8.fn0 F sc_BadObject_init (fun vs H Q E h => ?_) (fun cdv A outer s H vs Q E hr h => ?_)
  · obtain ⟨a, C, fI, y, rfl, _⟩ := h
    rfl
  · obtain ⟨a, C, fI, y, rfl, T, hno, ea, q⟩ := h
    refine ⟨_, pss_one (ps_osv (pv 0) (pv 1)), ?_⟩
    exact ⟨y, rfl, .ref a, rfl, a, C, fI, rfl, T, hno, ea, q⟩
theorem ini_BadPack {f : Addr} {fd : FuncData} (F : C8.Fun K "__init__" "BadPack.__init__" s_BadPack_init f fd) : FnOk P w K mg base C8.CX0 1 f fd ["self", "at"] (spErr K "at") := by
  refine C8.fn0 F sc_BadPack_init (fun vs H Q E h => ?_) (fun cdv A outer s H vs Q E hr h => ?_)
  · obtain ⟨a, C, fI, y, rfl, _⟩ := h
    rfl
  · obtain ⟨a, C, fI, y, rfl, T, hno, ea, q⟩ := h
    refine ⟨_, pss_one (ps_osv (pv 0) (pv 1)), ?_⟩
    exact ⟨y, rfl, .ref a, rfl, a, C, fI, rfl, T, hno, ea, q⟩
theorem ini_BadExpression {f : Addr} {fd : FuncData} (F : C8.Fun K "__init__" "BadExpression.__init__" s_BadExpression_init f fd) : FnOk P w K mg base C8.CX0 1 f fd ["self", "at"] (spErr K "at") := by
  refine C8.fn0 F sc_BadExpression_init (fun vs H Q E h => ?_) (fun cdv A outer s H vs Q E hr h => ?_)
  · obtain ⟨a, C, fI, y, rfl, _⟩ := h
    rfl
  · obtain ⟨a, C, fI, y, rfl, T, hno, ea, q⟩ := h
    refine ⟨_, pss_one (ps_osv (pv 0) (pv 1)), ?_⟩
    exact ⟨y, rfl, .ref a, rfl, a, C, fI, rfl, T, hno, ea, q⟩
theorem ini_Clash {f : Addr} {fd : FuncData} (F : C8.Fun K "__init__" "Clash.__init__" s_Clash_init f fd) : FnOk P w K mg base C8.CX0 1 f fd ["self", "name"] (spErr K "name") := by
  refine C8.fn0 F sc_Clash_init (fun vs H Q E h => ?_) (fun cdv A outer s H vs Q E hr h => ?_)
  · obtain ⟨a, C, fI, y, rfl, _⟩ := h
    rfl
  · obtain ⟨a, C, fI, y, rfl, T, hno, ea, q⟩ := h
    refine ⟨_, pss_one (ps_osv (pv 0) (pv 1)), ?_⟩
    exact ⟨y, rfl, .ref a, rfl, a, C, fI, rfl, T, hno, ea, q⟩
theorem ini_Conflict {f : Addr} {fd : FuncData} (F : C8.Fun K "__init__" "Conflict.__init__" s_Conflict_init f fd) : FnOk P w K mg base C8.CX0 1 f fd ["self", "paths"] (spErr K "paths") := by
  refine C8.fn0 F sc_Conflict_init (fun vs H Q E h => ?_) (fun cdv A outer s H vs Q E hr h => ?_)
  · obtain ⟨a, C, fI, y, rfl, _⟩ := h
    rfl
  · obtain ⟨a, C, fI, y, rfl, T, hno, ea, q⟩ := h
    refine ⟨_, pss_one (ps_osv (pv 0) (pv 1)), ?_⟩
    exact ⟨y, rfl, .ref a, rfl, a, C, fI, rfl, T, hno, ea, q⟩
theorem ini_Locked {f : Addr} {fd : FuncData} (F : C8.Fun K "__init__" "Locked.__init__" s_Locked_init f fd) : FnOk P w K mg base C8.CX0 1 f fd ["self", "ref"] (spErr K "ref") := by
  refine C8.fn0 F sc_Locked_init (fun vs H Q E h => ?_) (fun cdv A outer s H vs Q E hr h => ?_)
  · obtain ⟨a, C, fI, y, rfl, _⟩ := h
    rfl
  · obtain ⟨a, C, fI, y, rfl, T, hno, ea, q⟩ := h
    refine ⟨_, pss_one (ps_osv (pv 0) (pv 1)), ?_⟩
    exact ⟨y, rfl, .ref a, rfl, a, C, fI, rfl, T, hno, ea, q⟩
theorem ini_Stale {f : Addr} {fd : FuncData} (F : C8.Fun K "__init__" "Stale.__init__" s_Stale_init f fd) : FnOk P w K mg base C8.CX0 1 f fd ["self", "ref"] (spErr K "ref") := by
  refine C8.fn0 F sc_Stale_init (fun vs H Q E h => ?_) (fun cdv A outer s H vs Q E hr h => ?_)
  · obtain ⟨a, C, fI, y, rfl, _⟩ := h
    rfl
  · obtain ⟨a, C, fI, y, rfl, T, hno, ea, q⟩ := h
    refine ⟨_, pss_one (ps_osv (pv 0) (pv 1)), ?_⟩
    exact ⟨y, rfl, .ref a, rfl, a, C, fI, rfl, T, hno, ea, q⟩
theorem ini_NoObject {f : Addr} {fd : FuncData} (F : C8.Fun K "__init__" "NoObject.__init__" s_NoObject_init f fd) : FnOk P w K mg base C8.CX0 1 f fd ["self", "name"] (spErr K "name") := by
  refine C8.fn0 F sc_NoObject_init (fun vs H Q E h => ?_) (fun cdv A outer s H vs Q E hr h => ?_)
  · obtain ⟨a, C, fI, y, rfl, _⟩ := h
    rfl
  · obtain ⟨a, C, fI, y, rfl, T, hno, ea, q⟩ := h
    refine ⟨_, pss_one (ps_osv (pv 0) (pv 1)), ?_⟩
    exact ⟨y, rfl, .ref a, rfl, a, C, fI, rfl, T, hno, ea, q⟩
theorem ini_NoRef {f : Addr} {fd : FuncData} (F : C8.Fun K "__init__" "NoRef.__init__" s_NoRef_init f fd) : FnOk P w K mg base C8.CX0 1 f fd ["self", "name"] (spErr K "name") := by
  refine C8.fn0 F sc_NoRef_init (fun vs H Q E h => ?_) (fun cdv A outer s H vs Q E hr h => ?_)
  · obtain ⟨a, C, fI, y, rfl, _⟩ := h
    rfl
  · obtain ⟨a, C, fI, y, rfl, T, hno, ea, q⟩ := h
    refine ⟨_, pss_one (ps_osv (pv 0) (pv 1)), ?_⟩
    exact ⟨y, rfl, .ref a, rfl, a, C, fI, rfl, T, hno, ea, q⟩
end

section
variable {P : Program} {w : World} {K : PySem.W.Frag} {mg : Str → Option Value} {base : Heap} {C I : Nat → Addr}
def marksOf (j : Nat) : List V := (List.range 18).map fun i => V.bl (decide (i = j))
def spMarks (C : Nat → Addr) : Sp := fun vs H Q _ => ∃ (a : Addr) (j : Nat) (y : V), vs = [.ref a] ∧ j < 19 ∧ ErrAt C H a j y ∧ ∀ H' p, Same H H' → H' p = some (.lst (marksOf j)) → Q (.ref p) H'
theorem c_l_marks (T : TopE K mg C I) : C8.Cal P w K mg base 1 "_law_marks" (spMarks C) [] := by
  refine cal_of T.d_l_marks sc_l_marks (fun _ _ _ _ _ _ us hl => match us, hl with | [_], _ => rfl) (fun vs H Q E h => ?_) (fun f cdv A outer s H vs Q E hr h => ?_)
  · obtain ⟨a, j, y, rfl, _⟩ := h
    rfl
  · obtain ⟨a, j, y, rfl, hj, h, q⟩ := h
    have h0 := h
    refine ⟨_, (pss_cons (ps_set (i := 1) sc_l_marks.nd rfl (Or.inl rfl) (pe_lst (pa_cons (pe_callB call_isv (by rfl) T.z_isinstance (by decide +kernel) (pa_cons (pv 0) (pa_cons (C8.pe_gc (by rfl) (T.cg 0 (by decide))) pa_nil))) (pa_cons (pe_callB call_isv (by rfl) T.z_isinstance (by decide +kernel) (pa_cons (pv 0) (pa_cons (C8.pe_gc (by rfl) (T.cg 1 (by decide))) pa_nil))) (pa_cons (pe_callB call_isv (by rfl) T.z_isinstance (by decide +kernel) (pa_cons (pv 0) (pa_cons (C8.pe_gc (by rfl) (T.cg 2 (by decide))) pa_nil))) (pa_cons (pe_callB call_isv (by rfl) T.z_isinstance (by decide +kernel) (pa_cons (pv 0) (pa_cons (C8.pe_gc (by rfl) (T.cg 3 (by decide))) pa_nil))) pa_nil))))))
      (pss_cons (ps_set (i := 1) sc_l_marks.nd rfl (Or.inl rfl) (pe_op op_cat (pv 1) (pe_lst (pa_cons (pe_callB call_isv (by rfl) T.z_isinstance (by decide +kernel) (pa_cons (pv 0) (pa_cons (C8.pe_gc (by rfl) (T.cg 4 (by decide))) pa_nil))) (pa_cons (pe_callB call_isv (by rfl) T.z_isinstance (by decide +kernel) (pa_cons (pv 0) (pa_cons (C8.pe_gc (by rfl) (T.cg 5 (by decide))) pa_nil))) (pa_cons (pe_callB call_isv (by rfl) T.z_isinstance (by decide +kernel) (pa_cons (pv 0) (pa_cons (C8.pe_gc (by rfl) (T.cg 6 (by decide))) pa_nil))) pa_nil))))))
      (pss_cons (ps_set (i := 1) sc_l_marks.nd rfl (Or.inl rfl) (pe_op op_cat (pv 1) (pe_lst (pa_cons (pe_callB call_isv (by rfl) T.z_isinstance (by decide +kernel) (pa_cons (pv 0) (pa_cons (C8.pe_gc (by rfl) (T.cg 7 (by decide))) pa_nil))) (pa_cons (pe_callB call_isv (by rfl) T.z_isinstance (by decide +kernel) (pa_cons (pv 0) (pa_cons (C8.pe_gc (by rfl) (T.cg 8 (by decide))) pa_nil))) (pa_cons (pe_callB call_isv (by rfl) T.z_isinstance (by decide +kernel) (pa_cons (pv 0) (pa_cons (C8.pe_gc (by rfl) (T.cg 9 (by decide))) pa_nil))) (pa_cons (pe_callB call_isv (by rfl) T.z_isinstance (by decide +kernel) (pa_cons (pv 0) (pa_cons (C8.pe_gc (by rfl) (T.cg 10 (by decide))) pa_nil))) pa_nil)))))))
      (pss_cons (ps_expr (pe_bm PySem.F.plainAttrs_list PySem.F.slot_list_append PySem.F.type_list_append mt_append (pv 1) (pa_cons (pe_callB call_isv (by rfl) T.z_isinstance (by decide +kernel) (pa_cons (pv 0) (pa_cons (C8.pe_gc (by rfl) (T.cg 11 (by decide))) pa_nil))) pa_nil)))
      (pss_cons (ps_set (i := 1) sc_l_marks.nd rfl (Or.inl rfl) (pe_op op_cat (pv 1) (pe_lst (pa_cons (pe_callB call_isv (by rfl) T.z_isinstance (by decide +kernel) (pa_cons (pv 0) (pa_cons (C8.pe_gc (by rfl) (T.cg 12 (by decide))) pa_nil))) (pa_cons (pe_callB call_isv (by rfl) T.z_isinstance (by decide +kernel) (pa_cons (pv 0) (pa_cons (C8.pe_gc (by rfl) (T.cg 13 (by decide))) pa_nil))) (pa_cons (pe_callB call_isv (by rfl) T.z_isinstance (by decide +kernel) (pa_cons (pv 0) (pa_cons (C8.pe_gc (by rfl) (T.cg 14 (by decide))) pa_nil))) (pa_cons (pe_callB call_isv (by rfl) T.z_isinstance (by decide +kernel) (pa_cons (pv 0) (pa_cons (C8.pe_gc (by rfl) (T.cg 15 (by decide))) pa_nil))) pa_nil)))))))
      (pss_one (ps_ret (pe_op op_cat (pv 1) (pe_lst (pa_cons (pe_callB call_isv (by rfl) T.z_isinstance (by decide +kernel) (pa_cons (pv 0) (pa_cons (C8.pe_gc (by rfl) (T.cg 16 (by decide))) pa_nil))) (pa_cons (pe_callB call_isv (by rfl) T.z_isinstance (by decide +kernel) (pa_cons (pv 0) (pa_cons (C8.pe_gc (by rfl) (T.cg 17 (by decide))) pa_nil))) pa_nil))))))))))), ?_⟩
    refine ⟨.ref a, rfl, ?_⟩
    dsimp only [tCons, tC, tNil]
    refine isi_own T.er hj 0 (by decide) h ?_
    refine ⟨.ref a, rfl, ?_⟩
    dsimp only [tCons, tC, tNil]
    refine isi_own T.er hj 1 (by decide) h ?_
    refine ⟨.ref a, rfl, ?_⟩
    dsimp only [tCons, tC, tNil]
    refine isi_own T.er hj 2 (by decide) h ?_
    refine ⟨.ref a, rfl, ?_⟩
    dsimp only [tCons, tC, tNil]
    refine isi_own T.er hj 3 (by decide) h ?_
    refine ⟨(by show 4 ≤ sizeLine; decide), fun p1 np1 => ?_⟩
    have sp1 := same_new (o := .lst ([V.bl (decide (0 = j)), V.bl (decide (1 = j)), V.bl (decide (2 = j)), V.bl (decide (3 = j))] : List V)) np1
    have ep1 : (upd H p1 (.lst ([V.bl (decide (0 = j)), V.bl (decide (1 = j)), V.bl (decide (2 = j)), V.bl (decide (3 = j))] : List V))) p1 = some (.lst [V.bl (decide (0 = j)), V.bl (decide (1 = j)), V.bl (decide (2 = j)), V.bl (decide (3 = j))]) := upd_same
    have h := h.same sp1
    generalize upd H p1 (.lst ([V.bl (decide (0 = j)), V.bl (decide (1 = j)), V.bl (decide (2 = j)), V.bl (decide (3 = j))] : List V)) = Hp1 at sp1 ep1 h ⊢
    refine ⟨.ref p1, rfl, ?_⟩
    refine ⟨.ref a, rfl, ?_⟩
    dsimp only [tCons, tC, tNil]
    refine isi_own T.er hj 4 (by decide) h ?_
    refine ⟨.ref a, rfl, ?_⟩
    dsimp only [tCons, tC, tNil]
    refine isi_own T.er hj 5 (by decide) h ?_
    refine ⟨.ref a, rfl, ?_⟩
    dsimp only [tCons, tC, tNil]
    refine isi_own T.er hj 6 (by decide) h ?_
    refine ⟨(by show 3 ≤ sizeLine; decide), fun p2 np2 => ?_⟩
    have sp2 := same_new (o := .lst ([V.bl (decide (4 = j)), V.bl (decide (5 = j)), V.bl (decide (6 = j))] : List V)) np2
    have ep2 : (upd Hp1 p2 (.lst ([V.bl (decide (4 = j)), V.bl (decide (5 = j)), V.bl (decide (6 = j))] : List V))) p2 = some (.lst [V.bl (decide (4 = j)), V.bl (decide (5 = j)), V.bl (decide (6 = j))]) := upd_same
    have h := h.same sp2
    generalize upd Hp1 p2 (.lst ([V.bl (decide (4 = j)), V.bl (decide (5 = j)), V.bl (decide (6 = j))] : List V)) = Hp2 at sp2 ep2 h ⊢
    refine ⟨p1, p2, _, _, rfl, rfl, (sp2 _ _ ep1), ep2, (by show 4 + 3 ≤ sizeLine; decide), fun p3 np3 => ?_⟩
    have sp3 := same_new (o := .lst ([V.bl (decide (0 = j)), V.bl (decide (1 = j)), V.bl (decide (2 = j)), V.bl (decide (3 = j))] ++ [V.bl (decide (4 = j)), V.bl (decide (5 = j)), V.bl (decide (6 = j))])) np3
    have ep3 : (upd Hp2 p3 (.lst ([V.bl (decide (0 = j)), V.bl (decide (1 = j)), V.bl (decide (2 = j)), V.bl (decide (3 = j))] ++ [V.bl (decide (4 = j)), V.bl (decide (5 = j)), V.bl (decide (6 = j))]))) p3 = some (.lst ([V.bl (decide (0 = j)), V.bl (decide (1 = j)), V.bl (decide (2 = j)), V.bl (decide (3 = j))] ++ [V.bl (decide (4 = j)), V.bl (decide (5 = j)), V.bl (decide (6 = j))])) := upd_same
    have h := h.same sp3
    generalize upd Hp2 p3 (.lst ([V.bl (decide (0 = j)), V.bl (decide (1 = j)), V.bl (decide (2 = j)), V.bl (decide (3 = j))] ++ [V.bl (decide (4 = j)), V.bl (decide (5 = j)), V.bl (decide (6 = j))])) = Hp3 at sp3 ep3 h ⊢
    refine ⟨.ref p3, rfl, ?_⟩
    refine ⟨.ref a, rfl, ?_⟩
    dsimp only [tCons, tC, tNil]
    refine isi_own T.er hj 7 (by decide) h ?_
    refine ⟨.ref a, rfl, ?_⟩
    dsimp only [tCons, tC, tNil]
    refine isi_own T.er hj 8 (by decide) h ?_
    refine ⟨.ref a, rfl, ?_⟩
    dsimp only [tCons, tC, tNil]
    refine isi_own T.er hj 9 (by decide) h ?_
    refine ⟨.ref a, rfl, ?_⟩
    dsimp only [tCons, tC, tNil]
    refine isi_own T.er hj 10 (by decide) h ?_
    refine ⟨(by show 4 ≤ sizeLine; decide), fun p4 np4 => ?_⟩
    have sp4 := same_new (o := .lst ([V.bl (decide (7 = j)), V.bl (decide (8 = j)), V.bl (decide (9 = j)), V.bl (decide (10 = j))] : List V)) np4
    have ep4 : (upd Hp3 p4 (.lst ([V.bl (decide (7 = j)), V.bl (decide (8 = j)), V.bl (decide (9 = j)), V.bl (decide (10 = j))] : List V))) p4 = some (.lst [V.bl (decide (7 = j)), V.bl (decide (8 = j)), V.bl (decide (9 = j)), V.bl (decide (10 = j))]) := upd_same
    have h := h.same sp4
    generalize upd Hp3 p4 (.lst ([V.bl (decide (7 = j)), V.bl (decide (8 = j)), V.bl (decide (9 = j)), V.bl (decide (10 = j))] : List V)) = Hp4 at sp4 ep4 h ⊢
    refine ⟨p3, p4, _, _, rfl, rfl, (sp4 _ _ ep3), ep4, (by show 7 + 4 ≤ sizeLine; decide), fun p5 np5 => ?_⟩
    have sp5 := same_new (o := .lst (([V.bl (decide (0 = j)), V.bl (decide (1 = j)), V.bl (decide (2 = j)), V.bl (decide (3 = j))] ++ [V.bl (decide (4 = j)), V.bl (decide (5 = j)), V.bl (decide (6 = j))]) ++ [V.bl (decide (7 = j)), V.bl (decide (8 = j)), V.bl (decide (9 = j)), V.bl (decide (10 = j))])) np5
    have ep5 : (upd Hp4 p5 (.lst (([V.bl (decide (0 = j)), V.bl (decide (1 = j)), V.bl (decide (2 = j)), V.bl (decide (3 = j))] ++ [V.bl (decide (4 = j)), V.bl (decide (5 = j)), V.bl (decide (6 = j))]) ++ [V.bl (decide (7 = j)), V.bl (decide (8 = j)), V.bl (decide (9 = j)), V.bl (decide (10 = j))]))) p5 = some (.lst (([V.bl (decide (0 = j)), V.bl (decide (1 = j)), V.bl (decide (2 = j)), V.bl (decide (3 = j))] ++ [V.bl (decide (4 = j)), V.bl (decide (5 = j)), V.bl (decide (6 = j))]) ++ [V.bl (decide (7 = j)), V.bl (decide (8 = j)), V.bl (decide (9 = j)), V.bl (decide (10 = j))])) := upd_same
    have hk := h.same sp5
    have s05 := (((((Same.trans sp1 sp2).trans sp3).trans sp4).trans sp5))
    have n05 : H p5 = none := ((((Same.trans sp1 sp2).trans sp3).trans sp4)).free np5
    generalize upd Hp4 p5 (.lst (([V.bl (decide (0 = j)), V.bl (decide (1 = j)), V.bl (decide (2 = j)), V.bl (decide (3 = j))] ++ [V.bl (decide (4 = j)), V.bl (decide (5 = j)), V.bl (decide (6 = j))]) ++ [V.bl (decide (7 = j)), V.bl (decide (8 = j)), V.bl (decide (9 = j)), V.bl (decide (10 = j))])) = Hp5 at sp5 ep5 hk s05 ⊢
    have h := hk
    refine ⟨.ref p5, rfl, .inl ⟨rfl, _, SqL.of ep5⟩, ?_⟩
    refine ⟨.ref a, rfl, ?_⟩
    dsimp only [tCons, tC, tNil]
    refine isi_own T.er hj 11 (by decide) h ?_
    refine ⟨p5, _, _, rfl, rfl, ep5, (by show 11 < sizeLine; decide), ?_⟩
    have s06 := same_mut (o := .lst ((([V.bl (decide (0 = j)), V.bl (decide (1 = j)), V.bl (decide (2 = j)), V.bl (decide (3 = j))] ++ [V.bl (decide (4 = j)), V.bl (decide (5 = j)), V.bl (decide (6 = j))]) ++ [V.bl (decide (7 = j)), V.bl (decide (8 = j)), V.bl (decide (9 = j)), V.bl (decide (10 = j))]) ++ [V.bl (decide (11 = j))])) s05 n05
    have e06 : (upd Hp5 p5 (.lst ((([V.bl (decide (0 = j)), V.bl (decide (1 = j)), V.bl (decide (2 = j)), V.bl (decide (3 = j))] ++ [V.bl (decide (4 = j)), V.bl (decide (5 = j)), V.bl (decide (6 = j))]) ++ [V.bl (decide (7 = j)), V.bl (decide (8 = j)), V.bl (decide (9 = j)), V.bl (decide (10 = j))]) ++ [V.bl (decide (11 = j))]))) p5 = some (.lst ((([V.bl (decide (0 = j)), V.bl (decide (1 = j)), V.bl (decide (2 = j)), V.bl (decide (3 = j))] ++ [V.bl (decide (4 = j)), V.bl (decide (5 = j)), V.bl (decide (6 = j))]) ++ [V.bl (decide (7 = j)), V.bl (decide (8 = j)), V.bl (decide (9 = j)), V.bl (decide (10 = j))]) ++ [V.bl (decide (11 = j))])) := upd_same
    have h := h0.same s06
    generalize upd Hp5 p5 (.lst ((([V.bl (decide (0 = j)), V.bl (decide (1 = j)), V.bl (decide (2 = j)), V.bl (decide (3 = j))] ++ [V.bl (decide (4 = j)), V.bl (decide (5 = j)), V.bl (decide (6 = j))]) ++ [V.bl (decide (7 = j)), V.bl (decide (8 = j)), V.bl (decide (9 = j)), V.bl (decide (10 = j))]) ++ [V.bl (decide (11 = j))])) = Hp6 at s06 e06 h ⊢
    refine ⟨.ref p5, rfl, ?_⟩
    refine ⟨.ref a, rfl, ?_⟩
    dsimp only [tCons, tC, tNil]
    refine isi_own T.er hj 12 (by decide) h ?_
    refine ⟨.ref a, rfl, ?_⟩
    dsimp only [tCons, tC, tNil]
    refine isi_own T.er hj 13 (by decide) h ?_
    refine ⟨.ref a, rfl, ?_⟩
    dsimp only [tCons, tC, tNil]
    refine isi_own T.er hj 14 (by decide) h ?_
    refine ⟨.ref a, rfl, ?_⟩
    dsimp only [tCons, tC, tNil]
    refine isi_own T.er hj 15 (by decide) h ?_
    refine ⟨(by show 4 ≤ sizeLine; decide), fun p7 np7 => ?_⟩
    have sp7 := same_new (o := .lst ([V.bl (decide (12 = j)), V.bl (decide (13 = j)), V.bl (decide (14 = j)), V.bl (decide (15 = j))] : List V)) np7
    have ep7 : (upd Hp6 p7 (.lst ([V.bl (decide (12 = j)), V.bl (decide (13 = j)), V.bl (decide (14 = j)), V.bl (decide (15 = j))] : List V))) p7 = some (.lst [V.bl (decide (12 = j)), V.bl (decide (13 = j)), V.bl (decide (14 = j)), V.bl (decide (15 = j))]) := upd_same
    have h := h.same sp7
    generalize upd Hp6 p7 (.lst ([V.bl (decide (12 = j)), V.bl (decide (13 = j)), V.bl (decide (14 = j)), V.bl (decide (15 = j))] : List V)) = Hp7 at sp7 ep7 h ⊢
    refine ⟨p5, p7, _, _, rfl, rfl, (sp7 _ _ e06), ep7, (by show 12 + 4 ≤ sizeLine; decide), fun p8 np8 => ?_⟩
    have sp8 := same_new (o := .lst (((([V.bl (decide (0 = j)), V.bl (decide (1 = j)), V.bl (decide (2 = j)), V.bl (decide (3 = j))] ++ [V.bl (decide (4 = j)), V.bl (decide (5 = j)), V.bl (decide (6 = j))]) ++ [V.bl (decide (7 = j)), V.bl (decide (8 = j)), V.bl (decide (9 = j)), V.bl (decide (10 = j))]) ++ [V.bl (decide (11 = j))]) ++ [V.bl (decide (12 = j)), V.bl (decide (13 = j)), V.bl (decide (14 = j)), V.bl (decide (15 = j))])) np8
    have ep8 : (upd Hp7 p8 (.lst (((([V.bl (decide (0 = j)), V.bl (decide (1 = j)), V.bl (decide (2 = j)), V.bl (decide (3 = j))] ++ [V.bl (decide (4 = j)), V.bl (decide (5 = j)), V.bl (decide (6 = j))]) ++ [V.bl (decide (7 = j)), V.bl (decide (8 = j)), V.bl (decide (9 = j)), V.bl (decide (10 = j))]) ++ [V.bl (decide (11 = j))]) ++ [V.bl (decide (12 = j)), V.bl (decide (13 = j)), V.bl (decide (14 = j)), V.bl (decide (15 = j))]))) p8 = some (.lst (((([V.bl (decide (0 = j)), V.bl (decide (1 = j)), V.bl (decide (2 = j)), V.bl (decide (3 = j))] ++ [V.bl (decide (4 = j)), V.bl (decide (5 = j)), V.bl (decide (6 = j))]) ++ [V.bl (decide (7 = j)), V.bl (decide (8 = j)), V.bl (decide (9 = j)), V.bl (decide (10 = j))]) ++ [V.bl (decide (11 = j))]) ++ [V.bl (decide (12 = j)), V.bl (decide (13 = j)), V.bl (decide (14 = j)), V.bl (decide (15 = j))])) := upd_same
    have h := h.same sp8
    generalize upd Hp7 p8 (.lst (((([V.bl (decide (0 = j)), V.bl (decide (1 = j)), V.bl (decide (2 = j)), V.bl (decide (3 = j))] ++ [V.bl (decide (4 = j)), V.bl (decide (5 = j)), V.bl (decide (6 = j))]) ++ [V.bl (decide (7 = j)), V.bl (decide (8 = j)), V.bl (decide (9 = j)), V.bl (decide (10 = j))]) ++ [V.bl (decide (11 = j))]) ++ [V.bl (decide (12 = j)), V.bl (decide (13 = j)), V.bl (decide (14 = j)), V.bl (decide (15 = j))])) = Hp8 at sp8 ep8 h ⊢
    refine ⟨.ref p8, rfl, ?_⟩
    refine ⟨.ref a, rfl, ?_⟩
    dsimp only [tCons, tC, tNil]
    refine isi_own T.er hj 16 (by decide) h ?_
    refine ⟨.ref a, rfl, ?_⟩
    dsimp only [tCons, tC, tNil]
    refine isi_own T.er hj 17 (by decide) h ?_
    refine ⟨(by show 2 ≤ sizeLine; decide), fun p9 np9 => ?_⟩
    have sp9 := same_new (o := .lst ([V.bl (decide (16 = j)), V.bl (decide (17 = j))] : List V)) np9
    have ep9 : (upd Hp8 p9 (.lst ([V.bl (decide (16 = j)), V.bl (decide (17 = j))] : List V))) p9 = some (.lst [V.bl (decide (16 = j)), V.bl (decide (17 = j))]) := upd_same
    have h := h.same sp9
    generalize upd Hp8 p9 (.lst ([V.bl (decide (16 = j)), V.bl (decide (17 = j))] : List V)) = Hp9 at sp9 ep9 h ⊢
    refine ⟨p8, p9, _, _, rfl, rfl, (sp9 _ _ ep8), ep9, (by show 16 + 2 ≤ sizeLine; decide), fun p10 np10 => ?_⟩
    exact q _ p10 (((s06.trans sp7).trans sp8).trans (sp9.trans (same_new np10))) upd_same
def basesOf (j : Nat) : List V := [.bl (decide (j < 16 ∨ j = 18)), .bl (decide (j < 16 ∨ j = 18)), .bl (decide (16 ≤ j ∧ j < 18)), .bl false, .bl false, .bl false]
def spBases (C : Nat → Addr) : Sp := fun vs H Q _ => ∃ (a : Addr) (j : Nat) (y : V), vs = [.ref a] ∧ j < 19 ∧ ErrAt C H a j y ∧ ∀ H' p, Same H H' → H' p = some (.lst (basesOf j)) → Q (.ref p) H'
theorem c_l_bases (T : TopE K mg C I) : C8.Cal P w K mg base 1 "_law_bases" (spBases C) [] := by
  refine cal_of T.d_l_bases sc_l_bases (fun _ _ _ _ _ _ us hl => match us, hl with | [_], _ => rfl) (fun vs H Q E h => ?_) (fun f cdv A outer s H vs Q E hr h => ?_)
  · obtain ⟨a, j, y, rfl, _⟩ := h
    rfl
  · obtain ⟨a, j, y, rfl, hj, h, q⟩ := h
    refine ⟨_, (pss_cons (ps_set (i := 1) sc_l_bases.nd rfl (Or.inl rfl) (pe_lst (pa_cons (pe_callB call_isv (by rfl) T.z_isinstance (by decide +kernel) (pa_cons (pv 0) (pa_cons (C8.pe_gc (by rfl) (T.cg 18 (by decide))) pa_nil))) (pa_cons (pe_callB call_isv (by rfl) T.z_isinstance (by decide +kernel) (pa_cons (pv 0) (pa_cons (pe_bltn (v := .ty "ValueError") (by rfl) T.z_ValueError (by decide +kernel) rfl) pa_nil))) (pa_cons (pe_callB call_isv (by rfl) T.z_isinstance (by decide +kernel) (pa_cons (pv 0) (pa_cons (pe_bltn (v := .ty "KeyError") (by rfl) T.z_KeyError (by decide +kernel) rfl) pa_nil))) pa_nil)))))
      (pss_one (ps_ret (pe_op op_cat (pv 1) (pe_lst (pa_cons (pe_callB call_isv (by rfl) T.z_isinstance (by decide +kernel) (pa_cons (pv 0) (pa_cons (pe_bltn (v := .ty "IndexError") (by rfl) T.z_IndexError (by decide +kernel) rfl) pa_nil))) (pa_cons (pe_callB call_isv (by rfl) T.z_isinstance (by decide +kernel) (pa_cons (pv 0) (pa_cons (pe_bltn (v := .ty "RuntimeError") (by rfl) T.z_RuntimeError (by decide +kernel) rfl) pa_nil))) (pa_cons (pe_callB call_isv (by rfl) T.z_isinstance (by decide +kernel) (pa_cons (pv 0) (pa_cons (pe_bltn (v := .ty "TypeError") (by rfl) T.z_TypeError (by decide +kernel) rfl) pa_nil))) pa_nil)))))))), ?_⟩
    refine ⟨.ref a, rfl, ?_⟩
    dsimp only [tCons, tC, tNil]
    refine isi_frk T.er hj h ?_
    refine ⟨.ref a, rfl, ?_⟩
    dsimp only [tCons, tC, tNil]
    refine isi_ty T.er hj (T.er.kitV j hj) h ?_
    refine ⟨.ref a, rfl, ?_⟩
    dsimp only [tCons, tC, tNil]
    refine isi_ty T.er hj (T.er.kitK j hj) h ?_
    refine ⟨(by show 3 ≤ sizeLine; decide), fun p1 np1 => ?_⟩
    have sp1 := same_new (o := .lst ([V.bl (decide (j < 16 ∨ j = 18)), V.bl (decide (j < 16 ∨ j = 18)), V.bl (decide (16 ≤ j ∧ j < 18))] : List V)) np1
    have ep1 : (upd H p1 (.lst ([V.bl (decide (j < 16 ∨ j = 18)), V.bl (decide (j < 16 ∨ j = 18)), V.bl (decide (16 ≤ j ∧ j < 18))] : List V))) p1 = some (.lst [V.bl (decide (j < 16 ∨ j = 18)), V.bl (decide (j < 16 ∨ j = 18)), V.bl (decide (16 ≤ j ∧ j < 18))]) := upd_same
    have h := h.same sp1
    generalize upd H p1 (.lst ([V.bl (decide (j < 16 ∨ j = 18)), V.bl (decide (j < 16 ∨ j = 18)), V.bl (decide (16 ≤ j ∧ j < 18))] : List V)) = Hp1 at sp1 ep1 h ⊢
    refine ⟨.ref p1, rfl, ?_⟩
    refine ⟨.ref a, rfl, ?_⟩
    dsimp only [tCons, tC, tNil]
    refine isi_ty T.er hj (T.er.kitI j hj) h ?_
    refine ⟨.ref a, rfl, ?_⟩
    dsimp only [tCons, tC, tNil]
    refine isi_ty T.er hj (T.er.kitR j hj) h ?_
    refine ⟨.ref a, rfl, ?_⟩
    dsimp only [tCons, tC, tNil]
    refine isi_ty T.er hj (T.er.kitT j hj) h ?_
    refine ⟨(by show 3 ≤ sizeLine; decide), fun p2 np2 => ?_⟩
    have sp2 := same_new (o := .lst ([V.bl false, V.bl false, V.bl false] : List V)) np2
    have ep2 : (upd Hp1 p2 (.lst ([V.bl false, V.bl false, V.bl false] : List V))) p2 = some (.lst [V.bl false, V.bl false, V.bl false]) := upd_same
    have h := h.same sp2
    generalize upd Hp1 p2 (.lst ([V.bl false, V.bl false, V.bl false] : List V)) = Hp2 at sp2 ep2 h ⊢
    refine ⟨p1, p2, _, _, rfl, rfl, (sp2 _ _ ep1), ep2, (by show 3 + 3 ≤ sizeLine; decide), fun p3 np3 => ?_⟩
    exact q _ p3 ((sp1.trans sp2).trans (same_new np3)) upd_same
def spMake (C : Nat → Addr) (lo hi : Nat) : Sp := fun vs H Q _ => ∃ (j : Nat) (y : V), vs = [.int j, y] ∧ lo ≤ j ∧ j < hi ∧ ∀ H' a, Same H H' → H a = none → ErrAt C H' a j y → Q (.ref a) H'
theorem eqI {A B : Prop} (j n : Nat) (h : j ≠ n) (b : B) : if decide (V.int (j : Nat) = V.int (n : Nat)) = true then A else B := ifF (fun z => h (by have := V.int.inj (of_decide_eq_true z); omega)) b
theorem c_l_plain (T : TopE K mg C I) : C8.Cal P w K mg base 3 "_law_plain" (spMake C 0 9) [] := by
  refine cal_of T.d_l_plain sc_l_plain (fun _ _ _ _ _ _ us hl => match us, hl with | [_, _], _ => rfl) (fun vs H Q E h => ?_) (fun f cdv A outer s H vs Q E hr h => ?_)
  · obtain ⟨j, y, rfl, _⟩ := h
    rfl
  · obtain ⟨j, y, rfl, h0, h1, q⟩ := h
    refine ⟨_, (pss_cons (ps_if (pt_cmpR op_eq (pv 0) pe_int (nomark _))
      (pss_one (ps_ret (mk_pos T.er 0 (by decide) (hr.mono (by decide)) (by rfl) (pa_cons (pv 1) pa_nil))))
      pss_nil)
      (pss_cons (ps_if (pt_cmpR op_eq (pv 0) pe_int (nomark _))
      (pss_one (ps_ret (mk_kw T.er 1 (by decide) (hr.mono (by decide)) (by rfl) (pk_cons (pv 1) pk_nil))))
      pss_nil)
      (pss_cons (ps_if (pt_cmpR op_eq (pv 0) pe_int (nomark _))
      (pss_one (ps_ret (mk_pos T.er 2 (by decide) (hr.mono (by decide)) (by rfl) (pa_cons (pv 1) pa_nil))))
      pss_nil)
      (pss_cons (ps_if (pt_cmpR op_eq (pv 0) pe_int (nomark _))
      (pss_one (ps_ret (mk_kw T.er 3 (by decide) (hr.mono (by decide)) (by rfl) (pk_cons (pv 1) pk_nil))))
      pss_nil)
      (pss_cons (ps_if (pt_cmpR op_eq (pv 0) pe_int (nomark _))
      (pss_one (ps_ret (mk_pos T.er 4 (by decide) (hr.mono (by decide)) (by rfl) (pa_cons (pv 1) pa_nil))))
      pss_nil)
      (pss_cons (ps_if (pt_cmpR op_eq (pv 0) pe_int (nomark _))
      (pss_one (ps_ret (mk_kw T.er 5 (by decide) (hr.mono (by decide)) (by rfl) (pk_cons (pv 1) pk_nil))))
      pss_nil)
      (pss_cons (ps_if (pt_cmpR op_eq (pv 0) pe_int (nomark _))
      (pss_one (ps_ret (mk_pos T.er 6 (by decide) (hr.mono (by decide)) (by rfl) (pa_cons (pv 1) pa_nil))))
      pss_nil)
      (pss_cons (ps_if (pt_cmpR op_eq (pv 0) pe_int (nomark _))
      (pss_one (ps_ret (mk_kw T.er 7 (by decide) (hr.mono (by decide)) (by rfl) (pk_cons (pv 1) pk_nil))))
      pss_nil)
      (pss_one (ps_ret (mk_pos T.er 8 (by decide) (hr.mono (by decide)) (by rfl) (pa_cons (pv 1) pa_nil)))))))))))), ?_⟩
    obtain rfl | rfl | rfl | rfl | rfl | rfl | rfl | rfl | rfl : j = 0 ∨ j = 1 ∨ j = 2 ∨ j = 3 ∨ j = 4 ∨ j = 5 ∨ j = 6 ∨ j = 7 ∨ j = 8 := by omega
    · refine ⟨.int 0, rfl, rfl, _, rfl, ifT (by decide) ?_⟩
      exact ⟨y, rfl, do_pos T.er (j := 0) (by decide) q⟩
    · refine ⟨.int 1, rfl, rfl, _, rfl, ifF (by decide) ?_⟩
      refine ⟨.int 1, rfl, rfl, _, rfl, ifT (by decide) ?_⟩
      exact ⟨y, rfl, do_kw T.er (j := 1) (by decide) q⟩
    · refine ⟨.int 2, rfl, rfl, _, rfl, ifF (by decide) ?_⟩
      refine ⟨.int 2, rfl, rfl, _, rfl, ifF (by decide) ?_⟩
      refine ⟨.int 2, rfl, rfl, _, rfl, ifT (by decide) ?_⟩
      exact ⟨y, rfl, do_pos T.er (j := 2) (by decide) q⟩
    · refine ⟨.int 3, rfl, rfl, _, rfl, ifF (by decide) ?_⟩
      refine ⟨.int 3, rfl, rfl, _, rfl, ifF (by decide) ?_⟩
      refine ⟨.int 3, rfl, rfl, _, rfl, ifF (by decide) ?_⟩
      refine ⟨.int 3, rfl, rfl, _, rfl, ifT (by decide) ?_⟩
      exact ⟨y, rfl, do_kw T.er (j := 3) (by decide) q⟩
    · refine ⟨.int 4, rfl, rfl, _, rfl, ifF (by decide) ?_⟩
      refine ⟨.int 4, rfl, rfl, _, rfl, ifF (by decide) ?_⟩
      refine ⟨.int 4, rfl, rfl, _, rfl, ifF (by decide) ?_⟩
      refine ⟨.int 4, rfl, rfl, _, rfl, ifF (by decide) ?_⟩
      refine ⟨.int 4, rfl, rfl, _, rfl, ifT (by decide) ?_⟩
      exact ⟨y, rfl, do_pos T.er (j := 4) (by decide) q⟩
    · refine ⟨.int 5, rfl, rfl, _, rfl, ifF (by decide) ?_⟩
      refine ⟨.int 5, rfl, rfl, _, rfl, ifF (by decide) ?_⟩
      refine ⟨.int 5, rfl, rfl, _, rfl, ifF (by decide) ?_⟩
      refine ⟨.int 5, rfl, rfl, _, rfl, ifF (by decide) ?_⟩
      refine ⟨.int 5, rfl, rfl, _, rfl, ifF (by decide) ?_⟩
      refine ⟨.int 5, rfl, rfl, _, rfl, ifT (by decide) ?_⟩
      exact ⟨y, rfl, do_kw T.er (j := 5) (by decide) q⟩
    · refine ⟨.int 6, rfl, rfl, _, rfl, ifF (by decide) ?_⟩
      refine ⟨.int 6, rfl, rfl, _, rfl, ifF (by decide) ?_⟩
      refine ⟨.int 6, rfl, rfl, _, rfl, ifF (by decide) ?_⟩
      refine ⟨.int 6, rfl, rfl, _, rfl, ifF (by decide) ?_⟩
      refine ⟨.int 6, rfl, rfl, _, rfl, ifF (by decide) ?_⟩
      refine ⟨.int 6, rfl, rfl, _, rfl, ifF (by decide) ?_⟩
      refine ⟨.int 6, rfl, rfl, _, rfl, ifT (by decide) ?_⟩
      exact ⟨y, rfl, do_pos T.er (j := 6) (by decide) q⟩
    · refine ⟨.int 7, rfl, rfl, _, rfl, ifF (by decide) ?_⟩
      refine ⟨.int 7, rfl, rfl, _, rfl, ifF (by decide) ?_⟩
      refine ⟨.int 7, rfl, rfl, _, rfl, ifF (by decide) ?_⟩
      refine ⟨.int 7, rfl, rfl, _, rfl, ifF (by decide) ?_⟩
      refine ⟨.int 7, rfl, rfl, _, rfl, ifF (by decide) ?_⟩
      refine ⟨.int 7, rfl, rfl, _, rfl, ifF (by decide) ?_⟩
      refine ⟨.int 7, rfl, rfl, _, rfl, ifF (by decide) ?_⟩
      refine ⟨.int 7, rfl, rfl, _, rfl, ifT (by decide) ?_⟩
      exact ⟨y, rfl, do_kw T.er (j := 7) (by decide) q⟩
    · refine ⟨.int 8, rfl, rfl, _, rfl, ifF (by decide) ?_⟩
      refine ⟨.int 8, rfl, rfl, _, rfl, ifF (by decide) ?_⟩
      refine ⟨.int 8, rfl, rfl, _, rfl, ifF (by decide) ?_⟩
      refine ⟨.int 8, rfl, rfl, _, rfl, ifF (by decide) ?_⟩
      refine ⟨.int 8, rfl, rfl, _, rfl, ifF (by decide) ?_⟩
      refine ⟨.int 8, rfl, rfl, _, rfl, ifF (by decide) ?_⟩
      refine ⟨.int 8, rfl, rfl, _, rfl, ifF (by decide) ?_⟩
      refine ⟨.int 8, rfl, rfl, _, rfl, ifF (by decide) ?_⟩
      exact ⟨y, rfl, do_pos T.er (j := 8) (by decide) q⟩
theorem c_l_fielded (T : TopE K mg C I) : C8.Cal P w K mg base 3 "_law_fielded" (spMake C 9 18) [] := by
  refine cal_of T.d_l_fielded sc_l_fielded (fun _ _ _ _ _ _ us hl => match us, hl with | [_, _], _ => rfl) (fun vs H Q E h => ?_) (fun f cdv A outer s H vs Q E hr h => ?_)
  · obtain ⟨j, y, rfl, _⟩ := h
    rfl
  · obtain ⟨j, y, rfl, h0, h1, q⟩ := h
    refine ⟨_, (pss_cons (ps_if (pt_cmpR op_eq (pv 0) pe_int (nomark _))
      (pss_one (ps_ret (mk_kw T.er 9 (by decide) (hr.mono (by decide)) (by rfl) (pk_cons (pv 1) pk_nil))))
      pss_nil)
      (pss_cons (ps_if (pt_cmpR op_eq (pv 0) pe_int (nomark _))
      (pss_one (ps_ret (mk_pos T.er 10 (by decide) (hr.mono (by decide)) (by rfl) (pa_cons (pv 1) pa_nil))))
      pss_nil)
      (pss_cons (ps_if (pt_cmpR op_eq (pv 0) pe_int (nomark _))
      (pss_one (ps_ret (mk_kw T.er 11 (by decide) (hr.mono (by decide)) (by rfl) (pk_cons (pv 1) pk_nil))))
      pss_nil)
      (pss_cons (ps_if (pt_cmpR op_eq (pv 0) pe_int (nomark _))
      (pss_one (ps_ret (mk_kw T.er 12 (by decide) (hr.mono (by decide)) (by rfl) (pk_cons (pv 1) pk_nil))))
      pss_nil)
      (pss_cons (ps_if (pt_cmpR op_eq (pv 0) pe_int (nomark _))
      (pss_one (ps_ret (mk_pos T.er 13 (by decide) (hr.mono (by decide)) (by rfl) (pa_cons (pv 1) pa_nil))))
      pss_nil)
      (pss_cons (ps_if (pt_cmpR op_eq (pv 0) pe_int (nomark _))
      (pss_one (ps_ret (mk_kw T.er 14 (by decide) (hr.mono (by decide)) (by rfl) (pk_cons (pv 1) pk_nil))))
      pss_nil)
      (pss_cons (ps_if (pt_cmpR op_eq (pv 0) pe_int (nomark _))
      (pss_one (ps_ret (mk_pos T.er 15 (by decide) (hr.mono (by decide)) (by rfl) (pa_cons (pv 1) pa_nil))))
      pss_nil)
      (pss_cons (ps_if (pt_cmpR op_eq (pv 0) pe_int (nomark _))
      (pss_one (ps_ret (mk_kw T.er 16 (by decide) (hr.mono (by decide)) (by rfl) (pk_cons (pv 1) pk_nil))))
      pss_nil)
      (pss_one (ps_ret (mk_pos T.er 17 (by decide) (hr.mono (by decide)) (by rfl) (pa_cons (pv 1) pa_nil)))))))))))), ?_⟩
    obtain rfl | rfl | rfl | rfl | rfl | rfl | rfl | rfl | rfl : j = 9 ∨ j = 10 ∨ j = 11 ∨ j = 12 ∨ j = 13 ∨ j = 14 ∨ j = 15 ∨ j = 16 ∨ j = 17 := by omega
    · refine ⟨.int 9, rfl, rfl, _, rfl, ifT (by decide) ?_⟩
      exact ⟨y, rfl, do_kw T.er (j := 9) (by decide) q⟩
    · refine ⟨.int 10, rfl, rfl, _, rfl, ifF (by decide) ?_⟩
      refine ⟨.int 10, rfl, rfl, _, rfl, ifT (by decide) ?_⟩
      exact ⟨y, rfl, do_pos T.er (j := 10) (by decide) q⟩
    · refine ⟨.int 11, rfl, rfl, _, rfl, ifF (by decide) ?_⟩
      refine ⟨.int 11, rfl, rfl, _, rfl, ifF (by decide) ?_⟩
      refine ⟨.int 11, rfl, rfl, _, rfl, ifT (by decide) ?_⟩
      exact ⟨y, rfl, do_kw T.er (j := 11) (by decide) q⟩
    · refine ⟨.int 12, rfl, rfl, _, rfl, ifF (by decide) ?_⟩
      refine ⟨.int 12, rfl, rfl, _, rfl, ifF (by decide) ?_⟩
      refine ⟨.int 12, rfl, rfl, _, rfl, ifF (by decide) ?_⟩
      refine ⟨.int 12, rfl, rfl, _, rfl, ifT (by decide) ?_⟩
      exact ⟨y, rfl, do_kw T.er (j := 12) (by decide) q⟩
    · refine ⟨.int 13, rfl, rfl, _, rfl, ifF (by decide) ?_⟩
      refine ⟨.int 13, rfl, rfl, _, rfl, ifF (by decide) ?_⟩
      refine ⟨.int 13, rfl, rfl, _, rfl, ifF (by decide) ?_⟩
      refine ⟨.int 13, rfl, rfl, _, rfl, ifF (by decide) ?_⟩
      refine ⟨.int 13, rfl, rfl, _, rfl, ifT (by decide) ?_⟩
      exact ⟨y, rfl, do_pos T.er (j := 13) (by decide) q⟩
    · refine ⟨.int 14, rfl, rfl, _, rfl, ifF (by decide) ?_⟩
      refine ⟨.int 14, rfl, rfl, _, rfl, ifF (by decide) ?_⟩
      refine ⟨.int 14, rfl, rfl, _, rfl, ifF (by decide) ?_⟩
      refine ⟨.int 14, rfl, rfl, _, rfl, ifF (by decide) ?_⟩
      refine ⟨.int 14, rfl, rfl, _, rfl, ifF (by decide) ?_⟩
      refine ⟨.int 14, rfl, rfl, _, rfl, ifT (by decide) ?_⟩
      exact ⟨y, rfl, do_kw T.er (j := 14) (by decide) q⟩
    · refine ⟨.int 15, rfl, rfl, _, rfl, ifF (by decide) ?_⟩
      refine ⟨.int 15, rfl, rfl, _, rfl, ifF (by decide) ?_⟩
      refine ⟨.int 15, rfl, rfl, _, rfl, ifF (by decide) ?_⟩
      refine ⟨.int 15, rfl, rfl, _, rfl, ifF (by decide) ?_⟩
      refine ⟨.int 15, rfl, rfl, _, rfl, ifF (by decide) ?_⟩
      refine ⟨.int 15, rfl, rfl, _, rfl, ifF (by decide) ?_⟩
      refine ⟨.int 15, rfl, rfl, _, rfl, ifT (by decide) ?_⟩
      exact ⟨y, rfl, do_pos T.er (j := 15) (by decide) q⟩
    · refine ⟨.int 16, rfl, rfl, _, rfl, ifF (by decide) ?_⟩
      refine ⟨.int 16, rfl, rfl, _, rfl, ifF (by decide) ?_⟩
      refine ⟨.int 16, rfl, rfl, _, rfl, ifF (by decide) ?_⟩
      refine ⟨.int 16, rfl, rfl, _, rfl, ifF (by decide) ?_⟩
      refine ⟨.int 16, rfl, rfl, _, rfl, ifF (by decide) ?_⟩
      refine ⟨.int 16, rfl, rfl, _, rfl, ifF (by decide) ?_⟩
      refine ⟨.int 16, rfl, rfl, _, rfl, ifF (by decide) ?_⟩
      refine ⟨.int 16, rfl, rfl, _, rfl, ifT (by decide) ?_⟩
      exact ⟨y, rfl, do_kw T.er (j := 16) (by decide) q⟩
    · refine ⟨.int 17, rfl, rfl, _, rfl, ifF (by decide) ?_⟩
      refine ⟨.int 17, rfl, rfl, _, rfl, ifF (by decide) ?_⟩
      refine ⟨.int 17, rfl, rfl, _, rfl, ifF (by decide) ?_⟩
      refine ⟨.int 17, rfl, rfl, _, rfl, ifF (by decide) ?_⟩
      refine ⟨.int 17, rfl, rfl, _, rfl, ifF (by decide) ?_⟩
      refine ⟨.int 17, rfl, rfl, _, rfl, ifF (by decide) ?_⟩
      refine ⟨.int 17, rfl, rfl, _, rfl, ifF (by decide) ?_⟩
      refine ⟨.int 17, rfl, rfl, _, rfl, ifF (by decide) ?_⟩
      exact ⟨y, rfl, do_pos T.er (j := 17) (by decide) q⟩
def spField (C : Nat → Addr) : Sp := fun vs H Q _ => ∃ (a : Addr) (j : Nat) (y : V), vs = [.ref a, .int j] ∧ j < 18 ∧ ErrAt C H a j y ∧ ∀ H', Same H H' → Q y H'
theorem read_f {K : PySem.W.Frag} {mg : Str → Option Value} (T : Er K mg C I) {j : Nat} (hj : j < 19) {H : Hp} {a : Addr} {y : V} {Q : VK} (h : ErrAt C H a j y) (q : Q y H) :
    ∃ (a' Cx fI d : Addr) (fs : List (Str × V)) (v : V), V.ref a = .ref a' ∧ XC K Cx fI ∧ PySem.W.findIn K (.ref Cx) (fieldOf j) = some none ∧ H a' = some (exo a' Cx (some d)) ∧ H d = some (exd d fs) ∧ fs.lookup (fieldOf j) = some v ∧ Q v H := by
  obtain ⟨d, h1, h2⟩ := h
  refine ⟨a, C j, I j, d, _, y, rfl, T.xc j hj, T.nf j hj, h1, h2, ?_, q⟩
  rw [lookup_put, if_pos rfl]
theorem c_l_field (T : TopE K mg C I) : C8.Cal P w K mg base 1 "_law_field" (spField C) [] := by
  refine cal_of T.d_l_field sc_l_field (fun _ _ _ _ _ _ us hl => match us, hl with | [_, _], _ => rfl) (fun vs H Q E h => ?_) (fun f cdv A outer s H vs Q E hr h => ?_)
  · obtain ⟨a, j, y, rfl, _⟩ := h
    rfl
  · obtain ⟨a, j, y, rfl, hj, h, q⟩ := h
    refine ⟨_, (pss_cons (ps_if (pt_cmpR op_lt (pv 1) pe_int (nomark _))
      (pss_one (ps_ret (pe_fv (pv 0))))
      pss_nil)
      (pss_cons (ps_if (pt_cmpR op_lt (pv 1) pe_int (nomark _))
      (pss_one (ps_ret (pe_fv (pv 0))))
      pss_nil)
      (pss_cons (ps_if (pt_cmpR op_eq (pv 1) pe_int (nomark _))
      (pss_one (ps_ret (pe_fv (pv 0))))
      pss_nil)
      (pss_cons (ps_if (pt_cmpR op_in_seq (pv 1) (pe_tup (pa_cons pe_int (pa_cons pe_int pa_nil))) rfl)
      (pss_one (ps_ret (pe_fv (pv 0))))
      pss_nil)
      (pss_one (ps_ret (pe_fv (pv 0)))))))), ?_⟩
    obtain rfl | rfl | rfl | rfl | rfl | rfl | rfl | rfl | rfl | rfl | rfl | rfl | rfl | rfl | rfl | rfl | rfl | rfl : j = 0 ∨ j = 1 ∨ j = 2 ∨ j = 3 ∨ j = 4 ∨ j = 5 ∨ j = 6 ∨ j = 7 ∨ j = 8 ∨ j = 9 ∨ j = 10 ∨ j = 11 ∨ j = 12 ∨ j = 13 ∨ j = 14 ∨ j = 15 ∨ j = 16 ∨ j = 17 := by omega
    · refine ⟨.int 0, rfl, _, _, rfl, rfl, _, rfl, ifT (by decide) ?_⟩
      exact ⟨.ref a, rfl, read_f T.er (j := 0) (by decide) h (q _ (Same.refl H))⟩
    · refine ⟨.int 1, rfl, _, _, rfl, rfl, _, rfl, ifT (by decide) ?_⟩
      exact ⟨.ref a, rfl, read_f T.er (j := 1) (by decide) h (q _ (Same.refl H))⟩
    · refine ⟨.int 2, rfl, _, _, rfl, rfl, _, rfl, ifT (by decide) ?_⟩
      exact ⟨.ref a, rfl, read_f T.er (j := 2) (by decide) h (q _ (Same.refl H))⟩
    · refine ⟨.int 3, rfl, _, _, rfl, rfl, _, rfl, ifT (by decide) ?_⟩
      exact ⟨.ref a, rfl, read_f T.er (j := 3) (by decide) h (q _ (Same.refl H))⟩
    · refine ⟨.int 4, rfl, _, _, rfl, rfl, _, rfl, ifT (by decide) ?_⟩
      exact ⟨.ref a, rfl, read_f T.er (j := 4) (by decide) h (q _ (Same.refl H))⟩
    · refine ⟨.int 5, rfl, _, _, rfl, rfl, _, rfl, ifT (by decide) ?_⟩
      exact ⟨.ref a, rfl, read_f T.er (j := 5) (by decide) h (q _ (Same.refl H))⟩
    · refine ⟨.int 6, rfl, _, _, rfl, rfl, _, rfl, ifT (by decide) ?_⟩
      exact ⟨.ref a, rfl, read_f T.er (j := 6) (by decide) h (q _ (Same.refl H))⟩
    · refine ⟨.int 7, rfl, _, _, rfl, rfl, _, rfl, ifT (by decide) ?_⟩
      exact ⟨.ref a, rfl, read_f T.er (j := 7) (by decide) h (q _ (Same.refl H))⟩
    · refine ⟨.int 8, rfl, _, _, rfl, rfl, _, rfl, ifT (by decide) ?_⟩
      exact ⟨.ref a, rfl, read_f T.er (j := 8) (by decide) h (q _ (Same.refl H))⟩
    · refine ⟨.int 9, rfl, _, _, rfl, rfl, _, rfl, ifF (by decide) ?_⟩
      refine ⟨.int 9, rfl, _, _, rfl, rfl, _, rfl, ifT (by decide) ?_⟩
      exact ⟨.ref a, rfl, read_f T.er (j := 9) (by decide) h (q _ (Same.refl H))⟩
    · refine ⟨.int 10, rfl, _, _, rfl, rfl, _, rfl, ifF (by decide) ?_⟩
      refine ⟨.int 10, rfl, _, _, rfl, rfl, _, rfl, ifT (by decide) ?_⟩
      exact ⟨.ref a, rfl, read_f T.er (j := 10) (by decide) h (q _ (Same.refl H))⟩
    · refine ⟨.int 11, rfl, _, _, rfl, rfl, _, rfl, ifF (by decide) ?_⟩
      refine ⟨.int 11, rfl, _, _, rfl, rfl, _, rfl, ifT (by decide) ?_⟩
      exact ⟨.ref a, rfl, read_f T.er (j := 11) (by decide) h (q _ (Same.refl H))⟩
    · refine ⟨.int 12, rfl, _, _, rfl, rfl, _, rfl, ifF (by decide) ?_⟩
      refine ⟨.int 12, rfl, _, _, rfl, rfl, _, rfl, ifF (by decide) ?_⟩
      refine ⟨.int 12, rfl, rfl, _, rfl, ifF (by decide) ?_⟩
      refine ⟨.int 12, rfl, (by show 2 ≤ sizeLine; decide), fun p np => ⟨p, _, rfl, .inr (SqT.of upd_same), rfl, rfl, _, rfl, ifF (by decide) ?_⟩⟩
      exact ⟨.ref a, rfl, read_f T.er (j := 12) (by decide) (h.same (same_new np)) (q _ (same_new np))⟩
    · refine ⟨.int 13, rfl, _, _, rfl, rfl, _, rfl, ifF (by decide) ?_⟩
      refine ⟨.int 13, rfl, _, _, rfl, rfl, _, rfl, ifF (by decide) ?_⟩
      refine ⟨.int 13, rfl, rfl, _, rfl, ifT (by decide) ?_⟩
      exact ⟨.ref a, rfl, read_f T.er (j := 13) (by decide) h (q _ (Same.refl H))⟩
    · refine ⟨.int 14, rfl, _, _, rfl, rfl, _, rfl, ifF (by decide) ?_⟩
      refine ⟨.int 14, rfl, _, _, rfl, rfl, _, rfl, ifF (by decide) ?_⟩
      refine ⟨.int 14, rfl, rfl, _, rfl, ifF (by decide) ?_⟩
      refine ⟨.int 14, rfl, (by show 2 ≤ sizeLine; decide), fun p np => ⟨p, _, rfl, .inr (SqT.of upd_same), rfl, rfl, _, rfl, ifT (by decide) ?_⟩⟩
      exact ⟨.ref a, rfl, read_f T.er (j := 14) (by decide) (h.same (same_new np)) (q _ (same_new np))⟩
    · refine ⟨.int 15, rfl, _, _, rfl, rfl, _, rfl, ifF (by decide) ?_⟩
      refine ⟨.int 15, rfl, _, _, rfl, rfl, _, rfl, ifF (by decide) ?_⟩
      refine ⟨.int 15, rfl, rfl, _, rfl, ifF (by decide) ?_⟩
      refine ⟨.int 15, rfl, (by show 2 ≤ sizeLine; decide), fun p np => ⟨p, _, rfl, .inr (SqT.of upd_same), rfl, rfl, _, rfl, ifT (by decide) ?_⟩⟩
      exact ⟨.ref a, rfl, read_f T.er (j := 15) (by decide) (h.same (same_new np)) (q _ (same_new np))⟩
    · refine ⟨.int 16, rfl, _, _, rfl, rfl, _, rfl, ifF (by decide) ?_⟩
      refine ⟨.int 16, rfl, _, _, rfl, rfl, _, rfl, ifF (by decide) ?_⟩
      refine ⟨.int 16, rfl, rfl, _, rfl, ifF (by decide) ?_⟩
      refine ⟨.int 16, rfl, (by show 2 ≤ sizeLine; decide), fun p np => ⟨p, _, rfl, .inr (SqT.of upd_same), rfl, rfl, _, rfl, ifF (by decide) ?_⟩⟩
      exact ⟨.ref a, rfl, read_f T.er (j := 16) (by decide) (h.same (same_new np)) (q _ (same_new np))⟩
    · refine ⟨.int 17, rfl, _, _, rfl, rfl, _, rfl, ifF (by decide) ?_⟩
      refine ⟨.int 17, rfl, _, _, rfl, rfl, _, rfl, ifF (by decide) ?_⟩
      refine ⟨.int 17, rfl, rfl, _, rfl, ifF (by decide) ?_⟩
      refine ⟨.int 17, rfl, (by show 2 ≤ sizeLine; decide), fun p np => ⟨p, _, rfl, .inr (SqT.of upd_same), rfl, rfl, _, rfl, ifF (by decide) ?_⟩⟩
      exact ⟨.ref a, rfl, read_f T.er (j := 17) (by decide) (h.same (same_new np)) (q _ (same_new np))⟩
end

section
variable {P : Program} {w : World} {K : PySem.W.Frag} {mg : Str → Option Value} {base : Heap} {C I : Nat → Addr}
theorem do_rs {K : PySem.W.Frag} {mg : Str → Option Value} (T : Er K mg C I) {j : Nat} (hj : j < 19) {H : Hp} {y : V} {Q : XK} (q : ∀ H' d, Same H H' → H' d = some (.xd [(fieldOf j, y)]) → Q (.ref (C j)) (some d) H') :
    [y].length ≤ 1000 ∧ ∀ a, H a = none → spErr K (fieldOf j) (.ref a :: ([y] ++ [])) (upd H a (exo a (C j) none)) (fun v H2 => v = .non ∧ ∃ (d : Addr) (fs : List (Str × V)), H2 a = some (exo a (C j) (some d)) ∧ H2 d = some (exd d fs) ∧ H d = none ∧ Q (.ref (C j)) (some d) (upd (del H2 a) d (.xd fs))) (fun _ _ _ => False) := by
  refine ⟨(by show 1 ≤ 1000; decide), fun a na => ⟨a, C j, I j, y, rfl, T.xc j hj, T.nf j hj, upd_same, fun dx nd ne => ⟨rfl, dx, [(fieldOf j, y)], upd_same, ?_, ?_, q _ dx (fun b u hb => ?_) upd_same⟩⟩⟩
  · rw [upd_ne ne]
    exact upd_same
  · rw [upd_ne ne] at nd
    exact nd
  · rw [upd_ne ne] at nd
    have n1 : b ≠ a := ne_of_none hb na
    have n2 : b ≠ dx := ne_of_none hb nd
    rw [upd_ne n2, del_ne n1, upd_ne n1, upd_ne n2, upd_ne n1]
    exact hb
theorem kit3 {K : PySem.W.Frag} {mg : Str → Option Value} (T : Er K mg C I) {j : Nat} (h : j = 10 ∨ j = 13 ∨ j = 15) : PySem.W.kitAny K (.ref (C j)) [.ref (C 13), .ref (C 10), .ref (C 15)] = some true := by
  obtain rfl | rfl | rfl := h
  · exact kitAny_cons (b := false) (T.kit 10 13 (by decide) (by decide)) (fun _ => kitAny_cons (b := true) (T.kit 10 10 (by decide) (by decide)) (fun z => Bool.noConfusion z) (fun _ => rfl)) (fun z => Bool.noConfusion z)
  · exact kitAny_cons (b := true) (T.kit 13 13 (by decide) (by decide)) (fun z => Bool.noConfusion z) (fun _ => rfl)
  · exact kitAny_cons (b := false) (T.kit 15 13 (by decide) (by decide)) (fun _ => kitAny_cons (b := false) (T.kit 15 10 (by decide) (by decide)) (fun _ => kitAny_cons (b := true) (T.kit 15 15 (by decide) (by decide)) (fun z => Bool.noConfusion z) (fun _ => rfl)) (fun z => Bool.noConfusion z)) (fun z => Bool.noConfusion z)
theorem isi3 {K : PySem.W.Frag} {mg : Str → Option Value} (T : Er K mg C I) {j : Nat} (h : j = 10 ∨ j = 13 ∨ j = 15) {H : Hp} {a tp d : Addr} {fs : List (Str × V)} {Q : VK} (hd : H d = some (.xd fs)) (ht : H tp = some (.tup [V.ref (C 13), V.ref (C 10), V.ref (C 15)])) (q : Q (.bl true) H) :
    rIsS K a (.ref (C j)) (some d) [.ref a, .ref tp] H Q :=
  ⟨C j, I j, tp, d, fs, _, _, true, rfl, rfl, rfl, T.xc j (by omega), hd, ht, .cons (.own _) (.cons (.own _) (.cons (.own _) .nil)), kit3 T h, q⟩
theorem isvK {X : Cx} {K : PySem.W.Frag} (h : X.K = K) : CallR X (.builtin "isinstance") (rIsV K) := by
  subst h
  exact call_isv
theorem isSK {X : Cx} {K : PySem.W.Frag} (h : X.K = K) {a : Addr} {oe : Obj} {cls : Value} {d : Option Addr} {pn : List (Addr × Obj)} (hz : Zc cls d oe) (hf : ∃ vs, oe.data = .fields vs) : CallR (X.suite a ((a, oe) :: pn)) (.builtin "isinstance") (rIsS K a cls d) := by
  subst h
  exact call_isS hz hf
theorem fvK {X : Cx} {K : PySem.W.Frag} (h : X.K = K) {e : Expr} {te : TE} {f : Str} {pos : Pos} (he : PE X e te) (hb : attributeBase e f X.env (eval e X.env) = eval e X.env := by rfl) : PE X (.Attribute e f pos) (tFv K f te) := by
  subst h
  exact pe_fv he hb
theorem rsK {X : Cx} {K : PySem.W.Frag} (h : X.K = K) {t : TA} {e : Expr} {es : List Expr} {p pos : Pos} (T : Er K X.mg C I) (j : Nat) (hj : j = 10 ∨ j = 13 ∨ j = 15) (hr : Room 2 X.A) (hg : Gl X (nameOf j)) (ha : PA X (e :: es) t) (hdb : ((nameOf j) == ("__debug__" : Str)) = false := by decide)
    (he : starEach (e :: es) X.env = (false, eval e X.env) :: starEach es X.env := by rfl) (hpl : (backTo pos (starEach es X.env)).any (·.1) = false := by rfl) :
    PMk X (.Call (.Name (nameOf j) p) (e :: es) [] pos) (tMkO (C j) (spErr K (fieldOf j)) [] t) := by
  subst h
  exact rs_pos T j hj hr hg ha hdb he hpl
def spCatch (C : Nat → Addr) : Sp := fun vs H Q _ => ∃ (a : Addr) (j : Nat) (y : V), vs = [.ref a] ∧ j < 18 ∧ ErrAt C H a j y ∧ ∀ H', Same H H' → Q (.bl true) H'
theorem c_l_catches (T : TopE K mg C I) : C8.Cal P w K mg base 3 "_law_catches" (spCatch C) [] := by
  refine cal_of T.d_l_catches sc_l_catches (fun _ _ _ _ _ _ us hl => match us, hl with | [_], _ => rfl) (fun vs H Q E h => ?_) (fun f cdv A outer s H vs Q E hr h => ?_)
  · obtain ⟨a, j, y, rfl, _⟩ := h
    rfl
  · obtain ⟨a, j, y, rfl, hj, h, q⟩ := h
    refine' ⟨_, (pss_cons (ps_try_as (i := 1) rfl rfl sc_l_catches.nd rfl rfl ⟨rfl, by decide, .inl (T.er.mgc 18 (by decide))⟩ takes0 (fun W pn xe tk _ => ?B) (fun a oe cls d pn hz hf => ?S)) (pss_one (ps_ret pe_bl))), ?_⟩
    case B =>
      exact (pss_cons (ps_if (pt_val (pe_callB (isvK (K := K) rfl) (by rfl) T.z_isinstance (by decide +kernel) (pa_cons (pv 0) (pa_cons (C8.pe_gc (by rfl) (T.cg 13 (by decide))) pa_nil))))
        (pss_one (ps_raise rfl tk (rsK (K := K) rfl T.er 13 (by decide) (hr.mono (by decide)) (by rfl) (pa_cons (fvK (K := K) rfl (pv 0)) pa_nil))))
        pss_nil)
        (pss_cons (ps_if (pt_val (pe_callB (isvK (K := K) rfl) (by rfl) T.z_isinstance (by decide +kernel) (pa_cons (pv 0) (pa_cons (C8.pe_gc (by rfl) (T.cg 10 (by decide))) pa_nil))))
        (pss_one (ps_raise rfl tk (rsK (K := K) rfl T.er 10 (by decide) (hr.mono (by decide)) (by rfl) (pa_cons (fvK (K := K) rfl (pv 0)) pa_nil))))
        pss_nil)
        (pss_one (ps_raise rfl tk (rsK (K := K) rfl T.er 15 (by decide) (hr.mono (by decide)) (by rfl) (pa_cons pe_str pa_nil))))))
    case S => exact (pss_one (ps_ret (pe_callB (isSK (K := K) rfl hz hf) (by rfl) T.z_isinstance (by decide +kernel) (pa_cons (pv 1) (pa_cons (pe_tup (pa_cons (C8.pe_gc (by rfl) (T.cg 13 (by decide))) (pa_cons (C8.pe_gc (by rfl) (T.cg 10 (by decide))) (pa_cons (C8.pe_gc (by rfl) (T.cg 15 (by decide))) pa_nil)))) pa_nil)))))
    refine ⟨.ref a, rfl, ?_⟩
    dsimp only [tCons, tC, tNil]
    refine isi_own T.er (by omega) 13 (by decide) h ?_
    refine ⟨_, rfl, ?_⟩
    by_cases h13 : j = 13
    · subst h13
      refine iteT ?_
      refine ⟨.ref a, rfl, read_f T.er (j := 13) (by decide) h ?_⟩
      show _ ∧ _
      refine do_rs T.er (j := 13) (by decide) (Q := fun cls d H' => wAs K (.ref (C 18)) 1 _ _ _ cls d _ H') (fun H' d s' hd => ?_)
      refine ⟨true, (T.er.ox 13 (by decide)).2, fun _ a2 na => ?_, fun z => Bool.noConfusion z⟩
      refine ⟨.ref a2, rfl, (by show 3 ≤ sizeLine; decide), fun p hp => isi3 T.er (by decide) ((same_new hp) _ _ hd) upd_same (q _ (s'.trans (same_new hp)))⟩
    rw [show decide (13 = j) = false from decide_eq_false fun z => h13 z.symm]
    refine iteF ?_
    refine ⟨.ref a, rfl, ?_⟩
    dsimp only [tCons, tC, tNil]
    refine isi_own T.er (by omega) 10 (by decide) h ?_
    refine ⟨_, rfl, ?_⟩
    by_cases h10 : j = 10
    · subst h10
      refine iteT ?_
      refine ⟨.ref a, rfl, read_f T.er (j := 10) (by decide) h ?_⟩
      show _ ∧ _
      refine do_rs T.er (j := 10) (by decide) (Q := fun cls d H' => wAs K (.ref (C 18)) 1 _ _ _ cls d _ H') (fun H' d s' hd => ?_)
      refine ⟨true, (T.er.ox 10 (by decide)).2, fun _ a2 na => ?_, fun z => Bool.noConfusion z⟩
      refine ⟨.ref a2, rfl, (by show 3 ≤ sizeLine; decide), fun p hp => isi3 T.er (by decide) ((same_new hp) _ _ hd) upd_same (q _ (s'.trans (same_new hp)))⟩
    rw [show decide (10 = j) = false from decide_eq_false fun z => h10 z.symm]
    refine iteF ?_
    show _ ∧ _
    refine do_rs T.er (j := 15) (by decide) (Q := fun cls d H' => wAs K (.ref (C 18)) 1 _ _ _ cls d _ H') (fun H' d s' hd => ?_)
    refine ⟨true, (T.er.ox 15 (by decide)).2, fun _ a2 na => ?_, fun z => Bool.noConfusion z⟩
    refine ⟨.ref a2, rfl, (by show 3 ≤ sizeLine; decide), fun p hp => isi3 T.er (by decide) ((same_new hp) _ _ hd) upd_same (q _ (s'.trans (same_new hp)))⟩
end

end Fk

set_option maxHeartbeats 4000000
namespace Fk
open PySem PySem.Spec PyProof.Rows L2
section
variable {P : Program} {w : World} {K : PySem.W.Frag} {mg : Str → Option Value} {base : Heap} {C I : Nat → Addr}
def spLaw (K : PySem.W.Frag) : Sp := fun vs H Q _ => ∃ (a : Addr) (ns : List Int), vs = [.ref a] ∧ SqL K H a (ns.map V.int) ∧ ns.length ≤ 63 ∧ ∀ H', Q (.bl true) H'
theorem cells_int {v : Int} {ns : List Int} {lo hi : Option Int} {x : V} (h : x ∈ [V.int v] ++ cutV (ns.map V.int) lo hi) : ∃ n, x = .int n := by
  rcases List.mem_append.mp h with h | h
  · exact ⟨v, List.mem_singleton.mp h⟩
  · unfold cutV at h
    obtain ⟨n, _, rfl⟩ := List.mem_map.mp (List.mem_of_mem_drop (List.mem_of_mem_take h))
    exact ⟨n, rfl⟩
theorem is_text {K : PySem.W.Frag} {H : Hp} {x : Str} {Q : VK} (h : Q (.bl true) H) : rIsi K [.str x, .ty "str"] H Q :=
  ⟨_, _, .type "str", .type "str", true, rfl, .ty "str", .base (.str x), kit_ty (by decide +kernel), h⟩
/-- what an error's field may hold -/
inductive Th2 (H : Hp) : V → Prop
  | str (x : Str) : OkS x → Th2 H (.str x)
  | int (i : Int) : Th2 H (.int i)
  | non : Th2 H .non
  | tup (p : Addr) : H p = some (.tup [.str "a", .str "b"]) → Th2 H (.ref p)
theorem Th2.same {H H' : Hp} {v : V} (t : Th2 H v) (s : Same H H') : Th2 H' v := by
  cases t with
  | str x h => exact .str x h
  | int i => exact .int i
  | non => exact .non
  | tup p h => exact .tup p (s _ _ h)
theorem ok_a : OkS "a" := ok_by (by decide +kernel)
theorem ok_b : OkS "b" := ok_by (by decide +kernel)
theorem ok_e : OkS "" := ok_by (by decide +kernel)
theorem Th2.data {K : PySem.W.Frag} {H : Hp} {v : V} (t : Th2 H v) : ∃ d, Dp K H v d ∧ SeqAt.shaped d = true := by
  cases t with
  | str x h => exact ⟨_, .str x, by simp [SeqAt.shaped, PyData.canLay0, PyData.depth, strOk_of h]⟩
  | int i => exact ⟨_, .int i, by simp [SeqAt.shaped, PyData.canLay0, PyData.depth]⟩
  | non => exact ⟨_, .non, by simp [SeqAt.shaped, PyData.canLay0, PyData.depth]⟩
  | tup p h => exact ⟨_, .tup (.inl (.inl h)) (.cons (.str _) (.cons (.str _) .nil)), by simp [SeqAt.shaped, PyData.canLay0, PyData.canLayAll0, PyData.depth, PyData.depthAll, strOk_of ok_a, strOk_of ok_b]⟩
theorem lay_of {d : PyData} (h : SeqAt.shaped d = true) : d.canLay0 = true := (Bool.and_eq_true_iff.mp h).1
theorem ne_self {K : PySem.W.Frag} {H : Hp} {v : V} {Q : VK} (t : Th2 H v) (q : Q (.bl false) H) : rNeD K v v H Q := by
  obtain ⟨d, h, s⟩ := t.data (K := K)
  refine ⟨d, d, h, h, s, s, ?_⟩
  rw [SeqAt.eqv_refl d (lay_of s)]
  exact q
theorem dp_bls {K : PySem.W.Frag} {H : Hp} : ∀ ys : List Bool, DpAll K H (ys.map V.bl) (ys.map PyData.bool)
  | [] => .nil
  | y :: r => .cons (.bl y) (dp_bls r)
theorem lay_bls : ∀ ys : List Bool, PyData.canLayAll0 (ys.map PyData.bool) = true
  | [] => rfl
  | y :: r => by simp [PyData.canLayAll0, PyData.canLay0, lay_bls r]
theorem depth_bls : ∀ ys : List Bool, PyData.depthAll (ys.map PyData.bool) = 0
  | [] => rfl
  | _ :: r => by simp [PyData.depthAll, PyData.depth, depth_bls r]
theorem shaped_bls (ys : List Bool) : SeqAt.shaped (.list (ys.map PyData.bool)) = true := by
  simp [SeqAt.shaped, PyData.canLay0, PyData.depth, lay_bls ys, depth_bls]
theorem bls_ne {K : PySem.W.Frag} {H : Hp} {p q : Addr} {ys : List Bool} {Q : VK} (hp : H p = some (.lst (ys.map V.bl))) (hq : H q = some (.lst (ys.map V.bl))) (k : Q (.bl false) H) : rNeD K (.ref p) (.ref q) H Q := by
  refine ⟨_, _, .lst (SqL.of hp) (dp_bls ys), .lst (SqL.of hq) (dp_bls ys), shaped_bls ys, shaped_bls ys, ?_⟩
  rw [SeqAt.eqv_refl _ (lay_of (shaped_bls ys))]
  exact k
theorem bls_eq {K : PySem.W.Frag} {H : Hp} {p q : Addr} {ys : List Bool} {Q : VK} (hp : H p = some (.lst (ys.map V.bl))) (hq : H q = some (.lst (ys.map V.bl))) (k : Q (.bl true) H) : rEqD K (.ref p) (.ref q) H Q := by
  refine ⟨_, _, .lst (SqL.of hp) (dp_bls ys), .lst (SqL.of hq) (dp_bls ys), shaped_bls ys, shaped_bls ys, ?_⟩
  rw [SeqAt.eqv_refl _ (lay_of (shaped_bls ys))]
  exact k
theorem marks_bls (j : Nat) : marksOf j = ((List.range 18).map fun i => decide (i = j)).map V.bl := by
  unfold marksOf
  rw [List.map_map]
  rfl
theorem do_zero {K : PySem.W.Frag} {mg : Str → Option Value} (T : Er K mg C I) {j : Nat} (hj : j < 19) {H : Hp} {Q : VK} (q : ∀ H' a, Same H H' → H a = none → ErrAt C H' a j (.str "") → Q (.ref a) H') :
    ([] : List V).length ≤ 1000 ∧ ∀ a, H a = none → spErr K (fieldOf j) (.ref a :: ([] ++ [V.str ""])) (upd H a (exo a (C j) none)) (fun v H2 => v = .non ∧ Q (.ref a) H2) (fun _ _ _ => False) :=
  ⟨(by show 0 ≤ 1000; decide), fun a na => ⟨a, C j, I j, .str "", rfl, T.xc j hj, T.nf j hj, upd_same, fun dx nd ne => ⟨rfl, q _ a (made_err na nd ne).1 na (made_err na nd ne).2⟩⟩⟩
theorem at_zero {K : PySem.W.Frag} {mg : Str → Option Value} (T : Er K mg C I) {j : Nat} (hj : j < 19) {σ : L2.St} {H : Hp} {Q : VK} (q : ∀ H' a, Same H H' → H a = none → ErrAt C H' a j (.str "") → Q (.ref a) H') : tMkV (C j) (spErr K (fieldOf j)) [V.str ""] tNil σ H Q :=
  do_zero T hj q
theorem at_pos {K : PySem.W.Frag} {mg : Str → Option Value} (T : Er K mg C I) {j : Nat} (hj : j < 19) {x : V} {σ : L2.St} {H : Hp} {Q : VK} (q : ∀ H' a, Same H H' → H a = none → ErrAt C H' a j x → Q (.ref a) H') : tMkV (C j) (spErr K (fieldOf j)) [] (tCons (tC x) tNil) σ H Q :=
  do_pos T hj q
theorem at_kw {K : PySem.W.Frag} {mg : Str → Option Value} (T : Er K mg C I) {j : Nat} (hj : j < 19) {x : V} {σ : L2.St} {H : Hp} {Q : VK} (q : ∀ H' a, Same H H' → H a = none → ErrAt C H' a j x → Q (.ref a) H') : tMkVK (C j) 1 (spErr K (fieldOf j)) (tCons (tC x) tNil) σ H Q :=
  do_kw T hj q
theorem three {K : PySem.W.Frag} {mg : Str → Option Value} (T : Er K mg C I) {σ : L2.St} {H : Hp} {R : List V → Hp → Prop} (q : ∀ H' a1 a2 a3, ErrAt C H' a1 18 (.str "") → ErrAt C H' a2 0 (.str "") → ErrAt C H' a3 7 (.str "") → R [.ref a1, .ref a2, .ref a3] H') :
    tCons (tMkV (C 18) (spErr K (fieldOf 18)) [V.str ""] tNil) (tCons (tMkV (C 0) (spErr K (fieldOf 0)) [V.str ""] tNil) (tCons (tMkV (C 7) (spErr K (fieldOf 7)) [V.str ""] tNil) tNil)) σ H R := by
  unfold tCons
  refine at_zero T (j := 18) (by decide) (fun Ha a1 sa na e1 => ?_)
  refine at_zero T (j := 0) (by decide) (fun Hb a2 sb nb e2 => ?_)
  refine at_zero T (j := 7) (by decide) (fun Hc a3 sc nc e3 => ?_)
  exact q Hc a1 a2 a3 ((e1.same sb).same sc) (e2.same sc) e3
theorem ok_law (T : TopE K mg C I) {f : Addr} {fd : FuncData} (F : C8.Fun K "law" "law" s_law f fd) : FnOk P w K mg base C8.CX0 4 f fd ["_law_script"] (spLaw K) := by
  refine C8.fn0 F sc_law (fun vs H Q E h => ?_) (fun cdv A outer s H vs Q E hr h => ?_)
  · obtain ⟨a, ns, rfl, _⟩ := h
    rfl
  · obtain ⟨a, ns, rfl, hS, hlen, q⟩ := h
    refine ⟨_, (C8.pss_cut (ps_for PassesOwn.never rfl (pi_list (pe_op op_cat (pe_lst (pa_cons (C8.pe_c (c_l_cell_at T.toTop) hr (by decide) (by rfl) (pa_cons (pv 0) (pa_cons pe_int pa_nil))) pa_nil)) (pe_slice sl_list (pv 0) (po_some pe_int) (po_some pe_int)))) (pg_name (i := 1) sc_law.nd rfl (Or.inl rfl))
      (pss_cons (ps_set (i := 2) sc_law.nd rfl (Or.inl rfl) (C8.pe_c (c_l_well T.toTop) hr (by decide) (by rfl) (pa_cons (pv 1) pa_nil)))
      (pss_one (ps_for PassesOwn.never rfl (pi_range1 (by rfl) T.z_range (pa_cons pe_int pa_nil)) (pg_name (i := 3) sc_law.nd rfl (Or.inr rfl))
      (pss_cons (ps_set (i := 4) sc_law.nd rfl (Or.inl rfl) (pe_lst (pa_cons (C8.pe_c (c_l_text T.toTop) hr (by decide) (by rfl) (pa_cons (pv 2) pa_nil)) (pa_cons pe_str (pa_cons pe_str (pa_cons (pe_op op_pow pe_int pe_int) (pa_cons pe_int (pa_cons pe_non (pa_cons (pe_tup (pa_cons pe_str (pa_cons pe_str pa_nil))) (pa_cons (C8.pe_c (c_l_id T.toTop) hr (by decide) (by rfl) (pa_cons (pv 2) pa_nil)) pa_nil))))))))))
      (pss_cons (ps_set (i := 5) sc_law.nd rfl (Or.inl rfl) (pe_ix ix_list (pe_lst (pa_cons (pe_ix ix_list (pv 4) (C8.pe_c (c_l_draw T.toTop) hr (by decide) (by rfl) (pa_cons (pv 2) (pa_cons pe_int pa_nil))) (fun _ _ => rfl)) (pa_cons (C8.pe_c (c_l_pick T.toTop) hr (by decide) (by rfl) (pa_cons (pv 2) (pa_cons (pv 4) pa_nil))) pa_nil))) (pe_callTy call_int1 (by rfl) T.z_int (by decide +kernel) (pa_cons (pe_cmpR op_gt (pv 3) pe_int (nomark _)) pa_nil)) (fun _ _ => rfl)))
      (C8.pss_cut (ps_if (pt_cmpR op_gt (pv 3) pe_int (nomark _))
      (pss_one (ps_set (i := 6) sc_law.nd rfl (Or.inl rfl) (C8.pe_c (c_l_fielded T) hr (by decide) (by rfl) (pa_cons (pv 3) (pa_cons (pv 5) pa_nil)))))
      (pss_one (ps_set (i := 6) sc_law.nd rfl (Or.inl rfl) (C8.pe_c (c_l_plain T) hr (by decide) (by rfl) (pa_cons (pv 3) (pa_cons (pv 5) pa_nil))))))
      (pss_cons (ps_if (pt_cmpR (op_neD hr.units) (C8.pe_c (c_l_marks T) hr (by decide) (by rfl) (pa_cons (pv 6) pa_nil)) (pe_lc (own := [("_law_k", 7)]) (g := gName 7) (by rfl) sc_law.nd (pi_range1 (by rfl) T.z_range (pa_cons pe_int pa_nil)) (blkOk_by (own := [("_law_k", 7)]) (N := ["_law_script", "_law_cell", "_law_well_here", "_law_way", "_law_some", "_law_thing", "_law_error", "_law_k", "_law_found", "_law_wanted", "_law_base"]) (sc := C8.fnScope s_law) (by decide +kernel)) (fun _ _ _ _ _ => (pg_name (i := 7) sc_law.nd rfl (Or.inl rfl))) (fun _ _ _ _ _ => pts_nil) (fun _ _ _ _ _ => (pe_cmpR op_eq (pv 7) (pv 3) (nomark _)))) (nomark _))
      (pss_one (ps_ret pe_bl))
      pss_nil)
      (pss_cons (ps_set (i := 8) sc_law.nd rfl (Or.inl rfl) (C8.pe_c (c_l_field T) hr (by decide) (by rfl) (pa_cons (pv 6) (pa_cons (pv 3) pa_nil))))
      (C8.pss_cut (ps_if (PW.pt (pw_or (PW.pt (pw_and (pt_cmpR op_gt (pv 3) pe_int (nomark _)) (pw_and1 (pt_cmpR (op_neD hr.units) (pv 8) (pv 5) (nomark _))))) (pw_or1 (PW.pt (pw_and (pt_cmpR op_lt (pv 3) pe_int (nomark _)) (pw_and1 (pt_not (pt_val (pe_callB call_isi (by rfl) T.z_isinstance (by decide +kernel) (pa_cons (pv 8) (pa_cons (pe_bltn (v := .ty "str") (by rfl) T.z_str (by decide +kernel) rfl) pa_nil)))))))))))
      (pss_one (ps_ret pe_bl))
      pss_nil)
      (pss_cons (ps_set (i := 9) sc_law.nd rfl (Or.inl rfl) (pe_lst (pa_cons (pe_cmpR op_lt (pv 3) pe_int (nomark _)) (pa_cons (pe_cmpR op_lt (pv 3) pe_int (nomark _)) (pa_cons (pe_cmpR op_ge (pv 3) pe_int (nomark _)) (pa_cons pe_bl (pa_cons pe_bl (pa_cons pe_bl pa_nil))))))))
      (pss_one (ps_if (PW.pt (pw_or (pt_cmpR (op_neD hr.units) (C8.pe_c (c_l_bases T) hr (by decide) (by rfl) (pa_cons (pv 6) pa_nil)) (pv 9) (nomark _)) (pw_or1 (pt_not (pt_val (C8.pe_c (c_l_catches T) hr (by decide) (by rfl) (pa_cons (pv 6) pa_nil)))))))
      (pss_one (ps_ret pe_bl))
      pss_nil)))))))))))))
      (C8.pss_cut (ps_for PassesOwn.never rfl (pi_list (pe_lst (pa_cons (mk_zero T.er 18 (by decide) rfl (hr.mono (by decide)) (by rfl)) (pa_cons (mk_zero T.er 0 (by decide) rfl (hr.mono (by decide)) (by rfl)) (pa_cons (mk_zero T.er 7 (by decide) rfl (hr.mono (by decide)) (by rfl)) pa_nil))))) (pg_name (i := 10) sc_law.nd rfl (Or.inl rfl))
      (pss_one (ps_if (PW.pt (pw_or (pt_not (pt_val (pe_callB call_isi (by rfl) T.z_isinstance (by decide +kernel) (pa_cons (pe_fv (pv 10)) (pa_cons (pe_bltn (v := .ty "str") (by rfl) T.z_str (by decide +kernel) rfl) pa_nil))))) (pw_or1 (pt_not (pt_val (pe_callB call_isv (by rfl) T.z_isinstance (by decide +kernel) (pa_cons (pv 10) (pa_cons (C8.pe_gc (by rfl) (T.cg 18 (by decide))) pa_nil))))))))
      (pss_one (ps_ret pe_bl))
      pss_nil)))
      (pss_one (ps_ret (pe_and (pe_cmpR (op_eqD hr.units) (C8.pe_c (c_l_marks T) hr (by decide) (by rfl) (pa_cons (mk_pos T.er 18 (by decide) (hr.mono (by decide)) (by rfl) (pa_cons pe_str pa_nil)) pa_nil)) (pe_op op_rep (pe_lst (pa_cons pe_bl pa_nil)) pe_int) (nomark _)) (pe_one (pe_callB call_isi (by rfl) T.z_isinstance (by decide +kernel) (pa_cons (pe_fv (mk_kw T.er 18 (by decide) (hr.mono (by decide)) (by rfl) (pk_cons pe_str pk_nil))) (pa_cons (pe_bltn (v := .ty "str") (by rfl) T.z_str (by decide +kernel) rfl) pa_nil))))))))), ?_⟩
    refine ⟨fun σ' H' => ∃ z1 z2 z3 z4 z5 z6 z7 z8 z9 z10, σ' = [some (.ref a), z1, z2, z3, z4, z5, z6, z7, z8, z9, z10], ?_, ?_⟩
    · refine ⟨.ref a, rfl, a, ns, 0, rfl, hS, fun v => ⟨(by show 1 ≤ sizeLine; decide), fun p1 n1 => ?_⟩⟩
      have s2 := same_new (o := .lst [V.int v]) n1
      have h1 : (upd H p1 (.lst [V.int v])) p1 = some (.lst [V.int v]) := upd_same
      generalize upd H p1 (.lst [V.int v]) = H2 at s2 h1 ⊢
      refine ⟨.ref a, rfl, 1, rfl, 8, rfl, a, ns.map V.int, rfl, s2.seq hS, fun p2 n2 => ?_⟩
      have s3 := same_new (o := .lst (cutV (ns.map V.int) (some 1) (some 8))) n2
      have h2 : (upd H2 p2 (.lst (cutV (ns.map V.int) (some 1) (some 8)))) p2 = some (.lst (cutV (ns.map V.int) (some 1) (some 8))) := upd_same
      generalize upd H2 p2 (.lst (cutV (ns.map V.int) (some 1) (some 8))) = H3 at s3 h2 ⊢
      refine ⟨p1, p2, _, _, rfl, rfl, s3 _ _ h1, h2, ?_, fun L nLL => ?_⟩
      · have := cutV_length (ns.map V.int) (some 1) (some 8)
        rw [List.length_map] at this
        exact small_line (by simp only [List.length_cons, List.length_nil]; omega)
      have h4 : (upd H3 L (.lst ([V.int v] ++ cutV (ns.map V.int) (some 1) (some 8)))) L = some (.lst ([V.int v] ++ cutV (ns.map V.int) (some 1) (some 8))) := upd_same
      generalize upd H3 L (.lst ([V.int v] ++ cutV (ns.map V.int) (some 1) (some 8))) = H4 at h4 ⊢
      refine ⟨L, rfl, ⟨_, SqL.of h4⟩, ?_⟩
      refine for_list (K := K) (a := L) (xs := [V.int v] ++ cutV (ns.map V.int) (some 1) (some 8)) (fun i σ H' => Same H4 H' ∧ ∃ z1 z2 z3 z4 z5 z6 z7 z8 z9 z10, σ = [some (.ref a), z1, z2, z3, z4, z5, z6, z7, z8, z9, z10])
        ⟨Same.refl _, none, none, none, none, none, none, none, none, none, none, rfl⟩ (fun i σ H' _ I => I.1.seq (SqL.of h4)) ?_ ?_
      · rintro i x σ H' hi ⟨s5, z1, z2, z3, z4, z5, z6, z7, z8, z9, z10, rfl⟩
        obtain ⟨n, rfl⟩ := cells_int (List.mem_of_getElem? hi)
        refine ⟨.int n, rfl, n, rfl, fun H5 W nW s6 w5 => ?_⟩
        have s46 := s5.trans s6
        have nW4 : H4 W = none := s5.free nW
        refine ⟨18, rfl, by decide, by decide, ?_⟩
        refine for_range (lo := 0) (n := 18) (fun i σ H' => Fr W H5 H' ∧ (∃ c, Wl H' W c ∧ c ≤ 400 * i) ∧ ∃ z3 z4 z5 z6 z7 z8 z9 z10, σ = [some (.ref a), some (.int n), some (.ref W), z3, z4, z5, z6, z7, z8, z9, z10])
          ⟨Fr.refl _ _, ⟨0, w5, by omega⟩, z3, z4, z5, z6, z7, z8, z9, z10, rfl⟩ ?_ ?_
        · rintro k σ H6 hk ⟨f6, ⟨c6, w6, hc6⟩, y3, y4, y5, y6, y7, y8, y9, y10, rfl⟩
          have hc60 := w6.1
          have ek : (0 : Int) + (k : Nat) = (k : Nat) := by omega
          rw [ek]
          refine ⟨.ref W, rfl, W, c6, rfl, w6, by omega, fun x hx hxl H7 c7 f7 w7 h7 h8 => ?_⟩
          refine ⟨10, 40, rfl, rfl, ⟨by decide, by decide, by decide⟩, ?_⟩
          obtain ⟨i0, hi0⟩ : ∃ i0, (fun i j : Int => V.int (i ^ j.toNat)) 10 40 = V.int i0 := ⟨_, rfl⟩
          rw [hi0]
          clear hi0
          refine ⟨(by show 2 ≤ sizeLine; decide), fun P nP => ?_⟩
          have nPW := w7.ne nP
          have sP := same_new (o := .tup [V.str "a", .str "b"]) nP
          have hP : (upd H7 P (.tup [V.str "a", .str "b"])) P = some (.tup [V.str "a", .str "b"]) := upd_same
          have wP := w7.same sP
          have f7P : Fr W H5 (upd H7 P (.tup [V.str "a", .str "b"])) := f6.trans (f7.trans (Fr.same sP))
          generalize upd H7 P (.tup [V.str "a", .str "b"]) = H7P at sP hP wP f7P ⊢
          refine ⟨.ref W, rfl, W, c7, rfl, wP, by omega, fun z hz hzl H8 c8 f8 w8 h9 h10 => ?_⟩
          have okz : OkS z := ok_sub hz ok_hex
          have okx : OkS x := ok_text hx
          refine ⟨(by show 8 ≤ sizeLine; decide), fun S nS => ?_⟩
          have e0 := hc60
          have sS := same_new (o := .lst [V.str x, .str "", .str "a", .int i0, .int 0, .non, .ref P, .str z]) nS
          have hS' : (upd H8 S (.lst [V.str x, .str "", .str "a", .int i0, .int 0, .non, .ref P, .str z])) S = some (.lst [V.str x, .str "", .str "a", .int i0, .int 0, .non, .ref P, .str z]) := upd_same
          have nSW := w8.ne nS
          have wS := w8.same sS
          have f8S : Fr W H5 (upd H8 S (.lst [V.str x, .str "", .str "a", .int i0, .int 0, .non, .ref P, .str z])) := f7P.trans (f8.trans (Fr.same sS))
          have hPS := sS _ _ (f8 _ _ nPW hP)
          generalize upd H8 S (.lst [V.str x, .str "", .str "a", .int i0, .int 0, .non, .ref P, .str z]) = H8S at sS hS' wS f8S hPS ⊢
          have hc80 := w8.1
          refine ⟨.ref S, rfl, .ref W, rfl, W, 3, c8, rfl, wS, by decide, by decide, by omega, fun r u1 u2 c9 r0 r1 hc1 hc2 => ?_⟩
          obtain ⟨y1, hy1, oy1⟩ : ∃ y1, atI [V.str x, .str "", .str "a", .int i0, .int 0, .non, .ref P, .str z] r = some (.str y1) ∧ OkS y1 ∧ y1.length ≤ 100000 := by
            obtain rfl | rfl | rfl : r = 0 ∨ r = 1 ∨ r = 2 := by omega
            · exact ⟨x, rfl, okx, by omega⟩
            · exact ⟨"", rfl, ok_e, by decide⟩
            · exact ⟨"a", rfl, ok_a, by decide⟩
          have f9 : Fr W H8S (upd H8S W (.lst [.int u1, .int u2, .int c9])) := Fr.at
          have w9 := Wl.upd (H := H8S) (a := W) (x := u1) (y := u2) (c := c9) (by omega)
          generalize upd H8S W (.lst [.int u1, .int u2, .int c9]) = H9 at f9 w9 ⊢
          have hS9 := f9 _ _ nSW hS'
          have hP9 := f9 _ _ nPW hPS
          refine ⟨S, _, r, _, rfl, rfl, SqL.of hS9, hy1, ?_⟩
          refine ⟨.ref W, rfl, .ref S, rfl, W, S, _, c9, rfl, w9, SqL.of hS9, nSW, (by show 0 < 8; decide), (by show 8 < 1000000; decide), by omega, fun v2 hv2 H10 c10 f10 w10 h11 h12 => ?_⟩
          have hP10 := f10 _ _ nPW hP9
          have t2 : Th2 H10 v2 := by
            simp only [List.mem_cons, List.not_mem_nil, or_false] at hv2
            rcases hv2 with rfl | rfl | rfl | rfl | rfl | rfl | rfl | rfl
            · exact .str _ okx
            · exact .str _ ok_e
            · exact .str _ ok_a
            · exact .int _
            · exact .int _
            · exact .non
            · exact .tup P hP10
            · exact .str _ okz
          refine ⟨(by show 2 ≤ sizeLine; decide), fun p3 n3 => ?_⟩
          have s11 := same_new (o := .lst [V.str y1, v2]) n3
          have h11' : (upd H10 p3 (.lst [V.str y1, v2])) p3 = some (.lst [V.str y1, v2]) := upd_same
          have f11 : Fr W H5 (upd H10 p3 (.lst [V.str y1, v2])) := f8S.trans (f9.trans (f10.trans (Fr.same s11)))
          have w11 := w10.same s11
          have t2 := t2.same s11
          generalize upd H10 p3 (.lst [V.str y1, v2]) = H11 at s11 h11' f11 w11 t2 ⊢
          obtain ⟨y, hy, ty, tstr⟩ : ∃ y, atI [V.str y1, v2] (if decide ((8 : Int) < (k : Nat)) = true then 1 else 0) = some y ∧ Th2 H11 y ∧ (k ≤ 8 → ∃ s, y = .str s) := by
            by_cases h8 : (8 : Int) < (k : Nat)
            · rw [decide_eq_true h8]
              exact ⟨v2, rfl, t2, fun z => by omega⟩
            · rw [decide_eq_false h8]
              exact ⟨.str y1, rfl, .str y1 oy1.1, fun _ => ⟨y1, rfl⟩⟩
          refine ⟨.int (k : Nat), rfl, _, _, rfl, rfl, .inr ⟨_, rfl, ?_⟩⟩
          refine ⟨p3, _, _, y, rfl, rfl, SqL.of h11', hy, ?_⟩
          refine ⟨fun σ' H' => ∃ E z7 z8 z9 z10, σ' = [some (.ref a), some (.int n), some (.ref W), some (.int (k : Nat)), some (.ref S), some y, some (.ref E), z7, z8, z9, z10] ∧ Same H11 H' ∧ ErrAt C H' E k y, ?_, ?_⟩
          · refine ⟨.int (k : Nat), rfl, _, _, rfl, rfl, _, rfl, ite2 (fun h => ?_) (fun h => ?_)⟩
            · have h := of_decide_eq_true h
              exact ⟨.int (k : Nat), rfl, y, rfl, k, y, rfl, by omega, hk, fun H' E sE nE eE => ⟨E, _, _, _, _, rfl, sE, eE⟩⟩
            · have h : ¬ (8 : Int) < (k : Nat) := fun z => h (decide_eq_true z)
              exact ⟨.int (k : Nat), rfl, y, rfl, k, y, rfl, Nat.zero_le _, by omega, fun H' E sE nE eE => ⟨E, _, _, _, _, rfl, sE, eE⟩⟩
          · rintro σ' H12 ⟨E, z7, z8, z9, z10, rfl, s12, eE⟩
            refine ⟨.ref E, rfl, E, k, y, rfl, by omega, eE, fun H13 pM s13 hM => ?_⟩
            refine ⟨18, rfl, by decide, by decide, fun D nD => ?_⟩
            refine lc_pure (i := 7) (us := List.range 18) (g := fun i => V.int (0 + (i : Int))) (yields_range (lo := 0) (n := 18)) (fun i => .bl (decide (V.int (0 + (i : Int)) = V.int (k : Nat)))) (fun _ => true) nD (fun _ _ => trivial) (fun H c _ hc R r => r H (Same.refl H))
              (fun H c _ hc _ R r => ⟨.int (0 + (c : Int)), rfl, .int (k : Nat), rfl, rfl, r H (Same.refl H)⟩) (by rw [List.length_range]; decide) (fun H14 s14 h14 => ?_)
            have eE14 := eE.same (s13.trans s14)
            refine bls_ne (ys := (List.range 18).map fun i => decide (i = k)) ((s14 _ _ hM).trans (by rw [marks_bls])) (h14.trans ?_) ⟨_, rfl, iteF ?_⟩
            · rw [filt_all, List.map_map]
              refine congrArg (fun l => some (HO.lst l)) (List.map_congr_left fun i _ => congrArg V.bl (decide_eq_decide.mpr ⟨fun z => ?_, fun z => ?_⟩))
              · have := V.int.inj z
                omega
              · rw [z, Int.zero_add]
            refine ⟨.ref E, rfl, .int (k : Nat), rfl, E, k, y, rfl, hk, eE14, fun H15 s15 => ?_⟩
            have eE15 := eE14.same s15
            have ty15 := ty.same (((s12.trans s13).trans s14).trans s15)
            refine ⟨fun σ' H' => σ' = [some (.ref a), some (.int n), some (.ref W), some (.int (k : Nat)), some (.ref S), some y, some (.ref E), z7, some y, z9, z10] ∧ H' = H15, ?_, ?_⟩
            · by_cases h8 : 8 < k
              · have e8 : decide ((8 : Int) < (k : Nat)) = true := decide_eq_true (by omega)
                have e9 : ¬ decide (((k : Nat) : Int) < 9) = true := fun z => by
                  have := of_decide_eq_true z
                  omega
                exact ⟨.int (k : Nat), rfl, _, _, rfl, rfl, _, rfl, ifT e8 ⟨y, rfl, y, rfl, ne_self ty15 ⟨_, rfl, iteF ⟨.int (k : Nat), rfl, _, _, rfl, rfl, _, rfl, ifF e9 (iteF ⟨rfl, rfl⟩)⟩⟩⟩⟩
              · have e8 : ¬ decide ((8 : Int) < (k : Nat)) = true := fun z => by
                  have := of_decide_eq_true z
                  omega
                have e9 : decide (((k : Nat) : Int) < 9) = true := decide_eq_true (by omega)
                obtain ⟨u, rfl⟩ := tstr (by omega)
                refine ⟨.int (k : Nat), rfl, _, _, rfl, rfl, _, rfl, ifF e8 (iteF ⟨.int (k : Nat), rfl, _, _, rfl, rfl, _, rfl, ifT e9 ⟨.str u, rfl, ?_⟩⟩)⟩
                dsimp only [tCons, tC, tNil]
                exact is_text ⟨_, rfl, iteF ⟨rfl, rfl⟩⟩
            · rintro _ H15x ⟨rfl, e15⟩
              rw [e15]
              clear e15
              refine ⟨.int (k : Nat), rfl, _, _, rfl, rfl, .int (k : Nat), rfl, _, _, rfl, rfl, .int (k : Nat), rfl, _, _, rfl, rfl, ?_⟩
              refine ⟨(by show 6 ≤ sizeLine; decide), fun pW nW' => ?_⟩
              have eb : basesOf k = ([decide (((k : Nat) : Int) < 16), decide (((k : Nat) : Int) < 16), decide ((16 : Int) ≤ (k : Nat)), false, false, false]).map V.bl := by
                have a1 : decide (k < 16 ∨ k = 18) = decide (((k : Nat) : Int) < 16) := decide_eq_decide.mpr (by omega)
                have a2 : decide (16 ≤ k ∧ k < 18) = decide ((16 : Int) ≤ (k : Nat)) := decide_eq_decide.mpr (by omega)
                unfold basesOf
                rw [a1, a2]
                rfl
              have s16 := same_new (o := .lst (([decide (((k : Nat) : Int) < 16), decide (((k : Nat) : Int) < 16), decide ((16 : Int) ≤ (k : Nat)), false, false, false]).map V.bl)) nW'
              have h16 : (upd H15 pW (.lst (([decide (((k : Nat) : Int) < 16), decide (((k : Nat) : Int) < 16), decide ((16 : Int) ≤ (k : Nat)), false, false, false]).map V.bl))) pW = some (.lst (([decide (((k : Nat) : Int) < 16), decide (((k : Nat) : Int) < 16), decide ((16 : Int) ≤ (k : Nat)), false, false, false]).map V.bl)) := upd_same
              have eE16 := eE15.same s16
              refine ⟨.ref E, rfl, E, k, y, rfl, by omega, eE16, fun H17 pB s17 hB => ?_⟩
              rw [eb] at hB
              refine ⟨.ref pW, rfl, bls_ne hB (s17 _ _ h16) ⟨_, rfl, iteF ?_⟩⟩
              refine ⟨.ref E, rfl, E, k, y, rfl, hk, eE16.same s17, fun H18 s18 => ⟨_, rfl, iteF ?_⟩⟩
              have sAll := (((((s12.trans s13).trans s14).trans s15).trans s16).trans s17).trans s18
              exact ⟨f11.trans (Fr.same sAll), ⟨c10, w11.same sAll, by omega⟩, _, _, _, _, _, _, _, _, rfl⟩
        · rintro σ H6 ⟨f6, _, y3, y4, y5, y6, y7, y8, y9, y10, rfl⟩
          exact ⟨Same.of_fr nW4 s46 f6, _, _, _, _, _, _, _, _, _, _, rfl⟩
      · rintro σ H' ⟨_, z1, z2, z3, z4, z5, z6, z7, z8, z9, z10, rfl⟩
        exact ⟨_, _, _, _, _, _, _, _, _, _, rfl⟩
    · rintro _ H' ⟨z1, z2, z3, z4, z5, z6, z7, z8, z9, z10, rfl⟩
      refine ⟨fun _ _ => True, ?_, ?_⟩
      · unfold tFor iList tLst
        refine three T.er (fun Hc a1 a2 a3 e1 e2 e3 => ?_)
        refine ⟨(by show 3 ≤ sizeLine; decide), fun Lb nLb => ?_⟩
        have sL := same_new (o := .lst [V.ref a1, .ref a2, .ref a3]) nLb
        have hL : (upd Hc Lb (.lst [V.ref a1, .ref a2, .ref a3])) Lb = some (.lst [V.ref a1, .ref a2, .ref a3]) := upd_same
        have e1 := e1.same sL
        have e2 := e2.same sL
        have e3 := e3.same sL
        generalize upd Hc Lb (.lst [V.ref a1, .ref a2, .ref a3]) = Hd at hL e1 e2 e3 ⊢
        refine ⟨Lb, rfl, ⟨_, SqL.of hL⟩, ?_⟩
        refine for_list (K := K) (D := { nx := fun _ _ => True, rt := _, bk := _, ct := _ }) (a := Lb) (xs := [V.ref a1, .ref a2, .ref a3]) (fun i σ H' => Same Hd H' ∧ ∃ y10, σ = [some (.ref a), z1, z2, z3, z4, z5, z6, z7, z8, z9, y10]) ⟨Same.refl _, z10, rfl⟩ (fun i σ H' _ I => I.1.seq (SqL.of hL)) ?_ (fun _ _ _ => trivial)
        rintro i x σ H' hi ⟨sd, y10, rfl⟩
        have hm := List.mem_of_getElem? hi
        simp only [List.mem_cons, List.not_mem_nil, or_false] at hm
        rcases hm with rfl | rfl | rfl
        · refine ⟨.ref a1, rfl, read_f T.er (j := 18) (by decide) (e1.same sd) ?_⟩
          dsimp only [tCons, tC, tNil]
          refine is_text ⟨_, rfl, iteF ⟨.ref a1, rfl, ?_⟩⟩
          dsimp only [tCons, tC, tNil]
          exact isi_frk T.er (j := 18) (by decide) (e1.same sd) ⟨_, rfl, iteF ⟨sd, _, rfl⟩⟩
        · refine ⟨.ref a2, rfl, read_f T.er (j := 0) (by decide) (e2.same sd) ?_⟩
          dsimp only [tCons, tC, tNil]
          refine is_text ⟨_, rfl, iteF ⟨.ref a2, rfl, ?_⟩⟩
          dsimp only [tCons, tC, tNil]
          exact isi_frk T.er (j := 0) (by decide) (e2.same sd) ⟨_, rfl, iteF ⟨sd, _, rfl⟩⟩
        · refine ⟨.ref a3, rfl, read_f T.er (j := 7) (by decide) (e3.same sd) ?_⟩
          dsimp only [tCons, tC, tNil]
          refine is_text ⟨_, rfl, iteF ⟨.ref a3, rfl, ?_⟩⟩
          dsimp only [tCons, tC, tNil]
          exact isi_frk T.er (j := 7) (by decide) (e3.same sd) ⟨_, rfl, iteF ⟨sd, _, rfl⟩⟩
      · rintro σ' H' _
        unfold tRet tAndV tOp tCall tCons
        refine at_pos T.er (j := 18) (by decide) (fun Hf af sf nf ef => ?_)
        refine ⟨af, 18, .str "a", rfl, by decide, ef, fun Hg pM sg hM => ?_⟩
        refine ⟨(by show 1 ≤ sizeLine; decide), fun p np => ?_⟩
        refine ⟨p, 18, [V.bl false], rfl, rfl, upd_same, by decide, by decide, (by show 1 * 18 ≤ sizeLine; decide), fun p' np' => ?_⟩
        refine bls_eq (ys := List.replicate 18 false) ((same_new np') _ _ ((same_new np) _ _ hM)) upd_same ⟨_, rfl, iteT ?_⟩
        unfold tCB tFv
        show tMkVK (C 18) 1 (spErr K (fieldOf 18)) (tCons (tC (.str "b")) tNil) _ _ _
        refine at_kw T.er (j := 18) (by decide) (fun Hh ah sh nh eh => ?_)
        exact read_f T.er (j := 18) (by decide) eh (is_text (q _))
end

section
variable {K : PySem.W.Frag} {mg : Str → Option Value} {C I : Nat → Addr}
/-- a class of the errors, as its entries stand -/
structure CA (K : PySem.W.Frag) (mg : Str → Option Value) (nm f : Str) (newId : String) (bm : List Value) (C fI : Addr) : Prop where
  mgc : mg nm = some (.ref C)
  cf : CF K nm newId bm C
  sa : PySem.W.findIn K (.ref C) "__setattr__" = some (some (.builtin "object.__setattr__"))
  kC : PySem.W.keepIn K (.ref C) = true
  iC : PySem.W.findIn K (.ref C) "__init__" = some (some (.ref fI))
  ga : PySem.W.findIn K (.ref C) "__getattribute__" = some (some (.builtin "BaseException.__getattribute__"))
  gg : PySem.W.findIn K (.ref C) "__getattr__" = some none
  ha : PySem.W.findIn K (.ref C) "__class__" = some (some (.builtin "object.__class__"))
  nf : PySem.W.findIn K (.ref C) f = some none
def newOf (j : Nat) : String := if j = 16 ∨ j = 17 then "LookupError.__new__" else "ValueError.__new__"
def bmOf (c : Addr) (j : Nat) : List Value := if j = 16 ∨ j = 17 then KE else if j = 18 then VE else .ref c :: VE
theorem bm3 (c : Addr) {j : Nat} (hj : j < 19) : ((j = 16 ∨ j = 17) ∧ newOf j = "LookupError.__new__" ∧ bmOf c j = KE) ∨ (j = 18 ∧ newOf j = "ValueError.__new__" ∧ bmOf c j = VE) ∨ (j < 16 ∧ newOf j = "ValueError.__new__" ∧ bmOf c j = .ref c :: VE) := by
  by_cases h : j = 16 ∨ j = 17
  · exact .inl ⟨h, if_pos h, if_pos h⟩
  · by_cases h2 : j = 18
    · exact .inr (.inl ⟨h2, if_neg h, by unfold bmOf; rw [if_neg h, if_pos h2]⟩)
    · exact .inr (.inr ⟨by omega, if_neg h, by unfold bmOf; rw [if_neg h, if_neg h2]⟩)
theorem ref_beq (a b : Addr) : (Value.ref a == .ref b) = decide (a = b) := by
  by_cases h : a = b
  · subst h
    rw [decide_eq_true rfl]
    exact beq_self_eq_true _
  · rw [decide_eq_false h]
    cases e : (Value.ref a == .ref b) with
    | false => rfl
    | true =>
      have := eq_of_beq e
      cases this
      exact absurd rfl h
theorem ve_ref (a : Addr) : VE.contains (.ref a) = false := rfl
theorem ke_ref (a : Addr) : KE.contains (.ref a) = false := rfl
theorem names_inj : ∀ i j : Fin 19, nameOf i = nameOf j → i = j := by decide +kernel
variable (A : ∀ j, j < 19 → CA K mg (nameOf j) (fieldOf j) (newOf j) (bmOf (C 18) j) (C j) (I j))
include A
theorem c_inj {i j : Nat} (hi : i < 19) (hj : j < 19) (h : C i = C j) : i = j := by
  have a := (A i hi).cf
  rw [h] at a
  have e := a.name (A j hj).cf
  have := names_inj ⟨i, hi⟩ ⟨j, hj⟩ e
  exact congrArg Fin.val this
theorem c_dec {i j : Nat} (hi : i < 19) (hj : j < 19) : decide (C i = C j) = decide (i = j) := decide_eq_decide.mpr ⟨c_inj A hi hj, fun z => by rw [z]⟩
theorem hold_ref {i j : Nat} (hi : i < 19) (hj : j < 19) : (Value.ref (C j) :: bmOf (C 18) j).contains (.ref (C i)) = decide (i = j ∨ (j < 16 ∧ i = 18)) := by
  rw [List.contains_cons, ref_beq, c_dec A hi hj]
  rcases bm3 (C 18) hj with ⟨h, _, e⟩ | ⟨h, _, e⟩ | ⟨h, _, e⟩
  · rw [e, ke_ref, Bool.or_false]
    exact decide_eq_decide.mpr (by omega)
  · rw [e, ve_ref, Bool.or_false]
    exact decide_eq_decide.mpr (by omega)
  · rw [e, List.contains_cons, ve_ref, Bool.or_false, ref_beq, c_dec A hi (by decide), ← Bool.decide_or]
    exact decide_eq_decide.mpr (by omega)
theorem hold_ty {j : Nat} (hj : j < 19) {n : String} {b1 b2 : Bool} (h1 : KE.contains (.type n) = b1) (h2 : VE.contains (.type n) = b2) : (Value.ref (C j) :: bmOf (C 18) j).contains (.type n) = if j = 16 ∨ j = 17 then b1 else b2 := by
  have e0 : ∀ a : Addr, (Value.type n == .ref a) = false := fun a => rfl
  rw [List.contains_cons, e0, Bool.false_or]
  rcases bm3 (C 18) hj with ⟨h, _, e⟩ | ⟨h, _, e⟩ | ⟨h, _, e⟩
  · rw [e, if_pos h, h1]
  · rw [e, if_neg (by omega), h2]
  · rw [e, if_neg (by omega), List.contains_cons, e0, Bool.false_or, h2]
theorem base_ex {j : Nat} (hj : j < 19) : (bmOf (C 18) j).contains (.type "BaseException") = true ∧ (bmOf (C 18) j).contains (.type "object") = true := by
  have ke : KE.contains (.type "BaseException") = true ∧ KE.contains (.type "object") = true := by decide +kernel
  have ve : VE.contains (.type "BaseException") = true ∧ VE.contains (.type "object") = true := by decide +kernel
  rcases bm3 (C 18) hj with ⟨h, _, e⟩ | ⟨h, _, e⟩ | ⟨h, _, e⟩
  · rw [e]
    exact ke
  · rw [e]
    exact ve
  · rw [e, List.contains_cons, List.contains_cons, ve.1, ve.2, Bool.or_true, Bool.or_true]
    exact ⟨rfl, rfl⟩
theorem er_of (tI : ∀ j, j < 19 → PySem.W.typeIn K (.ref (I j)) = some (.type "function"))
    (hn : PySem.W.specialIn K (.builtin "object.__class__") "__get__" = some (some (.builtin "getset_descriptor.__get__"))) (ht : PySem.W.takesIn K (.builtin "object.__class__") = some true)
    (ini : ∀ j, j < 19 → ∃ fd, (∀ (P : Program) (w : World) (base : Heap), FnOk P w K mg base C8.CX0 1 (I j) fd (PS2 j) (spErr K (fieldOf j))) ∧ Binds K fd (PS2 j) [] ∧
      (∀ (s : Shared) (self : Value) (ws : List Value), K.In s.heap → ws.length = 1 → BindsTo s fd ⟨[self], ([fieldOf j] : List Str).zip ws⟩ ((PS2 j).zip (self :: ws))) ∧ (fieldOf j = "why" → ∃ ds, Vals [V.str ""] ds ∧ Binds K fd (PS2 j) ds)) : Er K mg C I where
  xc := fun j hj => by
    have a := A j hj
    have b := base_ex A hj
    have c := a.cf
    rcases bm3 (C 18) hj with ⟨h, e1, e2⟩ | ⟨h, e1, e2⟩ | ⟨h, e1, e2⟩
    · rw [e2] at b
      rw [e1, e2] at c
      exact c.xc PySem.F.excBase_LookupError ke_ok ke_pass b.2 b.1 a.sa a.kC a.iC (tI j hj) a.ga a.gg a.ha hn ht
    · rw [e2] at b
      rw [e1, e2] at c
      exact c.xc PySem.F.excBase_ValueError ve_ok ve_pass b.2 b.1 a.sa a.kC a.iC (tI j hj) a.ga a.gg a.ha hn ht
    · rw [e2] at b
      rw [e1, e2] at c
      exact c.xc PySem.F.excBase_ValueError (rve_ok _) (rve_pass _) b.2 b.1 a.sa a.kC a.iC (tI j hj) a.ga a.gg a.ha hn ht
  nf := fun j hj => (A j hj).nf
  mgc := fun j hj => (A j hj).mgc
  kit := fun j i hj hi => by
    rw [(A j hj).cf.kit (A i (by omega)).cf, hold_ref A (by omega) hj]
    exact congrArg some (decide_eq_decide.mpr (by omega))
  kitF := fun j hj => by
    rw [(A j hj).cf.kit (A 18 (by decide)).cf, hold_ref A (by decide) hj]
    exact congrArg some (decide_eq_decide.mpr (by omega))
  kitV := fun j hj => by
    rw [(A j hj).cf.kitT (by decide +kernel), hold_ty A hj (b1 := false) (b2 := true) (by decide +kernel) (by decide +kernel)]
    by_cases h : j = 16 ∨ j = 17
    · rw [if_pos h, decide_eq_false (by omega)]
    · rw [if_neg h, decide_eq_true (by omega)]
  kitK := fun j hj => by
    rw [(A j hj).cf.kitT (by decide +kernel), hold_ty A hj (b1 := true) (b2 := false) (by decide +kernel) (by decide +kernel)]
    by_cases h : j = 16 ∨ j = 17
    · rw [if_pos h, decide_eq_true (by omega)]
    · rw [if_neg h, decide_eq_false (by omega)]
  kitI := fun j hj => by
    rw [(A j hj).cf.kitT (by decide +kernel), hold_ty A hj (b1 := false) (b2 := false) (by decide +kernel) (by decide +kernel), ite_self]
  kitR := fun j hj => by
    rw [(A j hj).cf.kitT (by decide +kernel), hold_ty A hj (b1 := false) (b2 := false) (by decide +kernel) (by decide +kernel), ite_self]
  kitT := fun j hj => by
    rw [(A j hj).cf.kitT (by decide +kernel), hold_ty A hj (b1 := false) (b2 := false) (by decide +kernel) (by decide +kernel), ite_self]
  ini := ini
  ox := fun j hj => by
    have hj2 : j < 19 := by omega
    have a := A j hj2
    have b := base_ex A hj2
    have c := a.cf
    refine ⟨?_, a.cf.exm (A 18 (by decide)).cf (base_ex A (by decide)).1 ?_⟩
    · rcases bm3 (C 18) hj2 with ⟨h, e1, e2⟩ | ⟨h, e1, e2⟩ | ⟨h, e1, e2⟩
      · omega
      · omega
      · rw [e2] at b
        rw [e1, e2] at c
        exact c.oex (by show PySem.HandSPX.refsVE VE = true; decide +kernel) a.sa a.kC b.1
    · rw [hold_ref A (by decide) hj2]
      exact decide_eq_true (by omega)
end

end Fk

set_option maxHeartbeats 4000000
namespace Fk
open PySem PySem.Spec PyProof.Rows L2
theorem all_mk {l : PySem.W.OpenLaw} {w : World} {K : PySem.W.Frag} {h : Heap} {mg : Str → Option Value} {fa : Addr} (X : K.In h) (G : h.Ns mainGlobals mg) (hfa : mg "law" = some (.ref fa))
    {f1 f2 f3 f4 f5 f6 f7 f8 f9 f10 f11 f12 f13 f14 f15 : Addr} {od1 an1 od2 an2 od3 an3 od4 an4 od5 an5 od6 an6 od7 an7 od8 an8 od9 an9 od10 an10 od11 an11 od12 an12 od13 an13 od14 an14 od15 an15 : Option Addr} {sl1 sl2 sl3 sl4 sl5 sl6 sl7 sl8 sl9 sl10 sl11 sl12 sl13 sl14 sl15 : Array (Option Value)} {oc1 kV1 dc1 pm1 cd1 ct1 oc2 kV2 dc2 pm2 cd2 ct2 oc3 kV3 dc3 pm3 cd3 ct3 oc4 kV4 dc4 pm4 cd4 ct4 oc5 kV5 dc5 pm5 cd5 ct5 oc6 kV6 dc6 pm6 cd6 ct6 oc7 kV7 dc7 pm7 cd7 ct7 oc8 kV8 dc8 pm8 cd8 ct8 oc9 kV9 dc9 pm9 cd9 ct9 oc10 kV10 dc10 pm10 cd10 ct10 oc11 kV11 dc11 pm11 cd11 ct11 oc12 kV12 dc12 pm12 cd12 ct12 oc13 kV13 dc13 pm13 cd13 ct13 oc14 kV14 dc14 pm14 cd14 ct14 oc15 kV15 dc15 pm15 cd15 ct15 : Value}
    (a1 : PySem.W.nsIn K mainGlobals "_law_cell_at" = some (some (.ref f1))) (l1 : K.lookup f1 = some ⟨oc1, od1, .func (PySem.W.fnOf "_law_cell_at" "_law_cell_at" (C8.fnArgs s_l_cell_at) (C8.fnBody s_l_cell_at) (C8.fnScope s_l_cell_at) .none kV1 dc1 pm1 an1 cd1 ct1), sl1⟩) (c1 : PySem.W.codeIn K cd1 "_law_cell_at" = true) (k1 : PySem.W.keepIn K (.ref f1) = true)
    (a2 : PySem.W.nsIn K mainGlobals "_law_well" = some (some (.ref f2))) (l2 : K.lookup f2 = some ⟨oc2, od2, .func (PySem.W.fnOf "_law_well" "_law_well" (C8.fnArgs s_l_well) (C8.fnBody s_l_well) (C8.fnScope s_l_well) .none kV2 dc2 pm2 an2 cd2 ct2), sl2⟩) (c2 : PySem.W.codeIn K cd2 "_law_well" = true) (k2 : PySem.W.keepIn K (.ref f2) = true)
    (a3 : PySem.W.nsIn K mainGlobals "_law_draw" = some (some (.ref f3))) (l3 : K.lookup f3 = some ⟨oc3, od3, .func (PySem.W.fnOf "_law_draw" "_law_draw" (C8.fnArgs s_l_draw) (C8.fnBody s_l_draw) (C8.fnScope s_l_draw) .none kV3 dc3 pm3 an3 cd3 ct3), sl3⟩) (c3 : PySem.W.codeIn K cd3 "_law_draw" = true) (k3 : PySem.W.keepIn K (.ref f3) = true)
    (a4 : PySem.W.nsIn K mainGlobals "_law_pick" = some (some (.ref f4))) (l4 : K.lookup f4 = some ⟨oc4, od4, .func (PySem.W.fnOf "_law_pick" "_law_pick" (C8.fnArgs s_l_pick) (C8.fnBody s_l_pick) (C8.fnScope s_l_pick) .none kV4 dc4 pm4 an4 cd4 ct4), sl4⟩) (c4 : PySem.W.codeIn K cd4 "_law_pick" = true) (k4 : PySem.W.keepIn K (.ref f4) = true)
    (a5 : PySem.W.nsIn K mainGlobals "_law_signs" = some (some (.ref f5))) (l5 : K.lookup f5 = some ⟨oc5, od5, .func (PySem.W.fnOf "_law_signs" "_law_signs" (C8.fnArgs s_l_signs) (C8.fnBody s_l_signs) (C8.fnScope s_l_signs) .none kV5 dc5 pm5 an5 cd5 ct5), sl5⟩) (c5 : PySem.W.codeIn K cd5 "_law_signs" = true) (k5 : PySem.W.keepIn K (.ref f5) = true)
    (a6 : PySem.W.nsIn K mainGlobals "_law_all_signs" = some (some (.ref f6))) (l6 : K.lookup f6 = some ⟨oc6, od6, .func (PySem.W.fnOf "_law_all_signs" "_law_all_signs" (C8.fnArgs s_l_all_signs) (C8.fnBody s_l_all_signs) (C8.fnScope s_l_all_signs) .none kV6 dc6 pm6 an6 cd6 ct6), sl6⟩) (c6 : PySem.W.codeIn K cd6 "_law_all_signs" = true) (k6 : PySem.W.keepIn K (.ref f6) = true)
    (a7 : PySem.W.nsIn K mainGlobals "_law_text" = some (some (.ref f7))) (l7 : K.lookup f7 = some ⟨oc7, od7, .func (PySem.W.fnOf "_law_text" "_law_text" (C8.fnArgs s_l_text) (C8.fnBody s_l_text) (C8.fnScope s_l_text) .none kV7 dc7 pm7 an7 cd7 ct7), sl7⟩) (c7 : PySem.W.codeIn K cd7 "_law_text" = true) (k7 : PySem.W.keepIn K (.ref f7) = true)
    (a8 : PySem.W.nsIn K mainGlobals "_law_id" = some (some (.ref f8))) (l8 : K.lookup f8 = some ⟨oc8, od8, .func (PySem.W.fnOf "_law_id" "_law_id" (C8.fnArgs s_l_id) (C8.fnBody s_l_id) (C8.fnScope s_l_id) .none kV8 dc8 pm8 an8 cd8 ct8), sl8⟩) (c8 : PySem.W.codeIn K cd8 "_law_id" = true) (k8 : PySem.W.keepIn K (.ref f8) = true)
    (a9 : PySem.W.nsIn K mainGlobals "_law_marks" = some (some (.ref f9))) (l9 : K.lookup f9 = some ⟨oc9, od9, .func (PySem.W.fnOf "_law_marks" "_law_marks" (C8.fnArgs s_l_marks) (C8.fnBody s_l_marks) (C8.fnScope s_l_marks) .none kV9 dc9 pm9 an9 cd9 ct9), sl9⟩) (c9 : PySem.W.codeIn K cd9 "_law_marks" = true) (k9 : PySem.W.keepIn K (.ref f9) = true)
    (a10 : PySem.W.nsIn K mainGlobals "_law_bases" = some (some (.ref f10))) (l10 : K.lookup f10 = some ⟨oc10, od10, .func (PySem.W.fnOf "_law_bases" "_law_bases" (C8.fnArgs s_l_bases) (C8.fnBody s_l_bases) (C8.fnScope s_l_bases) .none kV10 dc10 pm10 an10 cd10 ct10), sl10⟩) (c10 : PySem.W.codeIn K cd10 "_law_bases" = true) (k10 : PySem.W.keepIn K (.ref f10) = true)
    (a11 : PySem.W.nsIn K mainGlobals "_law_plain" = some (some (.ref f11))) (l11 : K.lookup f11 = some ⟨oc11, od11, .func (PySem.W.fnOf "_law_plain" "_law_plain" (C8.fnArgs s_l_plain) (C8.fnBody s_l_plain) (C8.fnScope s_l_plain) .none kV11 dc11 pm11 an11 cd11 ct11), sl11⟩) (c11 : PySem.W.codeIn K cd11 "_law_plain" = true) (k11 : PySem.W.keepIn K (.ref f11) = true)
    (a12 : PySem.W.nsIn K mainGlobals "_law_fielded" = some (some (.ref f12))) (l12 : K.lookup f12 = some ⟨oc12, od12, .func (PySem.W.fnOf "_law_fielded" "_law_fielded" (C8.fnArgs s_l_fielded) (C8.fnBody s_l_fielded) (C8.fnScope s_l_fielded) .none kV12 dc12 pm12 an12 cd12 ct12), sl12⟩) (c12 : PySem.W.codeIn K cd12 "_law_fielded" = true) (k12 : PySem.W.keepIn K (.ref f12) = true)
    (a13 : PySem.W.nsIn K mainGlobals "_law_field" = some (some (.ref f13))) (l13 : K.lookup f13 = some ⟨oc13, od13, .func (PySem.W.fnOf "_law_field" "_law_field" (C8.fnArgs s_l_field) (C8.fnBody s_l_field) (C8.fnScope s_l_field) .none kV13 dc13 pm13 an13 cd13 ct13), sl13⟩) (c13 : PySem.W.codeIn K cd13 "_law_field" = true) (k13 : PySem.W.keepIn K (.ref f13) = true)
    (a14 : PySem.W.nsIn K mainGlobals "_law_catches" = some (some (.ref f14))) (l14 : K.lookup f14 = some ⟨oc14, od14, .func (PySem.W.fnOf "_law_catches" "_law_catches" (C8.fnArgs s_l_catches) (C8.fnBody s_l_catches) (C8.fnScope s_l_catches) .none kV14 dc14 pm14 an14 cd14 ct14), sl14⟩) (c14 : PySem.W.codeIn K cd14 "_law_catches" = true) (k14 : PySem.W.keepIn K (.ref f14) = true)
    (a15 : PySem.W.nsIn K mainGlobals "law" = some (some (.ref f15))) (l15 : K.lookup f15 = some ⟨oc15, od15, .func (PySem.W.fnOf "law" "law" (C8.fnArgs s_law) (C8.fnBody s_law) (C8.fnScope s_law) .none kV15 dc15 pm15 an15 cd15 ct15), sl15⟩) (c15 : PySem.W.codeIn K cd15 "law" = true) (k15 : PySem.W.keepIn K (.ref f15) = true)
    (z_IndexError : PySem.W.nsIn K mainGlobals "IndexError" = some none)
    (z_KeyError : PySem.W.nsIn K mainGlobals "KeyError" = some none)
    (z_RuntimeError : PySem.W.nsIn K mainGlobals "RuntimeError" = some none)
    (z_TypeError : PySem.W.nsIn K mainGlobals "TypeError" = some none)
    (z_ValueError : PySem.W.nsIn K mainGlobals "ValueError" = some none)
    (z_int : PySem.W.nsIn K mainGlobals "int" = some none)
    (z_isinstance : PySem.W.nsIn K mainGlobals "isinstance" = some none)
    (z_len : PySem.W.nsIn K mainGlobals "len" = some none)
    (z_min : PySem.W.nsIn K mainGlobals "min" = some none)
    (z_range : PySem.W.nsIn K mainGlobals "range" = some none)
    (z_str : PySem.W.nsIn K mainGlobals "str" = some none)
    {ca0 ca1 ca2 ca3 ca4 ca5 ca6 ca7 ca8 ca9 ca10 ca11 ca12 ca13 ca14 ca15 ca16 ca17 ca18 i9 i10 i11 i12 i13 i14 i15 i16 i17 i18 dT : Addr}
    {q0 : Str} {N0 : Addr} {bs0 sub0 : List Value} {sn0 : List Str} {ab0 : Bool} {col0 : Option Bool} {dd0 : Option Addr} {m0_0 m0_1 m0_2 m0_3 m0_5 : Option Value}
    {q1 : Str} {N1 : Addr} {bs1 sub1 : List Value} {sn1 : List Str} {ab1 : Bool} {col1 : Option Bool} {dd1 : Option Addr} {m1_0 m1_1 m1_2 m1_3 m1_5 : Option Value}
    {q2 : Str} {N2 : Addr} {bs2 sub2 : List Value} {sn2 : List Str} {ab2 : Bool} {col2 : Option Bool} {dd2 : Option Addr} {m2_0 m2_1 m2_2 m2_3 m2_5 : Option Value}
    {q3 : Str} {N3 : Addr} {bs3 sub3 : List Value} {sn3 : List Str} {ab3 : Bool} {col3 : Option Bool} {dd3 : Option Addr} {m3_0 m3_1 m3_2 m3_3 m3_5 : Option Value}
    {q4 : Str} {N4 : Addr} {bs4 sub4 : List Value} {sn4 : List Str} {ab4 : Bool} {col4 : Option Bool} {dd4 : Option Addr} {m4_0 m4_1 m4_2 m4_3 m4_5 : Option Value}
    {q5 : Str} {N5 : Addr} {bs5 sub5 : List Value} {sn5 : List Str} {ab5 : Bool} {col5 : Option Bool} {dd5 : Option Addr} {m5_0 m5_1 m5_2 m5_3 m5_5 : Option Value}
    {q6 : Str} {N6 : Addr} {bs6 sub6 : List Value} {sn6 : List Str} {ab6 : Bool} {col6 : Option Bool} {dd6 : Option Addr} {m6_0 m6_1 m6_2 m6_3 m6_5 : Option Value}
    {q7 : Str} {N7 : Addr} {bs7 sub7 : List Value} {sn7 : List Str} {ab7 : Bool} {col7 : Option Bool} {dd7 : Option Addr} {m7_0 m7_1 m7_2 m7_3 m7_5 : Option Value}
    {q8 : Str} {N8 : Addr} {bs8 sub8 : List Value} {sn8 : List Str} {ab8 : Bool} {col8 : Option Bool} {dd8 : Option Addr} {m8_0 m8_1 m8_2 m8_3 m8_5 : Option Value}
    {q9 : Str} {N9 : Addr} {bs9 sub9 : List Value} {sn9 : List Str} {ab9 : Bool} {col9 : Option Bool} {dd9 : Option Addr} {m9_0 m9_1 m9_2 m9_3 m9_5 : Option Value}
    {q10 : Str} {N10 : Addr} {bs10 sub10 : List Value} {sn10 : List Str} {ab10 : Bool} {col10 : Option Bool} {dd10 : Option Addr} {m10_0 m10_1 m10_2 m10_3 m10_5 : Option Value}
    {q11 : Str} {N11 : Addr} {bs11 sub11 : List Value} {sn11 : List Str} {ab11 : Bool} {col11 : Option Bool} {dd11 : Option Addr} {m11_0 m11_1 m11_2 m11_3 m11_5 : Option Value}
    {q12 : Str} {N12 : Addr} {bs12 sub12 : List Value} {sn12 : List Str} {ab12 : Bool} {col12 : Option Bool} {dd12 : Option Addr} {m12_0 m12_1 m12_2 m12_3 m12_5 : Option Value}
    {q13 : Str} {N13 : Addr} {bs13 sub13 : List Value} {sn13 : List Str} {ab13 : Bool} {col13 : Option Bool} {dd13 : Option Addr} {m13_0 m13_1 m13_2 m13_3 m13_5 : Option Value}
    {q14 : Str} {N14 : Addr} {bs14 sub14 : List Value} {sn14 : List Str} {ab14 : Bool} {col14 : Option Bool} {dd14 : Option Addr} {m14_0 m14_1 m14_2 m14_3 m14_5 : Option Value}
    {q15 : Str} {N15 : Addr} {bs15 sub15 : List Value} {sn15 : List Str} {ab15 : Bool} {col15 : Option Bool} {dd15 : Option Addr} {m15_0 m15_1 m15_2 m15_3 m15_5 : Option Value}
    {q16 : Str} {N16 : Addr} {bs16 sub16 : List Value} {sn16 : List Str} {ab16 : Bool} {col16 : Option Bool} {dd16 : Option Addr} {m16_0 m16_1 m16_2 m16_3 m16_5 : Option Value}
    {q17 : Str} {N17 : Addr} {bs17 sub17 : List Value} {sn17 : List Str} {ab17 : Bool} {col17 : Option Bool} {dd17 : Option Addr} {m17_0 m17_1 m17_2 m17_3 m17_5 : Option Value}
    {q18 : Str} {N18 : Addr} {bs18 sub18 : List Value} {sn18 : List Str} {ab18 : Bool} {col18 : Option Bool} {dd18 : Option Addr} {m18_0 m18_1 m18_2 m18_3 m18_5 : Option Value}
    {zod9 zan9 : Option Addr} {zsl9 : Array (Option Value)} {zoc9 zkV9 zdc9 zpm9 zcd9 zct9 : Value}
    {zod10 zan10 : Option Addr} {zsl10 : Array (Option Value)} {zoc10 zkV10 zdc10 zpm10 zcd10 zct10 : Value}
    {zod11 zan11 : Option Addr} {zsl11 : Array (Option Value)} {zoc11 zkV11 zdc11 zpm11 zcd11 zct11 : Value}
    {zod12 zan12 : Option Addr} {zsl12 : Array (Option Value)} {zoc12 zkV12 zdc12 zpm12 zcd12 zct12 : Value}
    {zod13 zan13 : Option Addr} {zsl13 : Array (Option Value)} {zoc13 zkV13 zdc13 zpm13 zcd13 zct13 : Value}
    {zod14 zan14 : Option Addr} {zsl14 : Array (Option Value)} {zoc14 zkV14 zdc14 zpm14 zcd14 zct14 : Value}
    {zod15 zan15 : Option Addr} {zsl15 : Array (Option Value)} {zoc15 zkV15 zdc15 zpm15 zcd15 zct15 : Value}
    {zod16 zan16 : Option Addr} {zsl16 : Array (Option Value)} {zoc16 zkV16 zdc16 zpm16 zcd16 zct16 : Value}
    {zod17 zan17 : Option Addr} {zsl17 : Array (Option Value)} {zoc17 zkV17 zdc17 zpm17 zcd17 zct17 : Value}
    {zod18 zan18 : Option Addr} {zsl18 : Array (Option Value)} {zoc18 zkV18 zdc18 zpm18 zcd18 zct18 : Value}
    {tkd : Tok} {tcd : Value} {tod : Option Addr} {tn : Nat} {tsl : Array (Option Value)}
    (e_mg0 : PySem.W.nsIn K mainGlobals "BadName" = some (some (.ref ca0)))
    (e_mg1 : PySem.W.nsIn K mainGlobals "BadPath" = some (some (.ref ca1)))
    (e_mg2 : PySem.W.nsIn K mainGlobals "BadRef" = some (some (.ref ca2)))
    (e_mg3 : PySem.W.nsIn K mainGlobals "BadChange" = some (some (.ref ca3)))
    (e_mg4 : PySem.W.nsIn K mainGlobals "BadMark" = some (some (.ref ca4)))
    (e_mg5 : PySem.W.nsIn K mainGlobals "BadLetter" = some (some (.ref ca5)))
    (e_mg6 : PySem.W.nsIn K mainGlobals "BadCommand" = some (some (.ref ca6)))
    (e_mg7 : PySem.W.nsIn K mainGlobals "Crash" = some (some (.ref ca7)))
    (e_mg8 : PySem.W.nsIn K mainGlobals "Cut" = some (some (.ref ca8)))
    (e_mg9 : PySem.W.nsIn K mainGlobals "BadObject" = some (some (.ref ca9)))
    (e_mg10 : PySem.W.nsIn K mainGlobals "BadPack" = some (some (.ref ca10)))
    (e_mg11 : PySem.W.nsIn K mainGlobals "BadExpression" = some (some (.ref ca11)))
    (e_mg12 : PySem.W.nsIn K mainGlobals "Clash" = some (some (.ref ca12)))
    (e_mg13 : PySem.W.nsIn K mainGlobals "Conflict" = some (some (.ref ca13)))
    (e_mg14 : PySem.W.nsIn K mainGlobals "Locked" = some (some (.ref ca14)))
    (e_mg15 : PySem.W.nsIn K mainGlobals "Stale" = some (some (.ref ca15)))
    (e_mg16 : PySem.W.nsIn K mainGlobals "NoObject" = some (some (.ref ca16)))
    (e_mg17 : PySem.W.nsIn K mainGlobals "NoRef" = some (some (.ref ca17)))
    (e_mg18 : PySem.W.nsIn K mainGlobals "ForkError" = some (some (.ref ca18)))
    (e_x0 : K.lookup ca0 = some (excClassObj "BadName" q0 ca0 N0 bs0 [.ref ca18, .type "ValueError", .type "Exception", .type "BaseException", .type "object"] true sn0 sub0 ab0 col0 dd0 m0_0 m0_1 m0_2 m0_3 m0_5 "ValueError.__new__"))
    (e_sa0 : PySem.W.findIn K (.ref ca0) "__setattr__" = some (some (.builtin "object.__setattr__")))
    (e_kC0 : PySem.W.keepIn K (.ref ca0) = true)
    (e_iC0 : PySem.W.findIn K (.ref ca0) "__init__" = some (some (.ref i18)))
    (e_ga0 : PySem.W.findIn K (.ref ca0) "__getattribute__" = some (some (.builtin "BaseException.__getattribute__")))
    (e_gg0 : PySem.W.findIn K (.ref ca0) "__getattr__" = some none)
    (e_ha0 : PySem.W.findIn K (.ref ca0) "__class__" = some (some (.builtin "object.__class__")))
    (e_nf0 : PySem.W.findIn K (.ref ca0) "why" = some none)
    (e_x1 : K.lookup ca1 = some (excClassObj "BadPath" q1 ca1 N1 bs1 [.ref ca18, .type "ValueError", .type "Exception", .type "BaseException", .type "object"] true sn1 sub1 ab1 col1 dd1 m1_0 m1_1 m1_2 m1_3 m1_5 "ValueError.__new__"))
    (e_sa1 : PySem.W.findIn K (.ref ca1) "__setattr__" = some (some (.builtin "object.__setattr__")))
    (e_kC1 : PySem.W.keepIn K (.ref ca1) = true)
    (e_iC1 : PySem.W.findIn K (.ref ca1) "__init__" = some (some (.ref i18)))
    (e_ga1 : PySem.W.findIn K (.ref ca1) "__getattribute__" = some (some (.builtin "BaseException.__getattribute__")))
    (e_gg1 : PySem.W.findIn K (.ref ca1) "__getattr__" = some none)
    (e_ha1 : PySem.W.findIn K (.ref ca1) "__class__" = some (some (.builtin "object.__class__")))
    (e_nf1 : PySem.W.findIn K (.ref ca1) "why" = some none)
    (e_x2 : K.lookup ca2 = some (excClassObj "BadRef" q2 ca2 N2 bs2 [.ref ca18, .type "ValueError", .type "Exception", .type "BaseException", .type "object"] true sn2 sub2 ab2 col2 dd2 m2_0 m2_1 m2_2 m2_3 m2_5 "ValueError.__new__"))
    (e_sa2 : PySem.W.findIn K (.ref ca2) "__setattr__" = some (some (.builtin "object.__setattr__")))
    (e_kC2 : PySem.W.keepIn K (.ref ca2) = true)
    (e_iC2 : PySem.W.findIn K (.ref ca2) "__init__" = some (some (.ref i18)))
    (e_ga2 : PySem.W.findIn K (.ref ca2) "__getattribute__" = some (some (.builtin "BaseException.__getattribute__")))
    (e_gg2 : PySem.W.findIn K (.ref ca2) "__getattr__" = some none)
    (e_ha2 : PySem.W.findIn K (.ref ca2) "__class__" = some (some (.builtin "object.__class__")))
    (e_nf2 : PySem.W.findIn K (.ref ca2) "why" = some none)
    (e_x3 : K.lookup ca3 = some (excClassObj "BadChange" q3 ca3 N3 bs3 [.ref ca18, .type "ValueError", .type "Exception", .type "BaseException", .type "object"] true sn3 sub3 ab3 col3 dd3 m3_0 m3_1 m3_2 m3_3 m3_5 "ValueError.__new__"))
    (e_sa3 : PySem.W.findIn K (.ref ca3) "__setattr__" = some (some (.builtin "object.__setattr__")))
    (e_kC3 : PySem.W.keepIn K (.ref ca3) = true)
    (e_iC3 : PySem.W.findIn K (.ref ca3) "__init__" = some (some (.ref i18)))
    (e_ga3 : PySem.W.findIn K (.ref ca3) "__getattribute__" = some (some (.builtin "BaseException.__getattribute__")))
    (e_gg3 : PySem.W.findIn K (.ref ca3) "__getattr__" = some none)
    (e_ha3 : PySem.W.findIn K (.ref ca3) "__class__" = some (some (.builtin "object.__class__")))
    (e_nf3 : PySem.W.findIn K (.ref ca3) "why" = some none)
    (e_x4 : K.lookup ca4 = some (excClassObj "BadMark" q4 ca4 N4 bs4 [.ref ca18, .type "ValueError", .type "Exception", .type "BaseException", .type "object"] true sn4 sub4 ab4 col4 dd4 m4_0 m4_1 m4_2 m4_3 m4_5 "ValueError.__new__"))
    (e_sa4 : PySem.W.findIn K (.ref ca4) "__setattr__" = some (some (.builtin "object.__setattr__")))
    (e_kC4 : PySem.W.keepIn K (.ref ca4) = true)
    (e_iC4 : PySem.W.findIn K (.ref ca4) "__init__" = some (some (.ref i18)))
    (e_ga4 : PySem.W.findIn K (.ref ca4) "__getattribute__" = some (some (.builtin "BaseException.__getattribute__")))
    (e_gg4 : PySem.W.findIn K (.ref ca4) "__getattr__" = some none)
    (e_ha4 : PySem.W.findIn K (.ref ca4) "__class__" = some (some (.builtin "object.__class__")))
    (e_nf4 : PySem.W.findIn K (.ref ca4) "why" = some none)
    (e_x5 : K.lookup ca5 = some (excClassObj "BadLetter" q5 ca5 N5 bs5 [.ref ca18, .type "ValueError", .type "Exception", .type "BaseException", .type "object"] true sn5 sub5 ab5 col5 dd5 m5_0 m5_1 m5_2 m5_3 m5_5 "ValueError.__new__"))
    (e_sa5 : PySem.W.findIn K (.ref ca5) "__setattr__" = some (some (.builtin "object.__setattr__")))
    (e_kC5 : PySem.W.keepIn K (.ref ca5) = true)
    (e_iC5 : PySem.W.findIn K (.ref ca5) "__init__" = some (some (.ref i18)))
    (e_ga5 : PySem.W.findIn K (.ref ca5) "__getattribute__" = some (some (.builtin "BaseException.__getattribute__")))
    (e_gg5 : PySem.W.findIn K (.ref ca5) "__getattr__" = some none)
    (e_ha5 : PySem.W.findIn K (.ref ca5) "__class__" = some (some (.builtin "object.__class__")))
    (e_nf5 : PySem.W.findIn K (.ref ca5) "why" = some none)
    (e_x6 : K.lookup ca6 = some (excClassObj "BadCommand" q6 ca6 N6 bs6 [.ref ca18, .type "ValueError", .type "Exception", .type "BaseException", .type "object"] true sn6 sub6 ab6 col6 dd6 m6_0 m6_1 m6_2 m6_3 m6_5 "ValueError.__new__"))
    (e_sa6 : PySem.W.findIn K (.ref ca6) "__setattr__" = some (some (.builtin "object.__setattr__")))
    (e_kC6 : PySem.W.keepIn K (.ref ca6) = true)
    (e_iC6 : PySem.W.findIn K (.ref ca6) "__init__" = some (some (.ref i18)))
    (e_ga6 : PySem.W.findIn K (.ref ca6) "__getattribute__" = some (some (.builtin "BaseException.__getattribute__")))
    (e_gg6 : PySem.W.findIn K (.ref ca6) "__getattr__" = some none)
    (e_ha6 : PySem.W.findIn K (.ref ca6) "__class__" = some (some (.builtin "object.__class__")))
    (e_nf6 : PySem.W.findIn K (.ref ca6) "why" = some none)
    (e_x7 : K.lookup ca7 = some (excClassObj "Crash" q7 ca7 N7 bs7 [.ref ca18, .type "ValueError", .type "Exception", .type "BaseException", .type "object"] true sn7 sub7 ab7 col7 dd7 m7_0 m7_1 m7_2 m7_3 m7_5 "ValueError.__new__"))
    (e_sa7 : PySem.W.findIn K (.ref ca7) "__setattr__" = some (some (.builtin "object.__setattr__")))
    (e_kC7 : PySem.W.keepIn K (.ref ca7) = true)
    (e_iC7 : PySem.W.findIn K (.ref ca7) "__init__" = some (some (.ref i18)))
    (e_ga7 : PySem.W.findIn K (.ref ca7) "__getattribute__" = some (some (.builtin "BaseException.__getattribute__")))
    (e_gg7 : PySem.W.findIn K (.ref ca7) "__getattr__" = some none)
    (e_ha7 : PySem.W.findIn K (.ref ca7) "__class__" = some (some (.builtin "object.__class__")))
    (e_nf7 : PySem.W.findIn K (.ref ca7) "why" = some none)
    (e_x8 : K.lookup ca8 = some (excClassObj "Cut" q8 ca8 N8 bs8 [.ref ca18, .type "ValueError", .type "Exception", .type "BaseException", .type "object"] true sn8 sub8 ab8 col8 dd8 m8_0 m8_1 m8_2 m8_3 m8_5 "ValueError.__new__"))
    (e_sa8 : PySem.W.findIn K (.ref ca8) "__setattr__" = some (some (.builtin "object.__setattr__")))
    (e_kC8 : PySem.W.keepIn K (.ref ca8) = true)
    (e_iC8 : PySem.W.findIn K (.ref ca8) "__init__" = some (some (.ref i18)))
    (e_ga8 : PySem.W.findIn K (.ref ca8) "__getattribute__" = some (some (.builtin "BaseException.__getattribute__")))
    (e_gg8 : PySem.W.findIn K (.ref ca8) "__getattr__" = some none)
    (e_ha8 : PySem.W.findIn K (.ref ca8) "__class__" = some (some (.builtin "object.__class__")))
    (e_nf8 : PySem.W.findIn K (.ref ca8) "why" = some none)
    (e_x9 : K.lookup ca9 = some (excClassObj "BadObject" q9 ca9 N9 bs9 [.ref ca18, .type "ValueError", .type "Exception", .type "BaseException", .type "object"] true sn9 sub9 ab9 col9 dd9 m9_0 m9_1 m9_2 m9_3 m9_5 "ValueError.__new__"))
    (e_sa9 : PySem.W.findIn K (.ref ca9) "__setattr__" = some (some (.builtin "object.__setattr__")))
    (e_kC9 : PySem.W.keepIn K (.ref ca9) = true)
    (e_iC9 : PySem.W.findIn K (.ref ca9) "__init__" = some (some (.ref i9)))
    (e_ga9 : PySem.W.findIn K (.ref ca9) "__getattribute__" = some (some (.builtin "BaseException.__getattribute__")))
    (e_gg9 : PySem.W.findIn K (.ref ca9) "__getattr__" = some none)
    (e_ha9 : PySem.W.findIn K (.ref ca9) "__class__" = some (some (.builtin "object.__class__")))
    (e_nf9 : PySem.W.findIn K (.ref ca9) "at" = some none)
    (e_x10 : K.lookup ca10 = some (excClassObj "BadPack" q10 ca10 N10 bs10 [.ref ca18, .type "ValueError", .type "Exception", .type "BaseException", .type "object"] true sn10 sub10 ab10 col10 dd10 m10_0 m10_1 m10_2 m10_3 m10_5 "ValueError.__new__"))
    (e_sa10 : PySem.W.findIn K (.ref ca10) "__setattr__" = some (some (.builtin "object.__setattr__")))
    (e_kC10 : PySem.W.keepIn K (.ref ca10) = true)
    (e_iC10 : PySem.W.findIn K (.ref ca10) "__init__" = some (some (.ref i10)))
    (e_ga10 : PySem.W.findIn K (.ref ca10) "__getattribute__" = some (some (.builtin "BaseException.__getattribute__")))
    (e_gg10 : PySem.W.findIn K (.ref ca10) "__getattr__" = some none)
    (e_ha10 : PySem.W.findIn K (.ref ca10) "__class__" = some (some (.builtin "object.__class__")))
    (e_nf10 : PySem.W.findIn K (.ref ca10) "at" = some none)
    (e_x11 : K.lookup ca11 = some (excClassObj "BadExpression" q11 ca11 N11 bs11 [.ref ca18, .type "ValueError", .type "Exception", .type "BaseException", .type "object"] true sn11 sub11 ab11 col11 dd11 m11_0 m11_1 m11_2 m11_3 m11_5 "ValueError.__new__"))
    (e_sa11 : PySem.W.findIn K (.ref ca11) "__setattr__" = some (some (.builtin "object.__setattr__")))
    (e_kC11 : PySem.W.keepIn K (.ref ca11) = true)
    (e_iC11 : PySem.W.findIn K (.ref ca11) "__init__" = some (some (.ref i11)))
    (e_ga11 : PySem.W.findIn K (.ref ca11) "__getattribute__" = some (some (.builtin "BaseException.__getattribute__")))
    (e_gg11 : PySem.W.findIn K (.ref ca11) "__getattr__" = some none)
    (e_ha11 : PySem.W.findIn K (.ref ca11) "__class__" = some (some (.builtin "object.__class__")))
    (e_nf11 : PySem.W.findIn K (.ref ca11) "at" = some none)
    (e_x12 : K.lookup ca12 = some (excClassObj "Clash" q12 ca12 N12 bs12 [.ref ca18, .type "ValueError", .type "Exception", .type "BaseException", .type "object"] true sn12 sub12 ab12 col12 dd12 m12_0 m12_1 m12_2 m12_3 m12_5 "ValueError.__new__"))
    (e_sa12 : PySem.W.findIn K (.ref ca12) "__setattr__" = some (some (.builtin "object.__setattr__")))
    (e_kC12 : PySem.W.keepIn K (.ref ca12) = true)
    (e_iC12 : PySem.W.findIn K (.ref ca12) "__init__" = some (some (.ref i12)))
    (e_ga12 : PySem.W.findIn K (.ref ca12) "__getattribute__" = some (some (.builtin "BaseException.__getattribute__")))
    (e_gg12 : PySem.W.findIn K (.ref ca12) "__getattr__" = some none)
    (e_ha12 : PySem.W.findIn K (.ref ca12) "__class__" = some (some (.builtin "object.__class__")))
    (e_nf12 : PySem.W.findIn K (.ref ca12) "name" = some none)
    (e_x13 : K.lookup ca13 = some (excClassObj "Conflict" q13 ca13 N13 bs13 [.ref ca18, .type "ValueError", .type "Exception", .type "BaseException", .type "object"] true sn13 sub13 ab13 col13 dd13 m13_0 m13_1 m13_2 m13_3 m13_5 "ValueError.__new__"))
    (e_sa13 : PySem.W.findIn K (.ref ca13) "__setattr__" = some (some (.builtin "object.__setattr__")))
    (e_kC13 : PySem.W.keepIn K (.ref ca13) = true)
    (e_iC13 : PySem.W.findIn K (.ref ca13) "__init__" = some (some (.ref i13)))
    (e_ga13 : PySem.W.findIn K (.ref ca13) "__getattribute__" = some (some (.builtin "BaseException.__getattribute__")))
    (e_gg13 : PySem.W.findIn K (.ref ca13) "__getattr__" = some none)
    (e_ha13 : PySem.W.findIn K (.ref ca13) "__class__" = some (some (.builtin "object.__class__")))
    (e_nf13 : PySem.W.findIn K (.ref ca13) "paths" = some none)
    (e_x14 : K.lookup ca14 = some (excClassObj "Locked" q14 ca14 N14 bs14 [.ref ca18, .type "ValueError", .type "Exception", .type "BaseException", .type "object"] true sn14 sub14 ab14 col14 dd14 m14_0 m14_1 m14_2 m14_3 m14_5 "ValueError.__new__"))
    (e_sa14 : PySem.W.findIn K (.ref ca14) "__setattr__" = some (some (.builtin "object.__setattr__")))
    (e_kC14 : PySem.W.keepIn K (.ref ca14) = true)
    (e_iC14 : PySem.W.findIn K (.ref ca14) "__init__" = some (some (.ref i14)))
    (e_ga14 : PySem.W.findIn K (.ref ca14) "__getattribute__" = some (some (.builtin "BaseException.__getattribute__")))
    (e_gg14 : PySem.W.findIn K (.ref ca14) "__getattr__" = some none)
    (e_ha14 : PySem.W.findIn K (.ref ca14) "__class__" = some (some (.builtin "object.__class__")))
    (e_nf14 : PySem.W.findIn K (.ref ca14) "ref" = some none)
    (e_x15 : K.lookup ca15 = some (excClassObj "Stale" q15 ca15 N15 bs15 [.ref ca18, .type "ValueError", .type "Exception", .type "BaseException", .type "object"] true sn15 sub15 ab15 col15 dd15 m15_0 m15_1 m15_2 m15_3 m15_5 "ValueError.__new__"))
    (e_sa15 : PySem.W.findIn K (.ref ca15) "__setattr__" = some (some (.builtin "object.__setattr__")))
    (e_kC15 : PySem.W.keepIn K (.ref ca15) = true)
    (e_iC15 : PySem.W.findIn K (.ref ca15) "__init__" = some (some (.ref i15)))
    (e_ga15 : PySem.W.findIn K (.ref ca15) "__getattribute__" = some (some (.builtin "BaseException.__getattribute__")))
    (e_gg15 : PySem.W.findIn K (.ref ca15) "__getattr__" = some none)
    (e_ha15 : PySem.W.findIn K (.ref ca15) "__class__" = some (some (.builtin "object.__class__")))
    (e_nf15 : PySem.W.findIn K (.ref ca15) "ref" = some none)
    (e_x16 : K.lookup ca16 = some (excClassObj "NoObject" q16 ca16 N16 bs16 [.type "KeyError", .type "LookupError", .type "Exception", .type "BaseException", .type "object"] true sn16 sub16 ab16 col16 dd16 m16_0 m16_1 m16_2 m16_3 m16_5 "LookupError.__new__"))
    (e_sa16 : PySem.W.findIn K (.ref ca16) "__setattr__" = some (some (.builtin "object.__setattr__")))
    (e_kC16 : PySem.W.keepIn K (.ref ca16) = true)
    (e_iC16 : PySem.W.findIn K (.ref ca16) "__init__" = some (some (.ref i16)))
    (e_ga16 : PySem.W.findIn K (.ref ca16) "__getattribute__" = some (some (.builtin "BaseException.__getattribute__")))
    (e_gg16 : PySem.W.findIn K (.ref ca16) "__getattr__" = some none)
    (e_ha16 : PySem.W.findIn K (.ref ca16) "__class__" = some (some (.builtin "object.__class__")))
    (e_nf16 : PySem.W.findIn K (.ref ca16) "name" = some none)
    (e_x17 : K.lookup ca17 = some (excClassObj "NoRef" q17 ca17 N17 bs17 [.type "KeyError", .type "LookupError", .type "Exception", .type "BaseException", .type "object"] true sn17 sub17 ab17 col17 dd17 m17_0 m17_1 m17_2 m17_3 m17_5 "LookupError.__new__"))
    (e_sa17 : PySem.W.findIn K (.ref ca17) "__setattr__" = some (some (.builtin "object.__setattr__")))
    (e_kC17 : PySem.W.keepIn K (.ref ca17) = true)
    (e_iC17 : PySem.W.findIn K (.ref ca17) "__init__" = some (some (.ref i17)))
    (e_ga17 : PySem.W.findIn K (.ref ca17) "__getattribute__" = some (some (.builtin "BaseException.__getattribute__")))
    (e_gg17 : PySem.W.findIn K (.ref ca17) "__getattr__" = some none)
    (e_ha17 : PySem.W.findIn K (.ref ca17) "__class__" = some (some (.builtin "object.__class__")))
    (e_nf17 : PySem.W.findIn K (.ref ca17) "name" = some none)
    (e_x18 : K.lookup ca18 = some (excClassObj "ForkError" q18 ca18 N18 bs18 [.type "ValueError", .type "Exception", .type "BaseException", .type "object"] true sn18 sub18 ab18 col18 dd18 m18_0 m18_1 m18_2 m18_3 m18_5 "ValueError.__new__"))
    (e_sa18 : PySem.W.findIn K (.ref ca18) "__setattr__" = some (some (.builtin "object.__setattr__")))
    (e_kC18 : PySem.W.keepIn K (.ref ca18) = true)
    (e_iC18 : PySem.W.findIn K (.ref ca18) "__init__" = some (some (.ref i18)))
    (e_ga18 : PySem.W.findIn K (.ref ca18) "__getattribute__" = some (some (.builtin "BaseException.__getattribute__")))
    (e_gg18 : PySem.W.findIn K (.ref ca18) "__getattr__" = some none)
    (e_ha18 : PySem.W.findIn K (.ref ca18) "__class__" = some (some (.builtin "object.__class__")))
    (e_nf18 : PySem.W.findIn K (.ref ca18) "why" = some none)
    (e_hn : PySem.W.specialIn K (.builtin "object.__class__") "__get__" = some (some (.builtin "getset_descriptor.__get__")))
    (e_ht : PySem.W.takesIn K (.builtin "object.__class__") = some true)
    (e_t9 : PySem.W.typeIn K (.ref i9) = some (.type "function"))
    (e_l9 : K.lookup i9 = some ⟨zoc9, zod9, .func (PySem.W.fnOf "__init__" "BadObject.__init__" (C8.fnArgs s_BadObject_init) (C8.fnBody s_BadObject_init) (C8.fnScope s_BadObject_init) .none zkV9 zdc9 zpm9 zan9 zcd9 zct9), zsl9⟩)
    (e_c9 : PySem.W.codeIn K zcd9 "BadObject.__init__" = true)
    (e_t10 : PySem.W.typeIn K (.ref i10) = some (.type "function"))
    (e_l10 : K.lookup i10 = some ⟨zoc10, zod10, .func (PySem.W.fnOf "__init__" "BadPack.__init__" (C8.fnArgs s_BadPack_init) (C8.fnBody s_BadPack_init) (C8.fnScope s_BadPack_init) .none zkV10 zdc10 zpm10 zan10 zcd10 zct10), zsl10⟩)
    (e_c10 : PySem.W.codeIn K zcd10 "BadPack.__init__" = true)
    (e_t11 : PySem.W.typeIn K (.ref i11) = some (.type "function"))
    (e_l11 : K.lookup i11 = some ⟨zoc11, zod11, .func (PySem.W.fnOf "__init__" "BadExpression.__init__" (C8.fnArgs s_BadExpression_init) (C8.fnBody s_BadExpression_init) (C8.fnScope s_BadExpression_init) .none zkV11 zdc11 zpm11 zan11 zcd11 zct11), zsl11⟩)
    (e_c11 : PySem.W.codeIn K zcd11 "BadExpression.__init__" = true)
    (e_t12 : PySem.W.typeIn K (.ref i12) = some (.type "function"))
    (e_l12 : K.lookup i12 = some ⟨zoc12, zod12, .func (PySem.W.fnOf "__init__" "Clash.__init__" (C8.fnArgs s_Clash_init) (C8.fnBody s_Clash_init) (C8.fnScope s_Clash_init) .none zkV12 zdc12 zpm12 zan12 zcd12 zct12), zsl12⟩)
    (e_c12 : PySem.W.codeIn K zcd12 "Clash.__init__" = true)
    (e_t13 : PySem.W.typeIn K (.ref i13) = some (.type "function"))
    (e_l13 : K.lookup i13 = some ⟨zoc13, zod13, .func (PySem.W.fnOf "__init__" "Conflict.__init__" (C8.fnArgs s_Conflict_init) (C8.fnBody s_Conflict_init) (C8.fnScope s_Conflict_init) .none zkV13 zdc13 zpm13 zan13 zcd13 zct13), zsl13⟩)
    (e_c13 : PySem.W.codeIn K zcd13 "Conflict.__init__" = true)
    (e_t14 : PySem.W.typeIn K (.ref i14) = some (.type "function"))
    (e_l14 : K.lookup i14 = some ⟨zoc14, zod14, .func (PySem.W.fnOf "__init__" "Locked.__init__" (C8.fnArgs s_Locked_init) (C8.fnBody s_Locked_init) (C8.fnScope s_Locked_init) .none zkV14 zdc14 zpm14 zan14 zcd14 zct14), zsl14⟩)
    (e_c14 : PySem.W.codeIn K zcd14 "Locked.__init__" = true)
    (e_t15 : PySem.W.typeIn K (.ref i15) = some (.type "function"))
    (e_l15 : K.lookup i15 = some ⟨zoc15, zod15, .func (PySem.W.fnOf "__init__" "Stale.__init__" (C8.fnArgs s_Stale_init) (C8.fnBody s_Stale_init) (C8.fnScope s_Stale_init) .none zkV15 zdc15 zpm15 zan15 zcd15 zct15), zsl15⟩)
    (e_c15 : PySem.W.codeIn K zcd15 "Stale.__init__" = true)
    (e_t16 : PySem.W.typeIn K (.ref i16) = some (.type "function"))
    (e_l16 : K.lookup i16 = some ⟨zoc16, zod16, .func (PySem.W.fnOf "__init__" "NoObject.__init__" (C8.fnArgs s_NoObject_init) (C8.fnBody s_NoObject_init) (C8.fnScope s_NoObject_init) .none zkV16 zdc16 zpm16 zan16 zcd16 zct16), zsl16⟩)
    (e_c16 : PySem.W.codeIn K zcd16 "NoObject.__init__" = true)
    (e_t17 : PySem.W.typeIn K (.ref i17) = some (.type "function"))
    (e_l17 : K.lookup i17 = some ⟨zoc17, zod17, .func (PySem.W.fnOf "__init__" "NoRef.__init__" (C8.fnArgs s_NoRef_init) (C8.fnBody s_NoRef_init) (C8.fnScope s_NoRef_init) .none zkV17 zdc17 zpm17 zan17 zcd17 zct17), zsl17⟩)
    (e_c17 : PySem.W.codeIn K zcd17 "NoRef.__init__" = true)
    (e_t18 : PySem.W.typeIn K (.ref i18) = some (.type "function"))
    (e_l18 : K.lookup i18 = some ⟨zoc18, zod18, .func (PySem.W.fnOf "__init__" "ForkError.__init__" (C8.fnArgs s_ForkError_init) (C8.fnBody s_ForkError_init) (C8.fnScope s_ForkError_init) (.ref dT) zkV18 zdc18 zpm18 zan18 zcd18 zct18), zsl18⟩)
    (e_c18 : PySem.W.codeIn K zcd18 "ForkError.__init__" = true)
    (e_kp : PySem.W.keepIn K (.ref i18) = true)
    (e_dT : K.lookup dT = some ⟨tcd, tod, .seq #[.str (Str.ofString "") tkd] tn, tsl⟩)
    : ∃ fd : FuncData, (∀ (s : Shared) (v : Value), BindsTo s fd ⟨[v], []⟩ [("_law_script", v)]) ∧ ∀ base : Heap, K.In base → base.Ns mainGlobals mg → FnOk l.prog w K mg base C8.CX0 4 fa fd ["_law_script"] (spLaw K) := by
  have e := hfa.symm.trans (PySem.W.mg_of X G a15)
  cases e
  have T : Top K mg := {
    d_l_cell_at := ⟨_, _, ⟨⟨⟨_, _, _, _, _, _, _, _, _, _, rfl, l1, c1⟩⟩, PySem.W.mg_of X G a1, k1⟩, rfl⟩
    d_l_well := ⟨_, _, ⟨⟨⟨_, _, _, _, _, _, _, _, _, _, rfl, l2, c2⟩⟩, PySem.W.mg_of X G a2, k2⟩, rfl⟩
    d_l_draw := ⟨_, _, ⟨⟨⟨_, _, _, _, _, _, _, _, _, _, rfl, l3, c3⟩⟩, PySem.W.mg_of X G a3, k3⟩, rfl⟩
    d_l_pick := ⟨_, _, ⟨⟨⟨_, _, _, _, _, _, _, _, _, _, rfl, l4, c4⟩⟩, PySem.W.mg_of X G a4, k4⟩, rfl⟩
    d_l_signs := ⟨_, _, ⟨⟨⟨_, _, _, _, _, _, _, _, _, _, rfl, l5, c5⟩⟩, PySem.W.mg_of X G a5, k5⟩, rfl⟩
    d_l_all_signs := ⟨_, _, ⟨⟨⟨_, _, _, _, _, _, _, _, _, _, rfl, l6, c6⟩⟩, PySem.W.mg_of X G a6, k6⟩, rfl⟩
    d_l_text := ⟨_, _, ⟨⟨⟨_, _, _, _, _, _, _, _, _, _, rfl, l7, c7⟩⟩, PySem.W.mg_of X G a7, k7⟩, rfl⟩
    d_l_id := ⟨_, _, ⟨⟨⟨_, _, _, _, _, _, _, _, _, _, rfl, l8, c8⟩⟩, PySem.W.mg_of X G a8, k8⟩, rfl⟩
    d_l_marks := ⟨_, _, ⟨⟨⟨_, _, _, _, _, _, _, _, _, _, rfl, l9, c9⟩⟩, PySem.W.mg_of X G a9, k9⟩, rfl⟩
    d_l_bases := ⟨_, _, ⟨⟨⟨_, _, _, _, _, _, _, _, _, _, rfl, l10, c10⟩⟩, PySem.W.mg_of X G a10, k10⟩, rfl⟩
    d_l_plain := ⟨_, _, ⟨⟨⟨_, _, _, _, _, _, _, _, _, _, rfl, l11, c11⟩⟩, PySem.W.mg_of X G a11, k11⟩, rfl⟩
    d_l_fielded := ⟨_, _, ⟨⟨⟨_, _, _, _, _, _, _, _, _, _, rfl, l12, c12⟩⟩, PySem.W.mg_of X G a12, k12⟩, rfl⟩
    d_l_field := ⟨_, _, ⟨⟨⟨_, _, _, _, _, _, _, _, _, _, rfl, l13, c13⟩⟩, PySem.W.mg_of X G a13, k13⟩, rfl⟩
    d_l_catches := ⟨_, _, ⟨⟨⟨_, _, _, _, _, _, _, _, _, _, rfl, l14, c14⟩⟩, PySem.W.mg_of X G a14, k14⟩, rfl⟩
    d_law := ⟨_, _, ⟨⟨⟨_, _, _, _, _, _, _, _, _, _, rfl, l15, c15⟩⟩, PySem.W.mg_of X G a15, k15⟩, rfl⟩
    z_IndexError := PySem.W.mg_none_of X G z_IndexError
    z_KeyError := PySem.W.mg_none_of X G z_KeyError
    z_RuntimeError := PySem.W.mg_none_of X G z_RuntimeError
    z_TypeError := PySem.W.mg_none_of X G z_TypeError
    z_ValueError := PySem.W.mg_none_of X G z_ValueError
    z_int := PySem.W.mg_none_of X G z_int
    z_isinstance := PySem.W.mg_none_of X G z_isinstance
    z_len := PySem.W.mg_none_of X G z_len
    z_min := PySem.W.mg_none_of X G z_min
    z_range := PySem.W.mg_none_of X G z_range
    z_str := PySem.W.mg_none_of X G z_str }
  have A : ∀ j, j < 19 → CA K mg (nameOf j) (fieldOf j) (newOf j) (bmOf ((fun j => ([ca0, ca1, ca2, ca3, ca4, ca5, ca6, ca7, ca8, ca9, ca10, ca11, ca12, ca13, ca14, ca15, ca16, ca17, ca18] : List Addr).getD j 0) 18) j) ((fun j => ([ca0, ca1, ca2, ca3, ca4, ca5, ca6, ca7, ca8, ca9, ca10, ca11, ca12, ca13, ca14, ca15, ca16, ca17, ca18] : List Addr).getD j 0) j) ((fun j => ([i18, i18, i18, i18, i18, i18, i18, i18, i18, i9, i10, i11, i12, i13, i14, i15, i16, i17, i18] : List Addr).getD j 0) j) := fun j hj => match j, hj with
    | 0, _ => ⟨PySem.W.mg_of X G e_mg0, ⟨_, _, _, _, _, _, _, _, _, _, _, _, _, e_x0⟩, e_sa0, e_kC0, e_iC0, e_ga0, e_gg0, e_ha0, e_nf0⟩
    | 1, _ => ⟨PySem.W.mg_of X G e_mg1, ⟨_, _, _, _, _, _, _, _, _, _, _, _, _, e_x1⟩, e_sa1, e_kC1, e_iC1, e_ga1, e_gg1, e_ha1, e_nf1⟩
    | 2, _ => ⟨PySem.W.mg_of X G e_mg2, ⟨_, _, _, _, _, _, _, _, _, _, _, _, _, e_x2⟩, e_sa2, e_kC2, e_iC2, e_ga2, e_gg2, e_ha2, e_nf2⟩
    | 3, _ => ⟨PySem.W.mg_of X G e_mg3, ⟨_, _, _, _, _, _, _, _, _, _, _, _, _, e_x3⟩, e_sa3, e_kC3, e_iC3, e_ga3, e_gg3, e_ha3, e_nf3⟩
    | 4, _ => ⟨PySem.W.mg_of X G e_mg4, ⟨_, _, _, _, _, _, _, _, _, _, _, _, _, e_x4⟩, e_sa4, e_kC4, e_iC4, e_ga4, e_gg4, e_ha4, e_nf4⟩
    | 5, _ => ⟨PySem.W.mg_of X G e_mg5, ⟨_, _, _, _, _, _, _, _, _, _, _, _, _, e_x5⟩, e_sa5, e_kC5, e_iC5, e_ga5, e_gg5, e_ha5, e_nf5⟩
    | 6, _ => ⟨PySem.W.mg_of X G e_mg6, ⟨_, _, _, _, _, _, _, _, _, _, _, _, _, e_x6⟩, e_sa6, e_kC6, e_iC6, e_ga6, e_gg6, e_ha6, e_nf6⟩
    | 7, _ => ⟨PySem.W.mg_of X G e_mg7, ⟨_, _, _, _, _, _, _, _, _, _, _, _, _, e_x7⟩, e_sa7, e_kC7, e_iC7, e_ga7, e_gg7, e_ha7, e_nf7⟩
    | 8, _ => ⟨PySem.W.mg_of X G e_mg8, ⟨_, _, _, _, _, _, _, _, _, _, _, _, _, e_x8⟩, e_sa8, e_kC8, e_iC8, e_ga8, e_gg8, e_ha8, e_nf8⟩
    | 9, _ => ⟨PySem.W.mg_of X G e_mg9, ⟨_, _, _, _, _, _, _, _, _, _, _, _, _, e_x9⟩, e_sa9, e_kC9, e_iC9, e_ga9, e_gg9, e_ha9, e_nf9⟩
    | 10, _ => ⟨PySem.W.mg_of X G e_mg10, ⟨_, _, _, _, _, _, _, _, _, _, _, _, _, e_x10⟩, e_sa10, e_kC10, e_iC10, e_ga10, e_gg10, e_ha10, e_nf10⟩
    | 11, _ => ⟨PySem.W.mg_of X G e_mg11, ⟨_, _, _, _, _, _, _, _, _, _, _, _, _, e_x11⟩, e_sa11, e_kC11, e_iC11, e_ga11, e_gg11, e_ha11, e_nf11⟩
    | 12, _ => ⟨PySem.W.mg_of X G e_mg12, ⟨_, _, _, _, _, _, _, _, _, _, _, _, _, e_x12⟩, e_sa12, e_kC12, e_iC12, e_ga12, e_gg12, e_ha12, e_nf12⟩
    | 13, _ => ⟨PySem.W.mg_of X G e_mg13, ⟨_, _, _, _, _, _, _, _, _, _, _, _, _, e_x13⟩, e_sa13, e_kC13, e_iC13, e_ga13, e_gg13, e_ha13, e_nf13⟩
    | 14, _ => ⟨PySem.W.mg_of X G e_mg14, ⟨_, _, _, _, _, _, _, _, _, _, _, _, _, e_x14⟩, e_sa14, e_kC14, e_iC14, e_ga14, e_gg14, e_ha14, e_nf14⟩
    | 15, _ => ⟨PySem.W.mg_of X G e_mg15, ⟨_, _, _, _, _, _, _, _, _, _, _, _, _, e_x15⟩, e_sa15, e_kC15, e_iC15, e_ga15, e_gg15, e_ha15, e_nf15⟩
    | 16, _ => ⟨PySem.W.mg_of X G e_mg16, ⟨_, _, _, _, _, _, _, _, _, _, _, _, _, e_x16⟩, e_sa16, e_kC16, e_iC16, e_ga16, e_gg16, e_ha16, e_nf16⟩
    | 17, _ => ⟨PySem.W.mg_of X G e_mg17, ⟨_, _, _, _, _, _, _, _, _, _, _, _, _, e_x17⟩, e_sa17, e_kC17, e_iC17, e_ga17, e_gg17, e_ha17, e_nf17⟩
    | 18, _ => ⟨PySem.W.mg_of X G e_mg18, ⟨_, _, _, _, _, _, _, _, _, _, _, _, _, e_x18⟩, e_sa18, e_kC18, e_iC18, e_ga18, e_gg18, e_ha18, e_nf18⟩
    | n + 19, h => absurd h (by omega)
  have tI : ∀ j, j < 19 → PySem.W.typeIn K (.ref ((fun j => ([i18, i18, i18, i18, i18, i18, i18, i18, i18, i9, i10, i11, i12, i13, i14, i15, i16, i17, i18] : List Addr).getD j 0) j)) = some (.type "function") := fun j hj => match j, hj with
    | 0, _ => e_t18
    | 1, _ => e_t18
    | 2, _ => e_t18
    | 3, _ => e_t18
    | 4, _ => e_t18
    | 5, _ => e_t18
    | 6, _ => e_t18
    | 7, _ => e_t18
    | 8, _ => e_t18
    | 9, _ => e_t9
    | 10, _ => e_t10
    | 11, _ => e_t11
    | 12, _ => e_t12
    | 13, _ => e_t13
    | 14, _ => e_t14
    | 15, _ => e_t15
    | 16, _ => e_t16
    | 17, _ => e_t17
    | 18, _ => e_t18
    | n + 19, h => absurd h (by omega)
  have FD : FunD K "__init__" "ForkError.__init__" (C8.fnArgs s_ForkError_init) (C8.fnBody s_ForkError_init) (C8.fnScope s_ForkError_init) [V.str ""] [] i18 (PySem.W.fnOf "__init__" "ForkError.__init__" (C8.fnArgs s_ForkError_init) (C8.fnBody s_ForkError_init) (C8.fnScope s_ForkError_init) (.ref dT) zkV18 zdc18 zpm18 zan18 zcd18 zct18) :=
    ⟨⟨_, _, _, _, _, _, _, _, _, _, rfl, e_l18, e_c18, .inr ⟨(fun z => by cases z), dT, _, [.str (Str.ofString "") tkd], tn, rfl, e_dT, rfl, .cons ⟨tkd, rfl⟩ .nil⟩, .inl rfl⟩, e_kp⟩
  have ini18 : ∃ fd, (∀ (P : Program) (w : World) (base : Heap), FnOk P w K mg base C8.CX0 1 i18 fd ["self", "why"] (spErr K "why")) ∧ Binds K fd ["self", "why"] [] ∧
      (∀ (s : Shared) (self : Value) (ws : List Value), K.In s.heap → ws.length = 1 → BindsTo s fd ⟨[self], (["why"] : List Str).zip ws⟩ ((["self", "why"] : List Str).zip (self :: ws))) ∧ (("why" : Str) = "why" → ∃ ds, Vals [V.str ""] ds ∧ Binds K fd ["self", "why"] ds) := by
    refine ⟨_, fun P w base => ini_ForkError ⟨⟨_, _, _, _, _, _, _, _, _, _, rfl, e_l18, e_c18⟩⟩, ?_, ?_, fun _ => ?_⟩
    · obtain ⟨ds, v, b⟩ := FD.binds1 (ps := ["self", "why"]) 2 1 (fun z => by cases z) rfl (fun T kV doc pm an cdv ct us its h1 h2 => match us, its, h1, h2 with | [_, _], [_], _, _ => ⟨_, rfl, rfl⟩)
      cases v
      exact b
    · obtain ⟨its, kb⟩ := FD.kbindsD (ps := ["self", "why"]) 1 ["why"] (fun us _ ws => us ++ ws) (fun z => by cases z) (fun r1 _ r3 => r1.append r3) (fun T kV doc pm an cdv ct us its ws h1 h2 h3 => match us, its, ws, h1, h2, h3 with | [_], [_], [_], _, _, _ => ⟨_, rfl, rfl⟩)
      exact fun s self ws Xs hl => kb.to s [self] ws Xs rfl hl
    · exact FD.binds1 (ps := ["self", "why"]) 1 0 (fun z => by cases z) rfl (fun T kV doc pm an cdv ct us its h1 h2 => match us, its, h1, h2 with | [_], [_], _, _ => ⟨_, rfl, rfl⟩)
  have ini9 : ∃ fd, (∀ (P : Program) (w : World) (base : Heap), FnOk P w K mg base C8.CX0 1 i9 fd ["self", "at"] (spErr K "at")) ∧ Binds K fd ["self", "at"] [] ∧
      (∀ (s : Shared) (self : Value) (ws : List Value), K.In s.heap → ws.length = 1 → BindsTo s fd ⟨[self], (["at"] : List Str).zip ws⟩ ((["self", "at"] : List Str).zip (self :: ws))) ∧ (("at" : Str) = "why" → ∃ ds, Vals [V.str ""] ds ∧ Binds K fd ["self", "at"] ds) := by
    have F : C8.Fun K "__init__" "BadObject.__init__" s_BadObject_init i9 (PySem.W.fnOf "__init__" "BadObject.__init__" (C8.fnArgs s_BadObject_init) (C8.fnBody s_BadObject_init) (C8.fnScope s_BadObject_init) .none zkV9 zdc9 zpm9 zan9 zcd9 zct9) := ⟨⟨_, _, _, _, _, _, _, _, _, _, rfl, e_l9, e_c9⟩⟩
    exact ⟨_, fun P w base => ini_BadObject F, F.binds rfl (fun _ _ _ _ _ _ us hl => match us, hl with | [_, _], _ => rfl), fun s self ws _ hl => match ws, hl with | [_], _ => .of_eq rfl, fun z => absurd z (by decide)⟩
  have ini10 : ∃ fd, (∀ (P : Program) (w : World) (base : Heap), FnOk P w K mg base C8.CX0 1 i10 fd ["self", "at"] (spErr K "at")) ∧ Binds K fd ["self", "at"] [] ∧
      (∀ (s : Shared) (self : Value) (ws : List Value), K.In s.heap → ws.length = 1 → BindsTo s fd ⟨[self], (["at"] : List Str).zip ws⟩ ((["self", "at"] : List Str).zip (self :: ws))) ∧ (("at" : Str) = "why" → ∃ ds, Vals [V.str ""] ds ∧ Binds K fd ["self", "at"] ds) := by
    have F : C8.Fun K "__init__" "BadPack.__init__" s_BadPack_init i10 (PySem.W.fnOf "__init__" "BadPack.__init__" (C8.fnArgs s_BadPack_init) (C8.fnBody s_BadPack_init) (C8.fnScope s_BadPack_init) .none zkV10 zdc10 zpm10 zan10 zcd10 zct10) := ⟨⟨_, _, _, _, _, _, _, _, _, _, rfl, e_l10, e_c10⟩⟩
    exact ⟨_, fun P w base => ini_BadPack F, F.binds rfl (fun _ _ _ _ _ _ us hl => match us, hl with | [_, _], _ => rfl), fun s self ws _ hl => match ws, hl with | [_], _ => .of_eq rfl, fun z => absurd z (by decide)⟩
  have ini11 : ∃ fd, (∀ (P : Program) (w : World) (base : Heap), FnOk P w K mg base C8.CX0 1 i11 fd ["self", "at"] (spErr K "at")) ∧ Binds K fd ["self", "at"] [] ∧
      (∀ (s : Shared) (self : Value) (ws : List Value), K.In s.heap → ws.length = 1 → BindsTo s fd ⟨[self], (["at"] : List Str).zip ws⟩ ((["self", "at"] : List Str).zip (self :: ws))) ∧ (("at" : Str) = "why" → ∃ ds, Vals [V.str ""] ds ∧ Binds K fd ["self", "at"] ds) := by
    have F : C8.Fun K "__init__" "BadExpression.__init__" s_BadExpression_init i11 (PySem.W.fnOf "__init__" "BadExpression.__init__" (C8.fnArgs s_BadExpression_init) (C8.fnBody s_BadExpression_init) (C8.fnScope s_BadExpression_init) .none zkV11 zdc11 zpm11 zan11 zcd11 zct11) := ⟨⟨_, _, _, _, _, _, _, _, _, _, rfl, e_l11, e_c11⟩⟩
    exact ⟨_, fun P w base => ini_BadExpression F, F.binds rfl (fun _ _ _ _ _ _ us hl => match us, hl with | [_, _], _ => rfl), fun s self ws _ hl => match ws, hl with | [_], _ => .of_eq rfl, fun z => absurd z (by decide)⟩
  have ini12 : ∃ fd, (∀ (P : Program) (w : World) (base : Heap), FnOk P w K mg base C8.CX0 1 i12 fd ["self", "name"] (spErr K "name")) ∧ Binds K fd ["self", "name"] [] ∧
      (∀ (s : Shared) (self : Value) (ws : List Value), K.In s.heap → ws.length = 1 → BindsTo s fd ⟨[self], (["name"] : List Str).zip ws⟩ ((["self", "name"] : List Str).zip (self :: ws))) ∧ (("name" : Str) = "why" → ∃ ds, Vals [V.str ""] ds ∧ Binds K fd ["self", "name"] ds) := by
    have F : C8.Fun K "__init__" "Clash.__init__" s_Clash_init i12 (PySem.W.fnOf "__init__" "Clash.__init__" (C8.fnArgs s_Clash_init) (C8.fnBody s_Clash_init) (C8.fnScope s_Clash_init) .none zkV12 zdc12 zpm12 zan12 zcd12 zct12) := ⟨⟨_, _, _, _, _, _, _, _, _, _, rfl, e_l12, e_c12⟩⟩
    exact ⟨_, fun P w base => ini_Clash F, F.binds rfl (fun _ _ _ _ _ _ us hl => match us, hl with | [_, _], _ => rfl), fun s self ws _ hl => match ws, hl with | [_], _ => .of_eq rfl, fun z => absurd z (by decide)⟩
  have ini13 : ∃ fd, (∀ (P : Program) (w : World) (base : Heap), FnOk P w K mg base C8.CX0 1 i13 fd ["self", "paths"] (spErr K "paths")) ∧ Binds K fd ["self", "paths"] [] ∧
      (∀ (s : Shared) (self : Value) (ws : List Value), K.In s.heap → ws.length = 1 → BindsTo s fd ⟨[self], (["paths"] : List Str).zip ws⟩ ((["self", "paths"] : List Str).zip (self :: ws))) ∧ (("paths" : Str) = "why" → ∃ ds, Vals [V.str ""] ds ∧ Binds K fd ["self", "paths"] ds) := by
    have F : C8.Fun K "__init__" "Conflict.__init__" s_Conflict_init i13 (PySem.W.fnOf "__init__" "Conflict.__init__" (C8.fnArgs s_Conflict_init) (C8.fnBody s_Conflict_init) (C8.fnScope s_Conflict_init) .none zkV13 zdc13 zpm13 zan13 zcd13 zct13) := ⟨⟨_, _, _, _, _, _, _, _, _, _, rfl, e_l13, e_c13⟩⟩
    exact ⟨_, fun P w base => ini_Conflict F, F.binds rfl (fun _ _ _ _ _ _ us hl => match us, hl with | [_, _], _ => rfl), fun s self ws _ hl => match ws, hl with | [_], _ => .of_eq rfl, fun z => absurd z (by decide)⟩
  have ini14 : ∃ fd, (∀ (P : Program) (w : World) (base : Heap), FnOk P w K mg base C8.CX0 1 i14 fd ["self", "ref"] (spErr K "ref")) ∧ Binds K fd ["self", "ref"] [] ∧
      (∀ (s : Shared) (self : Value) (ws : List Value), K.In s.heap → ws.length = 1 → BindsTo s fd ⟨[self], (["ref"] : List Str).zip ws⟩ ((["self", "ref"] : List Str).zip (self :: ws))) ∧ (("ref" : Str) = "why" → ∃ ds, Vals [V.str ""] ds ∧ Binds K fd ["self", "ref"] ds) := by
    have F : C8.Fun K "__init__" "Locked.__init__" s_Locked_init i14 (PySem.W.fnOf "__init__" "Locked.__init__" (C8.fnArgs s_Locked_init) (C8.fnBody s_Locked_init) (C8.fnScope s_Locked_init) .none zkV14 zdc14 zpm14 zan14 zcd14 zct14) := ⟨⟨_, _, _, _, _, _, _, _, _, _, rfl, e_l14, e_c14⟩⟩
    exact ⟨_, fun P w base => ini_Locked F, F.binds rfl (fun _ _ _ _ _ _ us hl => match us, hl with | [_, _], _ => rfl), fun s self ws _ hl => match ws, hl with | [_], _ => .of_eq rfl, fun z => absurd z (by decide)⟩
  have ini15 : ∃ fd, (∀ (P : Program) (w : World) (base : Heap), FnOk P w K mg base C8.CX0 1 i15 fd ["self", "ref"] (spErr K "ref")) ∧ Binds K fd ["self", "ref"] [] ∧
      (∀ (s : Shared) (self : Value) (ws : List Value), K.In s.heap → ws.length = 1 → BindsTo s fd ⟨[self], (["ref"] : List Str).zip ws⟩ ((["self", "ref"] : List Str).zip (self :: ws))) ∧ (("ref" : Str) = "why" → ∃ ds, Vals [V.str ""] ds ∧ Binds K fd ["self", "ref"] ds) := by
    have F : C8.Fun K "__init__" "Stale.__init__" s_Stale_init i15 (PySem.W.fnOf "__init__" "Stale.__init__" (C8.fnArgs s_Stale_init) (C8.fnBody s_Stale_init) (C8.fnScope s_Stale_init) .none zkV15 zdc15 zpm15 zan15 zcd15 zct15) := ⟨⟨_, _, _, _, _, _, _, _, _, _, rfl, e_l15, e_c15⟩⟩
    exact ⟨_, fun P w base => ini_Stale F, F.binds rfl (fun _ _ _ _ _ _ us hl => match us, hl with | [_, _], _ => rfl), fun s self ws _ hl => match ws, hl with | [_], _ => .of_eq rfl, fun z => absurd z (by decide)⟩
  have ini16 : ∃ fd, (∀ (P : Program) (w : World) (base : Heap), FnOk P w K mg base C8.CX0 1 i16 fd ["self", "name"] (spErr K "name")) ∧ Binds K fd ["self", "name"] [] ∧
      (∀ (s : Shared) (self : Value) (ws : List Value), K.In s.heap → ws.length = 1 → BindsTo s fd ⟨[self], (["name"] : List Str).zip ws⟩ ((["self", "name"] : List Str).zip (self :: ws))) ∧ (("name" : Str) = "why" → ∃ ds, Vals [V.str ""] ds ∧ Binds K fd ["self", "name"] ds) := by
    have F : C8.Fun K "__init__" "NoObject.__init__" s_NoObject_init i16 (PySem.W.fnOf "__init__" "NoObject.__init__" (C8.fnArgs s_NoObject_init) (C8.fnBody s_NoObject_init) (C8.fnScope s_NoObject_init) .none zkV16 zdc16 zpm16 zan16 zcd16 zct16) := ⟨⟨_, _, _, _, _, _, _, _, _, _, rfl, e_l16, e_c16⟩⟩
    exact ⟨_, fun P w base => ini_NoObject F, F.binds rfl (fun _ _ _ _ _ _ us hl => match us, hl with | [_, _], _ => rfl), fun s self ws _ hl => match ws, hl with | [_], _ => .of_eq rfl, fun z => absurd z (by decide)⟩
  have ini17 : ∃ fd, (∀ (P : Program) (w : World) (base : Heap), FnOk P w K mg base C8.CX0 1 i17 fd ["self", "name"] (spErr K "name")) ∧ Binds K fd ["self", "name"] [] ∧
      (∀ (s : Shared) (self : Value) (ws : List Value), K.In s.heap → ws.length = 1 → BindsTo s fd ⟨[self], (["name"] : List Str).zip ws⟩ ((["self", "name"] : List Str).zip (self :: ws))) ∧ (("name" : Str) = "why" → ∃ ds, Vals [V.str ""] ds ∧ Binds K fd ["self", "name"] ds) := by
    have F : C8.Fun K "__init__" "NoRef.__init__" s_NoRef_init i17 (PySem.W.fnOf "__init__" "NoRef.__init__" (C8.fnArgs s_NoRef_init) (C8.fnBody s_NoRef_init) (C8.fnScope s_NoRef_init) .none zkV17 zdc17 zpm17 zan17 zcd17 zct17) := ⟨⟨_, _, _, _, _, _, _, _, _, _, rfl, e_l17, e_c17⟩⟩
    exact ⟨_, fun P w base => ini_NoRef F, F.binds rfl (fun _ _ _ _ _ _ us hl => match us, hl with | [_, _], _ => rfl), fun s self ws _ hl => match ws, hl with | [_], _ => .of_eq rfl, fun z => absurd z (by decide)⟩
  have TE : TopE K mg (fun j => ([ca0, ca1, ca2, ca3, ca4, ca5, ca6, ca7, ca8, ca9, ca10, ca11, ca12, ca13, ca14, ca15, ca16, ca17, ca18] : List Addr).getD j 0) (fun j => ([i18, i18, i18, i18, i18, i18, i18, i18, i18, i9, i10, i11, i12, i13, i14, i15, i16, i17, i18] : List Addr).getD j 0) := ⟨T, er_of A tI e_hn e_ht fun j hj => match j, hj with
    | 0, _ => ini18
    | 1, _ => ini18
    | 2, _ => ini18
    | 3, _ => ini18
    | 4, _ => ini18
    | 5, _ => ini18
    | 6, _ => ini18
    | 7, _ => ini18
    | 8, _ => ini18
    | 9, _ => ini9
    | 10, _ => ini10
    | 11, _ => ini11
    | 12, _ => ini12
    | 13, _ => ini13
    | 14, _ => ini14
    | 15, _ => ini15
    | 16, _ => ini16
    | 17, _ => ini17
    | 18, _ => ini18
    | n + 19, h => absurd h (by omega)⟩
  exact ⟨PySem.W.fnOf "law" "law" (C8.fnArgs s_law) (C8.fnBody s_law) (C8.fnScope s_law) .none kV15 dc15 pm15 an15 cd15 ct15, fun s v => .of_eq rfl, fun base _ _ => ok_law TE ⟨⟨_, _, _, _, _, _, _, _, _, _, rfl, l15, c15⟩⟩⟩
end Fk
open PySem PySem.W PyProof.Rows
set_option maxHeartbeats 0 in
set_option pp.maxSteps 25 in
theorem PySem.Challenge.cw_forkhaul_k02_errors_and_their_kinds_holds : PySem.Challenge.rw_forkhaul_k02_errors_and_their_kinds.Holds := by
  w_on; o_law; k_head; (case hw => w_witness2)
  k_fill
  refine L2.walk_of (l := PySem.Challenge.rw_forkhaul_k02_errors_and_their_kinds) (n := 63) (k := 4) (x := "_law_script") (CX := fun _ => C8.CX0) (sp := fun w => Fk.spLaw _) rfl (by decide) rfl ⟨rfl, by decide, by decide⟩ (fun w h Y => PySem.W.kIn_of Y) ?F (fun _ _ a ns hl _ hS => ⟨a, ns, rfl, hS, hl, fun _ => rfl⟩) (fun _ _ _ _ _ h => h)
  case F =>
    intro w mg fa h KX G hmg
    refine' Fk.all_mk KX G hmg ?a1 ?l1 ?c1 ?k1 ?a2 ?l2 ?c2 ?k2 ?a3 ?l3 ?c3 ?k3 ?a4 ?l4 ?c4 ?k4 ?a5 ?l5 ?c5 ?k5 ?a6 ?l6 ?c6 ?k6 ?a7 ?l7 ?c7 ?k7 ?a8 ?l8 ?c8 ?k8 ?a9 ?l9 ?c9 ?k9 ?a10 ?l10 ?c10 ?k10 ?a11 ?l11 ?c11 ?k11 ?a12 ?l12 ?c12 ?k12 ?a13 ?l13 ?c13 ?k13 ?a14 ?l14 ?c14 ?k14 ?a15 ?l15 ?c15 ?k15 ?z_IndexError ?z_KeyError ?z_RuntimeError ?z_TypeError ?z_ValueError ?z_int ?z_isinstance ?z_len ?z_min ?z_range ?z_str ?e_mg0 ?e_mg1 ?e_mg2 ?e_mg3 ?e_mg4 ?e_mg5 ?e_mg6 ?e_mg7 ?e_mg8 ?e_mg9 ?e_mg10 ?e_mg11 ?e_mg12 ?e_mg13 ?e_mg14 ?e_mg15 ?e_mg16 ?e_mg17 ?e_mg18 ?e_x0 ?e_sa0 ?e_kC0 ?e_iC0 ?e_ga0 ?e_gg0 ?e_ha0 ?e_nf0 ?e_x1 ?e_sa1 ?e_kC1 ?e_iC1 ?e_ga1 ?e_gg1 ?e_ha1 ?e_nf1 ?e_x2 ?e_sa2 ?e_kC2 ?e_iC2 ?e_ga2 ?e_gg2 ?e_ha2 ?e_nf2 ?e_x3 ?e_sa3 ?e_kC3 ?e_iC3 ?e_ga3 ?e_gg3 ?e_ha3 ?e_nf3 ?e_x4 ?e_sa4 ?e_kC4 ?e_iC4 ?e_ga4 ?e_gg4 ?e_ha4 ?e_nf4 ?e_x5 ?e_sa5 ?e_kC5 ?e_iC5 ?e_ga5 ?e_gg5 ?e_ha5 ?e_nf5 ?e_x6 ?e_sa6 ?e_kC6 ?e_iC6 ?e_ga6 ?e_gg6 ?e_ha6 ?e_nf6 ?e_x7 ?e_sa7 ?e_kC7 ?e_iC7 ?e_ga7 ?e_gg7 ?e_ha7 ?e_nf7 ?e_x8 ?e_sa8 ?e_kC8 ?e_iC8 ?e_ga8 ?e_gg8 ?e_ha8 ?e_nf8 ?e_x9 ?e_sa9 ?e_kC9 ?e_iC9 ?e_ga9 ?e_gg9 ?e_ha9 ?e_nf9 ?e_x10 ?e_sa10 ?e_kC10 ?e_iC10 ?e_ga10 ?e_gg10 ?e_ha10 ?e_nf10 ?e_x11 ?e_sa11 ?e_kC11 ?e_iC11 ?e_ga11 ?e_gg11 ?e_ha11 ?e_nf11 ?e_x12 ?e_sa12 ?e_kC12 ?e_iC12 ?e_ga12 ?e_gg12 ?e_ha12 ?e_nf12 ?e_x13 ?e_sa13 ?e_kC13 ?e_iC13 ?e_ga13 ?e_gg13 ?e_ha13 ?e_nf13 ?e_x14 ?e_sa14 ?e_kC14 ?e_iC14 ?e_ga14 ?e_gg14 ?e_ha14 ?e_nf14 ?e_x15 ?e_sa15 ?e_kC15 ?e_iC15 ?e_ga15 ?e_gg15 ?e_ha15 ?e_nf15 ?e_x16 ?e_sa16 ?e_kC16 ?e_iC16 ?e_ga16 ?e_gg16 ?e_ha16 ?e_nf16 ?e_x17 ?e_sa17 ?e_kC17 ?e_iC17 ?e_ga17 ?e_gg17 ?e_ha17 ?e_nf17 ?e_x18 ?e_sa18 ?e_kC18 ?e_iC18 ?e_ga18 ?e_gg18 ?e_ha18 ?e_nf18 ?e_hn ?e_ht ?e_t9 ?e_l9 ?e_c9 ?e_t10 ?e_l10 ?e_c10 ?e_t11 ?e_l11 ?e_c11 ?e_t12 ?e_l12 ?e_c12 ?e_t13 ?e_l13 ?e_c13 ?e_t14 ?e_l14 ?e_c14 ?e_t15 ?e_l15 ?e_c15 ?e_t16 ?e_l16 ?e_c16 ?e_t17 ?e_l17 ?e_c17 ?e_t18 ?e_l18 ?e_c18 ?e_kp ?e_dT
    (case a1 => k_is); (case l1 => k_is); (case c1 => k_is); (case k1 => k_is); (case a2 => k_is); (case l2 => k_is); (case c2 => k_is); (case k2 => k_is); (case a3 => k_is); (case l3 => k_is); (case c3 => k_is); (case k3 => k_is); (case a4 => k_is); (case l4 => k_is); (case c4 => k_is); (case k4 => k_is); (case a5 => k_is); (case l5 => k_is); (case c5 => k_is); (case k5 => k_is); (case a6 => k_is); (case l6 => k_is); (case c6 => k_is); (case k6 => k_is); (case a7 => k_is); (case l7 => k_is); (case c7 => k_is); (case k7 => k_is); (case a8 => k_is); (case l8 => k_is); (case c8 => k_is); (case k8 => k_is); (case a9 => k_is); (case l9 => k_is); (case c9 => k_is); (case k9 => k_is); (case a10 => k_is); (case l10 => k_is); (case c10 => k_is); (case k10 => k_is); (case a11 => k_is); (case l11 => k_is); (case c11 => k_is); (case k11 => k_is); (case a12 => k_is); (case l12 => k_is); (case c12 => k_is); (case k12 => k_is); (case a13 => k_is); (case l13 => k_is); (case c13 => k_is); (case k13 => k_is); (case a14 => k_is); (case l14 => k_is); (case c14 => k_is); (case k14 => k_is); (case a15 => k_is); (case l15 => k_is); (case c15 => k_is); (case k15 => k_is); (case z_IndexError => k_is); (case z_KeyError => k_is); (case z_RuntimeError => k_is); (case z_TypeError => k_is); (case z_ValueError => k_is); (case z_int => k_is); (case z_isinstance => k_is); (case z_len => k_is); (case z_min => k_is); (case z_range => k_is); (case z_str => k_is); (case e_mg0 => k_is); (case e_mg1 => k_is); (case e_mg2 => k_is); (case e_mg3 => k_is); (case e_mg4 => k_is); (case e_mg5 => k_is); (case e_mg6 => k_is); (case e_mg7 => k_is); (case e_mg8 => k_is); (case e_mg9 => k_is); (case e_mg10 => k_is); (case e_mg11 => k_is); (case e_mg12 => k_is); (case e_mg13 => k_is); (case e_mg14 => k_is); (case e_mg15 => k_is); (case e_mg16 => k_is); (case e_mg17 => k_is); (case e_mg18 => k_is); (case e_x0 => k_is); (case e_sa0 => k_is); (case e_kC0 => k_is); (case e_iC0 => k_is); (case e_ga0 => k_is); (case e_gg0 => k_is); (case e_ha0 => k_is); (case e_nf0 => k_is); (case e_x1 => k_is); (case e_sa1 => k_is); (case e_kC1 => k_is); (case e_iC1 => k_is); (case e_ga1 => k_is); (case e_gg1 => k_is); (case e_ha1 => k_is); (case e_nf1 => k_is); (case e_x2 => k_is); (case e_sa2 => k_is); (case e_kC2 => k_is); (case e_iC2 => k_is); (case e_ga2 => k_is); (case e_gg2 => k_is); (case e_ha2 => k_is); (case e_nf2 => k_is); (case e_x3 => k_is); (case e_sa3 => k_is); (case e_kC3 => k_is); (case e_iC3 => k_is); (case e_ga3 => k_is); (case e_gg3 => k_is); (case e_ha3 => k_is); (case e_nf3 => k_is); (case e_x4 => k_is); (case e_sa4 => k_is); (case e_kC4 => k_is); (case e_iC4 => k_is); (case e_ga4 => k_is); (case e_gg4 => k_is); (case e_ha4 => k_is); (case e_nf4 => k_is); (case e_x5 => k_is); (case e_sa5 => k_is); (case e_kC5 => k_is); (case e_iC5 => k_is); (case e_ga5 => k_is); (case e_gg5 => k_is); (case e_ha5 => k_is); (case e_nf5 => k_is); (case e_x6 => k_is); (case e_sa6 => k_is); (case e_kC6 => k_is); (case e_iC6 => k_is); (case e_ga6 => k_is); (case e_gg6 => k_is); (case e_ha6 => k_is); (case e_nf6 => k_is); (case e_x7 => k_is); (case e_sa7 => k_is); (case e_kC7 => k_is); (case e_iC7 => k_is); (case e_ga7 => k_is); (case e_gg7 => k_is); (case e_ha7 => k_is); (case e_nf7 => k_is); (case e_x8 => k_is); (case e_sa8 => k_is); (case e_kC8 => k_is); (case e_iC8 => k_is); (case e_ga8 => k_is); (case e_gg8 => k_is); (case e_ha8 => k_is); (case e_nf8 => k_is); (case e_x9 => k_is); (case e_sa9 => k_is); (case e_kC9 => k_is); (case e_iC9 => k_is); (case e_ga9 => k_is); (case e_gg9 => k_is); (case e_ha9 => k_is); (case e_nf9 => k_is); (case e_x10 => k_is); (case e_sa10 => k_is); (case e_kC10 => k_is); (case e_iC10 => k_is); (case e_ga10 => k_is); (case e_gg10 => k_is); (case e_ha10 => k_is); (case e_nf10 => k_is); (case e_x11 => k_is); (case e_sa11 => k_is); (case e_kC11 => k_is); (case e_iC11 => k_is); (case e_ga11 => k_is); (case e_gg11 => k_is); (case e_ha11 => k_is); (case e_nf11 => k_is); (case e_x12 => k_is); (case e_sa12 => k_is); (case e_kC12 => k_is); (case e_iC12 => k_is); (case e_ga12 => k_is); (case e_gg12 => k_is); (case e_ha12 => k_is); (case e_nf12 => k_is); (case e_x13 => k_is); (case e_sa13 => k_is); (case e_kC13 => k_is); (case e_iC13 => k_is); (case e_ga13 => k_is); (case e_gg13 => k_is); (case e_ha13 => k_is); (case e_nf13 => k_is); (case e_x14 => k_is); (case e_sa14 => k_is); (case e_kC14 => k_is); (case e_iC14 => k_is); (case e_ga14 => k_is); (case e_gg14 => k_is); (case e_ha14 => k_is); (case e_nf14 => k_is); (case e_x15 => k_is); (case e_sa15 => k_is); (case e_kC15 => k_is); (case e_iC15 => k_is); (case e_ga15 => k_is); (case e_gg15 => k_is); (case e_ha15 => k_is); (case e_nf15 => k_is); (case e_x16 => k_is); (case e_sa16 => k_is); (case e_kC16 => k_is); (case e_iC16 => k_is); (case e_ga16 => k_is); (case e_gg16 => k_is); (case e_ha16 => k_is); (case e_nf16 => k_is); (case e_x17 => k_is); (case e_sa17 => k_is); (case e_kC17 => k_is); (case e_iC17 => k_is); (case e_ga17 => k_is); (case e_gg17 => k_is); (case e_ha17 => k_is); (case e_nf17 => k_is); (case e_x18 => k_is); (case e_sa18 => k_is); (case e_kC18 => k_is); (case e_iC18 => k_is); (case e_ga18 => k_is); (case e_gg18 => k_is); (case e_ha18 => k_is); (case e_nf18 => k_is); (case e_hn => k_is); (case e_ht => k_is); (case e_t9 => k_is); (case e_l9 => k_is); (case e_c9 => k_is); (case e_t10 => k_is); (case e_l10 => k_is); (case e_c10 => k_is); (case e_t11 => k_is); (case e_l11 => k_is); (case e_c11 => k_is); (case e_t12 => k_is); (case e_l12 => k_is); (case e_c12 => k_is); (case e_t13 => k_is); (case e_l13 => k_is); (case e_c13 => k_is); (case e_t14 => k_is); (case e_l14 => k_is); (case e_c14 => k_is); (case e_t15 => k_is); (case e_l15 => k_is); (case e_c15 => k_is); (case e_t16 => k_is); (case e_l16 => k_is); (case e_c16 => k_is); (case e_t17 => k_is); (case e_l17 => k_is); (case e_c17 => k_is); (case e_t18 => k_is); (case e_l18 => k_is); (case e_c18 => k_is); (case e_kp => k_is); (case e_dT => k_is)

import PyProof.Rows.All
import Wide.All
import OpenK.AllK
import Wide.FinOn
import HandS.ForMost
import HandS.Codes
import HandS.IsInst
import HandS.Wide
import HandS.CallLocal
import HandS.StrMore
import HandS.Replace
import HandS.ReplaceDef
import HandS.ReplaceLit
import HandS.ReplaceList
import Wide.Txt
import PySem.Challenge.RW_forkhaul_k01_words
set_option Elab.async false
set_option linter.all false
set_option maxRecDepth 100000
set_option maxHeartbeats 4000000
/-! The base of the proofs: repetition of texts, defs by their names, comprehensions by an invariant, frames. -/
namespace Fk
open PySem PySem.Spec PyProof.Rows L2

/-! ### a text repeated -/
theorem fold_cps (x : Array Nat) : ∀ (n : Nat) (acc : Array Nat), ((List.replicate n x).foldl (· ++ ·) acc).toList = acc.toList ++ (List.replicate n x.toList).flatten
  | 0, acc => by simp
  | n + 1, acc => by
    rw [List.replicate_succ, List.foldl_cons, fold_cps x n (acc ++ x), List.replicate_succ, List.flatten_cons, Array.toList_append, List.append_assoc]
def repS (x : Str) (n : Nat) : Str := ⟨(List.replicate n x.cps.toList).flatten.toArray⟩
theorem tl_rep (x : Str) (n : Nat) : TL.tl (repS x n) = (List.replicate n (TL.tl x)).flatten := rfl
theorem rep_len (x : Str) (n : Nat) : (repS x n).length = n * x.length := by
  rw [TL.len_tl, tl_rep, TL.len_tl]
  induction n with
  | zero => simp
  | succ n ih => rw [List.replicate_succ, List.flatten_cons, List.length_append, ih, Nat.succ_mul, Nat.add_comm]
theorem tooLong_no {n : Nat} (h : n ≤ 16777216) : Builtin.Str.tooLong n = false := by
  unfold Builtin.Str.tooLong
  have e : (16777216 : Nat) = sizeLine ∨ 16777216 ≤ sizeLine := by right; decide
  have h2 : 16777216 ≤ sizeLine := by rcases e with e | e <;> omega
  simp
  omega
def rMulSI : R2 := fun x y H Q => ∃ (z : Str) (k : Int), x = .str z ∧ y = .int k ∧ 0 ≤ k ∧ k ≤ 10000 ∧ z.length * k.toNat ≤ 1000000 ∧ Q (.str (repS z k.toNat)) H
theorem op_mul_si {X : Cx} : OpR X (binaryOp .Mult) rMulSI := by
  intro pins s σ H x y v u Q I rx ry h
  obtain ⟨z, k, rfl, rfl, h0, h1, h2, q⟩ := h
  obtain ⟨t, rfl⟩ := rx
  obtain ⟨t', rfl⟩ := ry
  refine PySem.P.mul_str ?_ (fun h3 h4 => ?_) (fun h3 h4 => ?_) ?_
  · have e1 : ¬ k < -(2 ^ 63 : Int) := by omega
    have e2 : ¬ k ≥ 2 ^ 63 := by omega
    rw [decide_eq_false e1, decide_eq_false e2]
    rfl
  · have hk : 1 ≤ k := by omega
    have hz : z.length ≤ 1000000 := by
      have h5 : z.length * 1 ≤ z.length * k.toNat := Nat.mul_le_mul_left _ (by omega)
      omega
    have h6 : (10 ^ 14 : Int) ≤ (2 ^ 63 - 1) / k := by
      refine Int.le_ediv_of_mul_le (by omega) ?_
      have h7 : (10 ^ 14 : Int) * k ≤ 10 ^ 14 * 10000 := Int.mul_le_mul_of_nonneg_left h1 (by decide)
      have h8 : ((10 ^ 14 : Int) * 10000) ≤ 2 ^ 63 - 1 := by decide
      omega
    have h9 : ((z.length : Nat) : Int) ≤ 1000000 := by omega
    have h10 : (1000000 : Int) < 10 ^ 14 := by decide
    omega
  · exact tooLong_no (by omega)
  · by_cases h3 : k < 1
    · rw [if_pos h3]
      have e : k.toNat = 0 := by omega
      rw [e] at q
      have ez : repS z 0 = Str.empty := TL.ext_tl rfl
      rw [ez] at q
      exact ⟨by decide, V.str Str.empty, H, I.tok _, ⟨_, rfl⟩, q⟩
    · rw [if_neg h3]
      by_cases h4 : (k == 1 || z.length == 0) = true
      · rw [if_pos h4]
        have ez : repS z k.toNat = z := by
          apply TL.ext_tl
          rw [tl_rep]
          rcases Bool.or_eq_true_iff.mp h4 with h5 | h5
          · have e : k.toNat = 1 := by
              have := eq_of_beq h5
              omega
            rw [e]
            simp
          · have e : TL.tl z = [] := by
              have := eq_of_beq h5
              rw [TL.len_tl] at this
              exact List.length_eq_zero_iff.mp this
            rw [e]
            simp
        rw [ez] at q
        exact ⟨V.str z, H, I, ⟨_, rfl⟩, q⟩
      · rw [if_neg h4]
        have ez : (⟨(List.replicate k.toNat z.cps).foldl (· ++ ·) #[]⟩ : Str) = repS z k.toNat := by
          apply TL.ext_tl
          show ((List.replicate k.toNat z.cps).foldl (· ++ ·) #[]).toList = _
          rw [fold_cps]
          rfl
        have hl : (repS z k.toNat).length ≤ sizeLine := by
          rw [rep_len, Nat.mul_comm]
          exact Nat.le_trans h2 (by decide)
        rw [← ez] at q hl
        exact ⟨hl, V.str _, H, I.tok _, ⟨_, rfl⟩, q⟩

section
variable {P : Program} {w : World} {K : PySem.W.Frag} {mg : Str → Option Value} {base : Heap}
/-! ### defs by their names -/
/-- a def of the module whose parameters have no defaults -/
def IsDef (K : PySem.W.Frag) (mg : Str → Option Value) (x : Str) (st : Stmt) : Prop := ∃ f fd, C8.Def K mg x st f fd ∧ fd.defaults = .none
theorem cal_of {x : Str} {st : Stmt} {N ps : List Str} {k : Nat} {sp : Sp} (D : IsDef K mg x st) (S : FnScope N ps (C8.fnScope st))
    (hb : ∀ (kV doc pm : Value) (an : Option Addr) (cdv ct : Value) (us : List Value), us.length = ps.length → bindArgs (PySem.W.fnOf x x (C8.fnArgs st) (C8.fnBody st) (C8.fnScope st) .none kV doc pm an cdv ct) ⟨us, []⟩ = pure (ps.zip us))
    (len : ∀ vs H Q E, sp vs H Q E → vs.length = ps.length)
    (hbody : ∀ (f : Addr) (cdv : Value) (A : Around) (outer : List Env) (s : Shared) (H : Hp) (vs : List V) (Q : VK) (E : XK), Room k (A.deeper (envOfC x (C8.fnScope st) s.heap.objs.size f cdv)) → sp vs H Q E →
      ∃ t, PSs (cxOf C8.CX0 P w K mg base N x (C8.fnScope st) f cdv A outer s H E).nox (C8.fnBody st) t ∧ t { nx := fun _ H' => Q .non H', rt := Q } (start N vs) H) : C8.Cal P w K mg base (k + 1) x sp [] := by
  obtain ⟨f, fd, D, df⟩ := D
  exact C8.cal0 D (D.fn.binds df hb) .nil S len (hbody f)
theorem pe_c0 {X : Cx} {k j : Nat} {x : Str} {sp : Sp} {dvs : List V} {p pos : Pos} (c : C8.Cal X.prog X.w X.K X.mg X.base k x sp dvs) (hr : Room j X.A) (hk : k ≤ j) (hg : Gl X x)
    (hdb : (x == ("__debug__" : Str)) = false := by decide) : PE X (.Call (.Name x p) [] [] pos) (tCall sp dvs C8.E0 tNil) := by
  obtain ⟨f, fd, ps, ds, F, hm, kp, b, d⟩ := c.ex
  exact pe_call0 F (hr.mono hk) hg hm kp b d C8.pass0 hdb
/-- a def's address as a value, with its promise -/
theorem held_of {k : Nat} {x : Str} {sp : Sp} {f : Addr} (c : C8.Cal P w K mg base k x sp []) (h : mg x = some (.ref f)) : Held P w K mg base k f sp := by
  obtain ⟨f', fd, ps, ds, F, hm, kp, b, d⟩ := c.ex
  rw [h] at hm
  cases hm
  cases d
  exact ⟨fd, ps, F, kp, b⟩
end

/-! ### heaps -/
/-- all that was tracked is as it was, but what stands at a -/
def Fr (a : Addr) (H H' : Hp) : Prop := ∀ b o, b ≠ a → H b = some o → H' b = some o
theorem Fr.refl (a : Addr) (H : Hp) : Fr a H H := fun _ _ _ h => h
theorem Fr.trans {a : Addr} {H H1 H2 : Hp} (x : Fr a H H1) (y : Fr a H1 H2) : Fr a H H2 := fun b o n h => y b o n (x b o n h)
theorem Fr.at {a : Addr} {H : Hp} {o : HO} : Fr a H (upd H a o) := fun b u n h => by
  rw [upd_ne n]
  exact h
theorem Fr.new {a p : Addr} {H : Hp} {o : HO} (h : H p = none) : Fr a H (upd H p o) := fun b u _ e => by
  rw [upd_ne (ne_of_none e h)]
  exact e
/-- what came later may change -/
theorem Fr.mut {a p : Addr} {H H' : Hp} {o : HO} (x : Fr a H H') (h : H p = none) : Fr a H (upd H' p o) := fun b u n e => by
  rw [upd_ne (ne_of_none e h)]
  exact x b u n e
theorem Fr.same {a : Addr} {H H' : Hp} (h : Same H H') : Fr a H H' := fun b o _ e => h b o e
theorem Fr.free {a p : Addr} {H H' : Hp} (x : Fr a H H') (n : p ≠ a) (h : H' p = none) : H p = none := by
  cases q : H p with
  | none => rfl
  | some o =>
    rw [x p o n q] at h
    cases h
theorem same_new {H : Hp} {p : Addr} {o : HO} (h : H p = none) : Same H (upd H p o) := fun b u e => by
  rw [upd_ne (ne_of_none e h)]
  exact e
theorem same_mut {H H' : Hp} {p : Addr} {o : HO} (x : Same H H') (h : H p = none) : Same H (upd H' p o) := fun b u e => by
  rw [upd_ne (ne_of_none e h)]
  exact x b u e
theorem small_line {n : Nat} (h : n ≤ 1000000) : n ≤ sizeLine := Nat.le_trans h (by decide)
theorem small_lt {n : Nat} (h : n ≤ 1000000) : n < sizeLine := Nat.lt_of_le_of_lt h (by decide)

/-! ### comprehensions -/
theorem set_set {σ : L2.St} {i : Nat} {x y : Option V} : (σ.set i x).set i y = σ.set i y := by
  rw [List.set_set]
/-- what an iterator yields while the list at D grows: the items of a list -/
structure Yields (J : It) (items : List V) (G : Hp → Prop) : Prop where
  go : ∀ k H, G H → k < items.length → J.go k H
  stop : ∀ H, G H → J.stop items.length H
  yld : ∀ k H x H', k < items.length → G H → J.yld k H x H' → H' = H ∧ items[k]? = some x
theorem yields_str (x : Str) : Yields (Its x) (x.cps.toList.map fun c => V.str ⟨#[c]⟩) (fun _ => True) where
  go := fun k H _ h => by
    rw [List.length_map] at h
    exact (by simpa using h : k < x.cps.size)
  stop := fun H _ => by
    show x.cps.size ≤ _
    simp
  yld := fun k H v H' _ _ h => by
    obtain ⟨e, c, hc, hv⟩ := h
    refine ⟨e, ?_⟩
    rw [List.getElem?_map, Array.getElem?_toList, hc, hv]
    rfl
theorem yields_list {K : PySem.W.Frag} {a : Addr} {xs : List V} : Yields (Itl K a) xs (fun H => SqL K H a xs) where
  go := fun k H g h => ⟨xs, xs[k], g, List.getElem?_eq_getElem h⟩
  stop := fun H g => ⟨xs, g, Nat.le_refl _⟩
  yld := fun k H x H' _ g h => ⟨h.1, h.2 xs g⟩
theorem yields_range {lo : Int} {n : Nat} : Yields (Itr lo n) ((List.range n).map fun (i : Nat) => V.int (lo + (i : Int))) (fun _ => True) where
  go := fun k H _ h => by
    rw [List.length_map, List.length_range] at h
    exact h
  stop := fun H _ => by
    show n ≤ _
    rw [List.length_map, List.length_range]
    exact Nat.le_refl _
  yld := fun k H x H' hk _ h => by
    obtain ⟨e, hx⟩ := h
    rw [List.length_map, List.length_range] at hk
    refine ⟨e, ?_⟩
    rw [List.getElem?_map, List.getElem?_range hk, hx]
    rfl
/-- behind k turns of a comprehension: the list at D holds acc, of which I speaks -/
def LcN (I : Nat → List V → Hp → Prop) (D : Addr) (k : Nat) (H : Hp) : Prop := ∃ acc, H D = some (.lst acc) ∧ acc.length ≤ k ∧ I k acc H
theorem lc_take {I : Nat → List V → Hp → Prop} {D : Addr} {k : Nat} {H4 : Hp} {y : V} {acc : List V} (h : H4 D = some (.lst acc)) (l : acc.length ≤ k) (hk : k < 1000000) (q : I (k + 1) (acc ++ [y]) (upd H4 D (.lst (acc ++ [y])))) :
    ∃ acc, H4 D = some (.lst acc) ∧ acc.length < sizeLine ∧ LcN I D (k + 1) (upd H4 D (.lst (acc ++ [y]))) :=
  ⟨acc, h, small_lt (by omega), acc ++ [y], upd_same, by rw [List.length_append, List.length_singleton]; omega, q⟩
theorem lc_skip {I : Nat → List V → Hp → Prop} {D : Addr} {k : Nat} {H4 : Hp} {acc : List V} (h : H4 D = some (.lst acc)) (l : acc.length ≤ k) (q : I (k + 1) acc H4) : LcN I D (k + 1) H4 := ⟨acc, h, by omega, q⟩
/-- a comprehension by an invariant I over (turns, what the new list holds, the heap) -/
theorem lc_inv {J : It} {items : List V} {G : Hp → Prop} {H1 : Hp} {D : Addr} {σ : L2.St} {i : Nat} {tt : TT} {te : TE} {Q : Hp → Prop} (Y : Yields J items G) (I : Nat → List V → Hp → Prop)
    (hG : ∀ k acc H, I k acc H → H D = some (.lst acc) → G H) (h0 : I 0 [] (upd H1 D (.lst [])))
    (hs : ∀ k acc H x, I k acc H → H D = some (.lst acc) → items[k]? = some x → acc.length ≤ k → k < 1000000 → tt (σ.set i (some x)) H fun b H3 =>
      if b = true then te (σ.set i (some x)) H3 fun y H4 => ∃ acc, H4 D = some (.lst acc) ∧ acc.length < sizeLine ∧ LcN I D (k + 1) (upd H4 D (.lst (acc ++ [y]))) else LcN I D (k + 1) H3)
    (hl : items.length ≤ 1000000) (hd : ∀ acc H, I items.length acc H → H D = some (.lst acc) → acc.length ≤ items.length → Q H) :
    ∃ W : Nat → Nat → Hp → Prop, (∃ m, W 0 m (upd H1 D (.lst []))) ∧ ∀ k m H, W k m H →
      (J.stop k H ∧ Q H) ∨ (J.go k H ∧ ∃ Nx : Hp → Prop, (∀ H', Nx H' → ∃ m', m' < m ∧ W (k + 1) m' H') ∧ ∀ x H', J.yld k H x H' → gName i x (wipe σ [i]) H' fun σ2 H2 => wipe σ2 [i] = wipe σ [i] ∧ tt σ2 H2 fun b H3 =>
        if b = true then te σ2 H3 fun y H4 => ∃ acc, H4 D = some (.lst acc) ∧ acc.length < sizeLine ∧ Nx (upd H4 D (.lst (acc ++ [y]))) else Nx H3) := by
  refine ⟨fun k m H => m = items.length - k ∧ k ≤ items.length ∧ LcN I D k H, ⟨items.length, by omega, Nat.zero_le _, [], upd_same, Nat.zero_le _, h0⟩, ?_⟩
  rintro k m H ⟨rfl, hk, acc, hD, hacc, hI⟩
  by_cases hlt : k < items.length
  · refine .inr ⟨Y.go k H (hG _ _ _ hI hD) hlt, LcN I D (k + 1), fun H' q => ⟨items.length - (k + 1), by omega, rfl, hlt, q⟩, fun x H' y => ?_⟩
    obtain ⟨rfl, hx⟩ := Y.yld k H x H' hlt (hG _ _ _ hI hD) y
    show wipe ((wipe σ [i]).set i (some x)) [i] = wipe σ [i] ∧ tt ((wipe σ [i]).set i (some x)) _ _
    have e1 : (wipe σ [i]).set i (some x) = σ.set i (some x) := set_set
    have e2 : wipe (σ.set i (some x)) [i] = wipe σ [i] := set_set
    rw [e1]
    exact ⟨e2, hs k acc _ x hI hD hx hacc (by omega)⟩
  · have e : k = items.length := by omega
    subst e
    exact .inl ⟨Y.stop H (hG _ _ _ hI hD), hd acc H hI hD hacc⟩
/-- a comprehension whose element and test change nothing that is tracked -/
theorem lc_pure {α : Type} {J : It} {us : List α} {g : α → V} {G : Hp → Prop} {H1 : Hp} {D : Addr} {σ : L2.St} {i : Nat} {tt : TT} {te : TE} {Q : Hp → Prop} (Y : Yields J (us.map g) G) (f : α → V) (p : α → Bool) (hD1 : H1 D = none)
    (hG : ∀ H, Same H1 H → G H)
    (hs : ∀ H u, Same H1 H → u ∈ us → ∀ (R : Bool → Hp → Prop), (∀ H3, Same H H3 → R (p u) H3) → tt (σ.set i (some (g u))) H R)
    (he : ∀ H u, Same H1 H → u ∈ us → p u = true → ∀ (R : VK), (∀ H3, Same H H3 → R (f u) H3) → te (σ.set i (some (g u))) H R)
    (hl : us.length ≤ 1000000) (hd : ∀ H, Same H1 H → H D = some (.lst ((us.filter p).map f)) → Q H) :
    ∃ W : Nat → Nat → Hp → Prop, (∃ m, W 0 m (upd H1 D (.lst []))) ∧ ∀ k m H, W k m H →
      (J.stop k H ∧ Q H) ∨ (J.go k H ∧ ∃ Nx : Hp → Prop, (∀ H', Nx H' → ∃ m', m' < m ∧ W (k + 1) m' H') ∧ ∀ x H', J.yld k H x H' → gName i x (wipe σ [i]) H' fun σ2 H2 => wipe σ2 [i] = wipe σ [i] ∧ tt σ2 H2 fun b H3 =>
        if b = true then te σ2 H3 fun y H4 => ∃ acc, H4 D = some (.lst acc) ∧ acc.length < sizeLine ∧ Nx (upd H4 D (.lst (acc ++ [y]))) else Nx H3) := by
  refine lc_inv Y (fun k acc H => Same H1 H ∧ acc = ((us.take k).filter p).map f) (fun k acc H h _ => hG H h.1) ⟨same_new hD1, rfl⟩ (fun k acc H x hI hD hx hacc hk => ?_) (by rw [List.length_map]; exact hl) (fun acc H hI hD _ => ?_)
  · obtain ⟨sm, ea⟩ := hI
    rw [List.getElem?_map] at hx
    cases hu : us[k]? with
    | none => rw [hu] at hx; cases hx
    | some u =>
      rw [hu] at hx
      cases hx
      have hm : u ∈ us := List.mem_of_getElem? hu
      have et : us.take (k + 1) = us.take k ++ [u] := by
        rw [List.take_add_one, hu]
        rfl
      refine hs H u sm hm _ (fun H3 s3 => ?_)
      by_cases hp : p u = true
      · rw [if_pos hp]
        refine he H3 u (sm.trans s3) hm hp _ (fun H4 s4 => ?_)
        refine lc_take (s4 _ _ (s3 _ _ hD)) hacc hk ⟨same_mut ((sm.trans s3).trans s4) hD1, ?_⟩
        rw [et, List.filter_append, List.map_append, ← ea, List.filter_cons, hp]
        rfl
      · rw [if_neg hp]
        refine lc_skip (s3 _ _ hD) hacc ⟨sm.trans s3, ?_⟩
        rw [et, List.filter_append, List.map_append, ← ea, List.filter_cons, if_neg hp]
        simp
  · obtain ⟨sm, ea⟩ := hI
    rw [List.length_map, List.take_length] at ea
    rw [ea] at hD
    exact hd H sm hD

/-! ### what may be asked -/
def evalV (f : Str → Bool) : V → Bool
  | .str x => f x
  | _ => false
/-- its signs are signs -/
def OkS (x : Str) : Prop := ∀ u ∈ TL.tl x, u < 1114112
/-- a text, not too long, or a thing that is no text -/
inductive Thing (H : Hp) : V → Prop where
  | str (x : Str) (h : x.length ≤ 100000) (o : OkS x) : Thing H (.str x)
  | non : Thing H .non
  | bl (b : Bool) : Thing H (.bl b)
  | int (i : Int) : Thing H (.int i)
  | lst (a : Addr) (xs : List V) (h : H a = some (.lst xs)) : Thing H (.ref a)
  | tup (a : Addr) (xs : List V) (h : H a = some (.tup xs)) : Thing H (.ref a)
  | dK (a : Addr) (kvs : List (Key × V)) (h : H a = some (.dK kvs)) : Thing H (.ref a)
theorem Thing.fr {a : Addr} {H H' : Hp} {v : V} (t : Thing H v) (n : v ≠ .ref a) (f : Fr a H H') : Thing H' v := by
  cases t with
  | str x h o => exact .str x h o
  | non => exact .non
  | bl b => exact .bl b
  | int i => exact .int i
  | lst b xs h => exact .lst b xs (f b _ (fun e => n (by rw [e])) h)
  | tup b xs h => exact .tup b xs (f b _ (fun e => n (by rw [e])) h)
  | dK b xs h => exact .dK b xs (f b _ (fun e => n (by rw [e])) h)
theorem Thing.same {H H' : Hp} {v : V} (t : Thing H v) (f : Same H H') : Thing H' v := by
  cases t with
  | str x h o => exact .str x h o
  | non => exact .non
  | bl b => exact .bl b
  | int i => exact .int i
  | lst b xs h => exact .lst b xs (f b _ h)
  | tup b xs h => exact .tup b xs (f b _ h)
  | dK b xs h => exact .dK b xs (f b _ h)
/-- isinstance(thing, str) -/
theorem Thing.isi {K : PySem.W.Frag} {H : Hp} {v : V} {Q : VK} (t : Thing H v) (h : Q (.bl (evalV (fun _ => true) v)) H) : rIsi K [v, .ty "str"] H Q := by
  cases t with
  | str x _ _ => exact ⟨_, _, .type "str", .type "str", true, rfl, .ty "str", .base (.str x), kit_ty (by decide +kernel), h⟩
  | non => exact ⟨_, _, .type "NoneType", .type "str", false, rfl, .ty "str", .base .non, kit_ty (by decide +kernel), h⟩
  | bl b => exact ⟨_, _, .type "bool", .type "str", false, rfl, .ty "str", .base (.bl b), kit_ty (by decide +kernel), h⟩
  | int i => exact ⟨_, _, .type "int", .type "str", false, rfl, .ty "str", .base (.int i), kit_ty (by decide +kernel), h⟩
  | lst a xs e => exact ⟨_, _, .type "list", .type "str", false, rfl, .ty "str", .base (.lst e), kit_ty (by decide +kernel), h⟩
  | tup a xs e => exact ⟨_, _, .type "tuple", .type "str", false, rfl, .ty "str", .base (.tup e), kit_ty (by decide +kernel), h⟩
  | dK a xs e => exact ⟨_, _, .type "dict", .type "str", false, rfl, .ty "str", .base (.dK e), kit_ty (by decide +kernel), h⟩
theorem Thing.cases {H : Hp} {v : V} (t : Thing H v) : (∃ x, v = .str x ∧ x.length ≤ 100000 ∧ OkS x) ∨ ∀ f, evalV f v = false := by
  cases t with
  | str x h o => exact .inl ⟨x, rfl, h, o⟩
  | _ => exact .inr fun _ => rfl
/-- the promise of a def that tells whether its argument is such a text -/
def spWord (f : Str → Bool) : Sp := fun vs H Q _ => ∃ v, vs = [v] ∧ Thing H v ∧ ∀ H', Same H H' → Q (.bl (evalV f v)) H'

/-! ### the words, as functions of a text -/
def HEX : Str := "0123456789abcdef"
def LET : Str := "abcdefghijklmnopqrstuvwxyz"
def RSG : Str := "abcdefghijklmnopqrstuvwxyz0123456789-"
def SSG : Str := "abcdefghijklmnopqrstuvwxyz0123456789._-"
def sgn (c : Nat) : V := .str ⟨#[c]⟩
def hasOnly (x y : Str) : Bool := (TL.tl x).all fun c => decide (c ∈ TL.tl y)
def dots (x : Str) : Bool := !(Builtin.Str.occurrences x (".." : Str) 0 x.length 1).isEmpty
def isWordF (y x : Str) : Bool := decide (1 ≤ x.length) && (decide (x.length ≤ 12) && hasOnly x y)
def isSegF (x : Str) : Bool := isWordF SSG x && (!decide (x = ".") && !dots x)
def segs (x : Str) : List Str := Txt.split x "/"
def isIdF (x : Str) : Bool := decide (x.length = 16) && hasOnly x HEX
def isPathF (x : Str) : Bool := decide ((segs x).length ≤ 6) && (segs x).all isSegF
def mostF (x : Str) : Nat := if (segs x)[0]? = some ("far" : Str) then 7 else 5
def isRefF (x : Str) : Bool := decide ((segs x).length ≤ mostF x) && (segs x).all (isWordF RSG)
def plainC (c : Nat) : Bool := !decide ([c] < [32]) && !decide ([126] < [c])
def isTextF (x : Str) : Bool := decide (x.length ≤ 2000) && (TL.tl x).all fun c => decide (c = 10) || plainC c
end Fk
namespace Fk
open PySem PySem.Spec PyProof.Rows L2
theorem sql_fr {K : PySem.W.Frag} {a b : Addr} {H H' : Hp} {xs : List V} (h : SqL K H b xs) (n : b ≠ a) (f : Fr a H H') : SqL K H' b xs := by
  rcases h with (h | ⟨o, h⟩) | h
  · exact .inl (.inl (f _ _ n h))
  · exact .inl (.inr ⟨o, f _ _ n h⟩)
  · exact .inr h
/-- a well of numbers at a, from which c were drawn -/
def Wl (H : Hp) (a : Addr) (c : Int) : Prop := 0 ≤ c ∧ ∃ x y : Int, H a = some (.lst [.int x, .int y, .int c])
theorem Wl.same {H H' : Hp} {a : Addr} {c : Int} (h : Wl H a c) (f : Same H H') : Wl H' a c := by
  obtain ⟨h0, x, y, e⟩ := h
  exact ⟨h0, x, y, f _ _ e⟩
/-- behind at most d draws from the well at a -/
def Aft (a : Addr) (c d : Int) (H : Hp) (R : Hp → Prop) : Prop := ∀ H' c', Fr a H H' → Wl H' a c' → c ≤ c' → c' ≤ c + d → R H'
theorem join_signs : ∀ cs : List Nat, TL.tl (Txt.join ("" : Str) (cs.map fun c => (⟨#[c]⟩ : Str))) = cs := by
  intro cs
  rw [TL.join_eq, TL.tl_join]
  have e : TL.tl ("" : Str) = [] := by decide +kernel
  rw [e]
  induction cs with
  | nil => rfl
  | cons c r ih =>
    cases r with
    | nil => rfl
    | cons d r =>
      show [c] ++ [] ++ TL.joinL [] (((d :: r).map fun c => (⟨#[c]⟩ : Str)).map TL.tl) = _
      rw [ih]
      rfl
theorem signs_sum : ∀ cs : List Nat, ((cs.map fun c => (⟨#[c]⟩ : Str)).map (·.length)).sum = cs.length
  | [] => rfl
  | c :: r => by
    rw [List.map_cons, List.map_cons, List.sum_cons, signs_sum r, List.length_cons]
    show 1 + _ = _
    omega
theorem atI_int {α : Type} {xs : List α} {r : Int} (h0 : 0 ≤ r) (h1 : r < xs.length) : ∃ v, v ∈ xs ∧ xs[r.toNat]? = some v ∧ atI xs r = some v := by
  have h2 : r.toNat < xs.length := by omega
  have e : r = ((r.toNat : Nat) : Int) := by omega
  refine ⟨xs[r.toNat], List.getElem_mem h2, List.getElem?_eq_getElem h2, ?_⟩
  have q := atI_nat (List.getElem?_eq_getElem h2)
  rw [← e] at q
  exact q
theorem Wl.upd {H : Hp} {a : Addr} {x y c : Int} (h : 0 ≤ c) : Wl (upd H a (.lst [.int x, .int y, .int c])) a c := ⟨h, x, y, upd_same⟩
theorem Fr.fr_new {a p : Addr} {H H' : Hp} {o : HO} (x : Fr a H H') (h : H' p = none) : Fr a H (L2.upd H' p o) := x.trans (Fr.new h)
theorem Wl.new {H : Hp} {a p : Addr} {c : Int} {o : HO} (h : Wl H a c) (n : H p = none) : Wl (L2.upd H p o) a c := h.same (same_new n)
theorem Wl.mut {H : Hp} {a p : Addr} {c : Int} {o : HO} (h : Wl H a c) (n : p ≠ a) : Wl (L2.upd H p o) a c := by
  obtain ⟨h0, x, y, e⟩ := h
  exact ⟨h0, x, y, by rw [upd_ne n.symm]; exact e⟩
theorem Wl.ne {H : Hp} {a p : Addr} {c : Int} (h : Wl H a c) (n : H p = none) : p ≠ a := by
  obtain ⟨h0, x, y, e⟩ := h
  exact (ne_of_none e n).symm
theorem Aft.start {a : Addr} {c d : Int} {H : Hp} {R : Hp → Prop} (h : Aft a c d H R) (w : Wl H a c) (hd : 0 ≤ d) : R H := h H c (Fr.refl a H) w (Int.le_refl _) (by omega)
theorem Aft.more {a : Addr} {c c1 d d1 : Int} {H H1 : Hp} {R : Hp → Prop} (h : Aft a c d H R) (f : Fr a H H1) (h1 : c ≤ c1) (h2 : c1 + d1 ≤ c + d) : Aft a c1 d1 H1 R := fun H' c' f' w h3 h4 => h H' c' (f.trans f') w (by omega) (by omega)
theorem yes_ {σ : L2.St} {H : Hp} {A B : Hp → Prop} (h : A H) : tYes σ H (fun b H3 => if b = true then A H3 else B H3) := by
  show (if true = true then A H else B H)
  rw [if_pos rfl]
  exact h
end Fk

set_option maxHeartbeats 4000000
namespace Fk
open PySem PySem.Spec PyProof.Rows L2
/-! ### texts that are drawn: what holds of them -/
theorem tl_cut (z : Str) (lo hi : Option Int) : TL.tl (cutS z lo hi) = ((TL.tl z).drop (HT.sIx z.length 0 lo)).take (HT.sIx z.length z.length hi - HT.sIx z.length 0 lo) := rfl
theorem cut_to (z : Str) (n : Nat) : TL.tl (cutS z none (some (n : Int))) = (TL.tl z).take n := by
  rw [tl_cut, HT.sIx_none, HT.sIx_nat, List.drop_zero, Nat.sub_zero, TL.len_tl]
  rcases Nat.le_total n (TL.tl z).length with h | h
  · rw [Nat.min_eq_left h]
  · rw [Nat.min_eq_right h, List.take_length, List.take_of_length_le h]
theorem cut_from (z : Str) (n : Nat) : TL.tl (cutS z (some (n : Int)) none) = (TL.tl z).drop n := by
  rw [tl_cut, HT.sIx_none, HT.sIx_nat, TL.len_tl]
  rcases Nat.le_total n (TL.tl z).length with h | h
  · rw [Nat.min_eq_left h, List.take_of_length_le (by rw [List.length_drop]; omega)]
  · rw [Nat.min_eq_right h, List.drop_length, List.take_nil, List.drop_of_length_le h]
theorem cutS_le (z : Str) (lo hi : Option Int) : (cutS z lo hi).length ≤ z.length := cutS_length z lo hi
def LTS : Str := "abcdefghijklmnopqrstuvwxyz0123456789_-"
theorem dots_count {x : Str} (h : dots x = true) : 2 ≤ (TL.tl x).count 46 := by
  obtain ⟨i, _, h2⟩ := (StrLaws.found_iff x (".." : Str)).mp h
  rw [StrLaws.subAt_eq] at h2
  have e : ((TL.tl x).drop i).take 2 = [46, 46] := by
    have e1 := eq_of_beq h2
    have e2 : (".." : Str).length = 2 := by decide +kernel
    have e3 : (".." : Str).cps.toList = [46, 46] := by decide +kernel
    rw [e2, e3] at e1
    exact e1
  have s : List.Sublist [46, 46] (TL.tl x) := by
    rw [← e]
    exact (List.take_sublist _ _).trans (List.drop_sublist _ _)
  exact s.count_le 46
theorem has_only {x y : Str} (h : ∀ u ∈ TL.tl x, u ∈ TL.tl y) : hasOnly x y = true := by
  unfold hasOnly
  rw [List.all_eq_true]
  exact fun u hu => decide_eq_true (h u hu)
theorem dot_tl : TL.tl ("." : Str) = [46] := by decide +kernel
theorem seg_of {x : Str} (h : ∀ u ∈ TL.tl x, u ∈ TL.tl SSG) (h1 : 1 ≤ x.length) (h2 : x.length ≤ 12) (h3 : (TL.tl x).count 46 ≤ 1) (h4 : (TL.tl x).count 46 = 0 ∨ 2 ≤ x.length) : isSegF x = true := by
  unfold isSegF isWordF
  have d : dots x = false := Bool.eq_false_iff.mpr fun z => by
    have := dots_count z
    omega
  have n : ¬ x = "." := fun e => by
    have e1 : TL.tl x = [46] := by rw [e]; exact dot_tl
    rw [TL.len_tl, e1] at h4
    rcases h4 with h4 | h4
    · exact absurd h4 (by decide)
    · exact absurd h4 (by decide)
  rw [decide_eq_true h1, decide_eq_true h2, has_only h, decide_eq_false n, d]
  rfl
theorem lts_ssg : ∀ u ∈ TL.tl LTS, u ∈ TL.tl SSG := by decide +kernel
theorem lts_dot : 46 ∉ TL.tl LTS := by decide +kernel
theorem seg_plain {x : Str} (h : ∀ u ∈ TL.tl x, u ∈ TL.tl LTS) (h1 : 1 ≤ x.length) (h2 : x.length ≤ 12) : isSegF x = true := by
  have c0 : (TL.tl x).count 46 = 0 := List.count_eq_zero.mpr fun z => lts_dot (h _ z)
  exact seg_of (fun u hu => lts_ssg u (h u hu)) h1 h2 (by omega) (.inl c0)
theorem seg_dotted {x : Str} (n : Nat) (h : ∀ u ∈ TL.tl x, u ∈ TL.tl LTS) (h1 : 1 ≤ x.length) (h2 : x.length < 12) :
    isSegF ((cutS x none (some (n : Int)) ++ ("." : Str)) ++ cutS x (some (n : Int)) none) = true ∧ ((cutS x none (some (n : Int)) ++ ("." : Str)) ++ cutS x (some (n : Int)) none).length ≤ 12 := by
  have e : TL.tl ((cutS x none (some (n : Int)) ++ ("." : Str)) ++ cutS x (some (n : Int)) none) = ((TL.tl x).take n ++ [46]) ++ (TL.tl x).drop n := by
    rw [TL.tl_append, TL.tl_append, cut_to, cut_from, dot_tl]
  have c0 : (TL.tl x).count 46 = 0 := List.count_eq_zero.mpr fun z => lts_dot (h _ z)
  have len : (((TL.tl x).take n ++ [46]) ++ (TL.tl x).drop n).length = x.length + 1 := by
    have := congrArg List.length (List.take_append_drop n (TL.tl x))
    rw [List.length_append] at this
    rw [List.length_append, List.length_append, List.length_singleton, TL.len_tl]
    omega
  have cnt : (((TL.tl x).take n ++ [46]) ++ (TL.tl x).drop n).count 46 = 1 := by
    have := congrArg (List.count 46) (List.take_append_drop n (TL.tl x))
    rw [List.count_append, c0] at this
    rw [List.count_append, List.count_append]
    have : [46].count 46 = 1 := rfl
    omega
  refine ⟨seg_of (fun u hu => ?_) (by rw [TL.len_tl, e, len]; omega) (by rw [TL.len_tl, e, len]; omega) (by rw [e, cnt]; exact Nat.le_refl _) (.inr (by rw [TL.len_tl, e, len]; omega)), by rw [TL.len_tl, e, len]; omega⟩
  rw [e] at hu
  rcases List.mem_append.mp hu with hu | hu
  · rcases List.mem_append.mp hu with hu | hu
    · exact lts_ssg u (h u (List.mem_of_mem_take hu))
    · rw [List.mem_singleton.mp hu]
      decide +kernel
  · exact lts_ssg u (h u (List.mem_of_mem_drop hu))
theorem slash_tl : TL.tl ("/" : Str) = [47] := by decide +kernel
theorem seg_slash {x : Str} (h : isSegF x = true) : 47 ∉ TL.tl x := by
  unfold isSegF isWordF hasOnly at h
  simp only [Bool.and_eq_true] at h
  have h1 := h.1.2.2
  rw [List.all_eq_true] at h1
  intro z
  have h2 := of_decide_eq_true (h1 47 z)
  exact absurd h2 (by decide +kernel)
theorem seg_len {x : Str} (h : isSegF x = true) : x.length ≤ 12 := by
  unfold isSegF isWordF at h
  simp only [Bool.and_eq_true] at h
  exact of_decide_eq_true h.1.2.1
theorem path_of {ps : List Str} (h0 : ps ≠ []) (h1 : ps.length ≤ 6) (h : ∀ p ∈ ps, isSegF p = true) : isPathF (Txt.join "/" ps) = true := by
  unfold isPathF segs
  rw [TL.split_join (S := []) slash_tl (by decide +kernel) h0 fun p hp => seg_slash (h p hp), decide_eq_true h1, List.all_eq_true.mpr h]
  rfl
theorem join_len (y : Str) : ∀ ps : List Str, (∀ p ∈ ps, p.length ≤ 12) → (Txt.join y ps).length ≤ ps.length * (12 + y.length) := by
  intro ps h
  rw [TL.join_eq]
  refine Nat.le_trans (StrLaws.join_length_le y ps) ?_
  rw [Nat.mul_add]
  refine Nat.add_le_add_right ?_ _
  induction ps with
  | nil => exact Nat.le_refl _
  | cons p r ih =>
    rw [List.map_cons, List.sum_cons, List.length_cons, Nat.succ_mul]
    have := ih fun q hq => h q (List.mem_cons_of_mem _ hq)
    have := h p List.mem_cons_self
    omega
theorem sum_len : ∀ ps : List Str, (∀ p ∈ ps, p.length ≤ 12) → (ps.map (·.length)).sum ≤ ps.length * 12 := by
  intro ps h
  induction ps with
  | nil => exact Nat.le_refl _
  | cons p r ih =>
    rw [List.map_cons, List.sum_cons, List.length_cons, Nat.succ_mul]
    have := ih fun q hq => h q (List.mem_cons_of_mem _ hq)
    have := h p List.mem_cons_self
    omega
def ALL : Str := (" !\"#$&'()*+,-./0123456789:;<=>?@ABCDEFGHIJKLMNOPQRSTUVWXYZ[]^_`abcdefghijklmnopqrstuvwxyz{|}~" : Str) ++ ("\\" : Str) ++ ("\n" : Str)
theorem all_plain : ∀ u ∈ TL.tl ALL, (decide (u = 10) || plainC u) = true := by decide +kernel
theorem text_of {x : Str} (h : ∀ u ∈ TL.tl x, u ∈ TL.tl ALL) (h1 : x.length ≤ 2000) : isTextF x = true := by
  unfold isTextF
  rw [decide_eq_true h1, List.all_eq_true.mpr fun u hu => all_plain u (h u hu)]
  rfl
theorem id_of {x : Str} (h : ∀ u ∈ TL.tl x, u ∈ TL.tl HEX) (h1 : x.length = 16) : isIdF x = true := by
  unfold isIdF
  rw [decide_eq_true h1, has_only h]
  rfl
theorem filt_all {α : Type} (l : List α) : l.filter (fun _ => true) = l := List.filter_eq_self.mpr fun _ _ => rfl
theorem of_ev {f : Str → Bool} {x : Str} {b : Bool} {Q : VK} {H : Hp} (q : Q (.bl (evalV f (.str x))) H) (e : f x = b) : Q (.bl b) H := by
  rw [← e]
  exact q
theorem of_ev0 {f : Str → Bool} {v : V} {Q : VK} {H : Hp} (hn : ∀ f, evalV f v = false) (q : Q (.bl (evalV f v)) H) : Q (.bl false) H := by
  rw [← hn f]
  exact q
theorem segs_ne (x : Str) : segs x ≠ [] := by
  intro h
  have e := TL.split_spl x "/" (by decide +kernel) (TL.kind_ok (by decide +kernel))
  have h' : Txt.split x "/" = [] := h
  rw [h'] at e
  have e2 : ∀ l k acc, TL.spl (TL.tl "/") k acc l ≠ [] := by
    intro l
    induction l with
    | nil => intro k acc h; rw [TL.spl_nil] at h; cases h
    | cons c r ih =>
      intro k acc h
      cases k with
      | zero =>
        unfold TL.spl at h
        split at h
        · cases h
        · exact ih _ _ h
      | succ k => exact ih _ _ h
  exact e2 _ _ _ e.symm
theorem segs_len (x : Str) (h : x.length ≤ 100000) : (segs x).length ≤ 100001 ∧ ∀ y ∈ segs x, y.length ≤ 100000 := by
  have e := TL.split_spl x "/" (by decide +kernel) (TL.kind_ok (by decide +kernel))
  have e2 : ∀ l k acc, (TL.spl (TL.tl "/") k acc l).length ≤ l.length + 1 ∧ ∀ y ∈ TL.spl (TL.tl "/") k acc l, y.length ≤ acc.length + l.length := by
    intro l
    induction l with
    | nil => intro k acc; rw [TL.spl_nil]; exact ⟨Nat.le_refl _, fun y hy => by rw [List.mem_singleton.mp hy]; simp⟩
    | cons c r ih =>
      intro k acc
      cases k with
      | zero =>
        unfold TL.spl
        split
        · obtain ⟨i1, i2⟩ := ih ((TL.tl "/").length - 1) []
          refine ⟨by simp only [List.length_cons]; omega, fun y hy => ?_⟩
          rcases List.mem_cons.mp hy with rfl | hy
          · simp only [List.length_cons]; omega
          · have := i2 y hy
            simp only [List.length_cons, List.length_nil] at this ⊢
            omega
        · obtain ⟨i1, i2⟩ := ih 0 (acc ++ [c])
          refine ⟨by simp only [List.length_cons]; omega, fun y hy => ?_⟩
          have := i2 y hy
          simp only [List.length_cons, List.length_append, List.length_nil] at this ⊢
          omega
      | succ k =>
        obtain ⟨i1, i2⟩ := ih k acc
        unfold TL.spl
        refine ⟨by simp only [List.length_cons]; omega, fun y hy => ?_⟩
        have := i2 y hy
        simp only [List.length_cons] at this ⊢
        omega
  obtain ⟨i1, i2⟩ := e2 (TL.tl x) 0 []
  rw [← e] at i1 i2
  rw [List.length_map, ← TL.len_tl] at i1
  refine ⟨?_, fun y hy => ?_⟩
  · show (Txt.split x "/").length ≤ _
    omega
  · have := i2 (TL.tl y) (List.mem_map_of_mem hy)
    rw [← TL.len_tl, ← TL.len_tl] at this
    simp at this
    omega
theorem segs_ok (x : Str) (h : OkS x) : ∀ y ∈ segs x, OkS y := by
  have e := TL.split_spl x "/" (by decide +kernel) (TL.kind_ok (by decide +kernel))
  have e2 : ∀ l k acc, (∀ u ∈ l, u < 1114112) → (∀ u ∈ acc, u < 1114112) → ∀ y ∈ TL.spl (TL.tl "/") k acc l, ∀ u ∈ y, u < 1114112 := by
    intro l
    induction l with
    | nil =>
      intro k acc h1 h2 y hy
      rw [TL.spl_nil] at hy
      rw [List.mem_singleton.mp hy]
      exact h2
    | cons c r ih =>
      intro k acc h1 h2 y hy
      have h3 : ∀ u ∈ r, u < 1114112 := fun u hu => h1 u (List.mem_cons_of_mem _ hu)
      cases k with
      | zero =>
        unfold TL.spl at hy
        split at hy
        · rcases List.mem_cons.mp hy with rfl | hy
          · exact h2
          · exact ih _ _ h3 (fun u hu => (List.not_mem_nil hu).elim) y hy
        · refine ih _ _ h3 (fun u hu => ?_) y hy
          rcases List.mem_append.mp hu with hu | hu
          · exact h2 u hu
          · rw [List.mem_singleton.mp hu]
            exact h1 c List.mem_cons_self
      | succ k => exact ih _ _ h3 h2 y hy
  intro y hy
  have i2 := e2 (TL.tl x) 0 [] h (fun u hu => (List.not_mem_nil hu).elim) (TL.tl y)
  rw [← e] at i2
  exact i2 (List.mem_map_of_mem hy)
theorem dp_nil {K : PySem.W.Frag} {H : Hp} {p : Addr} (h : H p = some (.lst [])) : Dp K H (.ref p) (.list []) := .lst (SqL.of h) .nil
theorem dp_strs {K : PySem.W.Frag} {H : Hp} : ∀ ys : List Str, DpAll K H (ys.map V.str) (ys.map PyData.str)
  | [] => .nil
  | y :: r => .cons (.str y) (dp_strs r)
theorem strOk_of {x : Str} (h : OkS x) : PyData.strOk x = true := by
  unfold PyData.strOk
  rw [← Array.all_toList, List.all_eq_true]
  exact fun u hu => decide_eq_true (h u hu)
theorem lay_strs : ∀ ys : List Str, (∀ y ∈ ys, OkS y) → PyData.canLayAll0 (ys.map PyData.str) = true
  | [], _ => rfl
  | y :: r, h => by simp [PyData.canLayAll0, PyData.canLay0, lay_strs r fun z hz => h z (List.mem_cons_of_mem _ hz), strOk_of (h y List.mem_cons_self)]
theorem depth_strs : ∀ ys : List Str, PyData.depthAll (ys.map PyData.str) = 0
  | [] => rfl
  | _ :: r => by simp [PyData.depthAll, PyData.depth, depth_strs r]
theorem shaped_strs (ys : List Str) (h : ∀ y ∈ ys, OkS y) : SeqAt.shaped (.list (ys.map PyData.str)) = true := by
  simp [SeqAt.shaped, PyData.canLay0, PyData.depth, lay_strs ys h, depth_strs]
theorem shaped_nil : SeqAt.shaped (.list []) = true := shaped_strs [] fun _ h => (List.not_mem_nil h).elim
theorem eqv_nil (ys : List Str) : PyData.eqv (.list (ys.map PyData.str)) (.list []) = ys.isEmpty := by
  cases ys with
  | nil => simp [PyData.eqv, PyData.eqvAll]
  | cons y r => simp [PyData.eqv, PyData.eqvAll]
theorem ifF {c A B : Prop} [Decidable c] (h : ¬ c) (b : B) : if c then A else B := by
  rw [if_neg h]
  exact b
theorem ifT {c A B : Prop} [Decidable c] (h : c) (b : A) : if c then A else B := by
  rw [if_pos h]
  exact b
/-- a list of texts is asked for being empty -/
theorem ask_nil {K : PySem.W.Frag} {H' : Hp} {p q : Addr} {ys : List Str} {Q : VK} (ho : ∀ y ∈ ys, OkS y) (h : H' p = some (.lst (ys.map V.str))) (hq : H' q = some (.lst [])) (k : Q (.bl ys.isEmpty) H') : rEqD K (.ref p) (.ref q) H' Q :=
  ⟨_, _, .lst (SqL.of h) (dp_strs ys), dp_nil hq, shaped_strs ys ho, shaped_nil, by rw [eqv_nil]; exact k⟩
theorem filt_empty {α : Type} (l : List α) (p : α → Bool) : (l.filter fun u => !p u).isEmpty = l.all p := by
  induction l with
  | nil => rfl
  | cons a r ih =>
    rw [List.filter_cons, List.all_cons]
    cases h : p a with
    | true => simpa [h] using ih
    | false => simp [h]
theorem map_sgn (cs : List Nat) : cs.map sgn = (cs.map fun c => (⟨#[c]⟩ : Str)).map V.str := by
  rw [List.map_map]
  rfl
theorem ok_sgn {c : Nat} (h : c < 1114112) : OkS ⟨#[c]⟩ := fun u hu => by
  have e : u = c := List.mem_singleton.mp hu
  rw [e]
  exact h
theorem ok_sgns {x : Str} (h : OkS x) (p : Nat → Bool) : ∀ y ∈ ((TL.tl x).filter p).map fun c => (⟨#[c]⟩ : Str), OkS y := fun y hy => by
  obtain ⟨c, hc, rfl⟩ := List.mem_map.mp hy
  exact ok_sgn (h c ((List.mem_filter.mp hc).1))
end Fk
namespace Fk
open PySem PySem.Spec PyProof.Rows L2
theorem ok_app {x y : Str} (hx : OkS x) (hy : OkS y) : OkS (x ++ y) := fun u hu => by
  rw [TL.tl_append] at hu
  rcases List.mem_append.mp hu with hu | hu
  · exact hx u hu
  · exact hy u hu
theorem ok_cut {x : Str} (hx : OkS x) (lo hi : Option Int) : OkS (cutS x lo hi) := fun u hu => by
  rw [tl_cut] at hu
  exact hx u (List.mem_of_mem_drop (List.mem_of_mem_take hu))
theorem ok_rep {x : Str} (hx : OkS x) (n : Nat) : OkS (repS x n) := fun u hu => by
  rw [tl_rep] at hu
  obtain ⟨l, hl, hu⟩ := List.mem_flatten.mp hu
  rw [(List.mem_replicate.mp hl).2] at hu
  exact hx u hu
theorem ok_join {y : Str} (hy : OkS y) {ps : List Str} (h : ∀ p ∈ ps, OkS p) : OkS (Txt.join y ps) := fun u hu => by
  rw [TL.join_eq, TL.tl_join] at hu
  have e : ∀ ls : List (List Nat), (∀ l ∈ ls, ∀ u ∈ l, u < 1114112) → ∀ u ∈ TL.joinL (TL.tl y) ls, u < 1114112 := by
    intro ls
    induction ls with
    | nil => intro _ u hu; exact (List.not_mem_nil hu).elim
    | cons l r ih =>
      intro h u hu
      cases r with
      | nil => exact h l List.mem_cons_self u hu
      | cons m r =>
        have hu : u ∈ l ++ (TL.tl y ++ TL.joinL (TL.tl y) (m :: r)) := hu
        rcases List.mem_append.mp hu with hu | hu
        · exact h l List.mem_cons_self u hu
        · rcases List.mem_append.mp hu with hu | hu
          · exact hy u hu
          · exact ih (fun l hl => h l (List.mem_cons_of_mem _ hl)) u hu
  refine e _ (fun l hl => ?_) u hu
  obtain ⟨p, hp, rfl⟩ := List.mem_map.mp hl
  exact h p hp
theorem ok_by {x : Str} (h : (TL.tl x).all (fun u => decide (u < 1114112)) = true) : OkS x := fun u hu => of_decide_eq_true (List.all_eq_true.mp h u hu)
theorem ok_sub {x y : Str} (h : ∀ u ∈ TL.tl x, u ∈ TL.tl y) (hy : OkS y) : OkS x := fun u hu => hy u (h u hu)
theorem ok_hex : OkS HEX := ok_by (by decide +kernel)
theorem ok_ssg : OkS SSG := ok_by (by decide +kernel)
theorem ok_rsg : OkS RSG := ok_by (by decide +kernel)
theorem ok_let : OkS LET := ok_by (by decide +kernel)
theorem ok_all : OkS ALL := ok_by (by decide +kernel)
theorem ok_slash : OkS "/" := ok_by (by decide +kernel)
theorem only_sub {x y : Str} (h : hasOnly x y = true) : ∀ u ∈ TL.tl x, u ∈ TL.tl y := fun u hu => of_decide_eq_true (List.all_eq_true.mp h u hu)
theorem ok_seg {x : Str} (h : isSegF x = true) : OkS x := by
  unfold isSegF isWordF at h
  simp only [Bool.and_eq_true] at h
  exact ok_sub (only_sub h.1.2.2) ok_ssg
theorem word_of {x y : Str} (h : ∀ u ∈ TL.tl x, u ∈ TL.tl y) (h1 : 1 ≤ x.length) (h2 : x.length ≤ 12) : isWordF y x = true := by
  unfold isWordF
  rw [decide_eq_true h1, decide_eq_true h2, has_only h]
  rfl
theorem Same.of_fr {a : Addr} {H H1 H2 : Hp} (h : H a = none) (s : Same H H1) (f : Fr a H1 H2) : Same H H2 := fun b o e => f b o (ne_of_none e h) (s b o e)
theorem def_ne {K : PySem.W.Frag} {mg : Str → Option Value} {x y : Str} {st st' : Stmt} {f f' : Addr} {fd fd' : FuncData} (D : C8.Def K mg x st f fd) (D' : C8.Def K mg y st' f' fd') (h : x ≠ y) : f ≠ f' := by
  intro e
  subst e
  obtain ⟨oc, od, dV, kV, doc, pm, an, cdv, ct, osl, rfl, lk, _⟩ := D.fn.ex
  obtain ⟨oc', od', dV', kV', doc', pm', an', cdv', ct', osl', rfl, lk', _⟩ := D'.fn.ex
  rw [lk] at lk'
  have e1 := Option.some.inj lk'
  injection e1 with e1 e2 e3 e4
  injection e3 with e3
  exact h (congrArg FuncData.name e3)
end Fk
namespace Fk
open PySem PySem.Spec PyProof.Rows L2
theorem plain_lt {c : Nat} (h : (decide (c = 10) || plainC c) = true) : c < 1114112 := by
  rcases Bool.or_eq_true_iff.mp h with h | h
  · have := of_decide_eq_true h
    omega
  · unfold plainC at h
    have h2 := (Bool.and_eq_true_iff.mp h).2
    have h3 : ¬ ([126] < [c]) := fun z => by
      rw [decide_eq_true z] at h2
      exact absurd h2 (by decide)
    have h4 : ¬ 126 < c := fun z => h3 (List.Lex.rel z)
    omega
theorem ok_text {x : Str} (h : isTextF x = true) : OkS x := fun u hu => plain_lt (List.all_eq_true.mp (Bool.and_eq_true_iff.mp h).2 u hu)
end Fk

set_option maxHeartbeats 4000000
/-! strip(signs), isascii, replace, isprintable: what they say of the words; a def that begins with a token out. -/
namespace Fk
open PySem PySem.Spec PyProof.Rows L2
section
variable {X : Cx} {a b o : Expr} {rest : List Expr} {ta tb t to : TE} {pos : Pos}
theorem pet_one {op} (h : PET X a t) : PET X (.BoolOp op [a] pos) t := fun pins s σ H Q h0 I hw => BoolOp_one (h pins s σ H Q h0 I hw)
theorem pet_and (ha : PE X a ta) (hb : PET X (.BoolOp .And (b :: rest) pos) tb) : PET X (.BoolOp .And (a :: b :: rest) pos) (tAndV ta tb) := by
  intro pins s σ H Q h0 I h
  refine BoolOp_and (wpAny_mono (PySem.wpAny_toks (ha.run pins s σ H _ I h)) (fun v s1 q => ?_) fun _ _ z => z.2)
  obtain ⟨hk, x, H1, I1, r1, q1⟩ := q
  obtain ⟨c, rfl, q1⟩ := q1
  cases r1
  refine wpAny_truthy_bool ?_
  cases c with
  | true => exact hb pins s1 σ H1 Q (by omega) I1 q1
  | false => exact ⟨.bl false, H1, I1, rfl, q1⟩
theorem pet_bm0 {T id name : String} {apos cpos : Pos} {r : V → List V → Hp → VK → Prop} (pa : PlainAttrs T) (slot : Slot T name id) (hty : typeOf (.builtin id) = pure (.type "method_descriptor")) (hm : MtR X id r) (ho : PET X o to)
    (hbase : attributeBase o name X.env (eval o X.env) = eval o X.env := by rfl) (hline : (apos.endLine == cpos.line) = true := by rfl) : PET X (.Call (.Attribute o name apos) [] [] cpos) (tBM0 X.K T r to) := by
  intro pins s σ H Q h0 I h
  refine wpAny_Call_method0_late hbase hline (thn (ho pins s σ H _ h0 I h) fun v s1 ⟨x, H1, I1, r1, ty, q1⟩ => ?_)
  obtain ⟨h1, h2⟩ := tyV_is I1 r1 ty
  exact ⟨T, id, pa, slot, hty, h1, h2, Calls.callWith_builtin rfl (PySem.evalArgs_none (hm pins s1 σ H1 x [] v [] Q I1 r1 .nil q1))⟩
end
section
variable {P : Program} {w : World} {K : PySem.W.Frag} {mg : Str → Option Value} {base : Heap}
/-- a def whose parameters are no cells: a token is out when its body begins -/
theorem cal_ofT {x : Str} {st : Stmt} {N ps : List Str} {k : Nat} {sp : Sp} (D : IsDef K mg x st) (S : FnScope N ps (C8.fnScope st))
    (hnc : ∀ y ∈ (C8.fnScope st).names, y.2 ≠ .cell) (hps : 1 ≤ ps.length)
    (hb : ∀ (kV doc pm : Value) (an : Option Addr) (cdv ct : Value) (us : List Value), us.length = ps.length → bindArgs (PySem.W.fnOf x x (C8.fnArgs st) (C8.fnBody st) (C8.fnScope st) .none kV doc pm an cdv ct) ⟨us, []⟩ = pure (ps.zip us))
    (len : ∀ vs H Q E, sp vs H Q E → vs.length = ps.length)
    (hbody : ∀ (f : Addr) (cdv : Value) (A : Around) (outer : List Env) (s : Shared) (H : Hp) (vs : List V) (Q : VK) (E : XK), Room k (A.deeper (envOfC x (C8.fnScope st) s.heap.objs.size f cdv)) → sp vs H Q E →
      ∃ t, PSsT (cxOf C8.CX0 P w K mg base N x (C8.fnScope st) f cdv A outer s H E) (C8.fnBody st) t ∧ t { nx := fun _ H' => Q .non H', rt := Q } (start N vs) H) : C8.Cal P w K mg base (k + 1) x sp [] := by
  obtain ⟨f, fd, D, df⟩ := D
  obtain ⟨oc, od, dV, kV, doc, pm, an, cdv, ct, osl, rfl, lk, hcd⟩ := D.fn.ex
  have e : dV = .none := df
  subst e
  exact ⟨f, _, ps, [], fn_ofT lk hcd S hnc hps len (hbody f cdv), D.mgf, D.kp, .all (hb kV doc pm an cdv ct), .nil⟩
end

/-! ### what strip leaves -/
theorem tw_all {p : Nat → Bool} {l : List Nat} (h : ∀ c ∈ l, p c = true) : l.takeWhile p = l := by
  induction l with
  | nil => rfl
  | cons c r ih =>
    rw [List.takeWhile_cons, h c List.mem_cons_self, if_pos rfl, ih fun d hd => h d (List.mem_cons_of_mem _ hd)]
theorem tw_short {p : Nat → Bool} {l : List Nat} {c : Nat} (h : p c = false) : ((l ++ [c]).takeWhile p).length ≤ l.length := by
  induction l with
  | nil => simp [List.takeWhile_cons, h]
  | cons d r ih =>
    rw [List.cons_append, List.takeWhile_cons]
    cases hd : p d with
    | true => simpa using ih
    | false => simp
theorem dw_head {p : Nat → Bool} : ∀ {l : List Nat}, (∃ c ∈ l, p c = false) → ∃ c r, l.drop (l.takeWhile p).length = c :: r ∧ p c = false ∧ (l.takeWhile p).length + r.length + 1 = l.length
  | [], h => by
    obtain ⟨c, hc, _⟩ := h
    exact (List.not_mem_nil hc).elim
  | d :: r, h => by
    cases hd : p d with
    | false => exact ⟨d, r, by simp [List.takeWhile_cons, hd], hd, by simp [List.takeWhile_cons, hd]⟩
    | true =>
      have h' : ∃ c ∈ r, p c = false := by
        obtain ⟨c, hc, q⟩ := h
        rcases List.mem_cons.mp hc with rfl | hc
        · rw [hd] at q
          cases q
        · exact ⟨c, hc, q⟩
      obtain ⟨c, r', e1, e2, e3⟩ := dw_head h'
      refine ⟨c, r', ?_, e2, ?_⟩
      · rw [List.takeWhile_cons, hd, if_pos rfl, List.length_cons, List.drop_succ_cons, e1]
      · rw [List.takeWhile_cons, hd, if_pos rfl, List.length_cons, List.length_cons]
        omega
theorem strip_tl (g : Nat → Bool) (x : Str) : TL.tl (Txt.stripBy g true true x) = ((TL.tl x).drop ((TL.tl x).takeWhile g).length).take (x.length - (((TL.tl x).drop ((TL.tl x).takeWhile g).length).reverse.takeWhile g).length - ((TL.tl x).takeWhile g).length) := by
  rw [PySem.W.stripBy_eq]
  exact StrLaws.strSub_toList x _ _
theorem strip_none (x y : Str) : decide (V.str (Txt.stripChars x y) = V.str "") = hasOnly x y := by
  have e0 : TL.tl ("" : Str) = [] := by decide +kernel
  have hg : ∀ c, y.cps.contains c = decide (c ∈ TL.tl y) := fun c => by
    rw [Bool.eq_iff_iff]
    simp [TL.tl]
  have key : (Txt.stripChars x y = ("" : Str)) ↔ hasOnly x y = true := by
    have et := strip_tl (fun c => y.cps.contains c) x
    constructor
    · intro h
      refine Bool.not_eq_false _ ▸ fun hf => ?_
      have hx : ∃ c ∈ TL.tl x, y.cps.contains c = false := by
        refine Classical.byContradiction fun z => ?_
        have : hasOnly x y = true := by
          unfold hasOnly
          refine List.all_eq_true.mpr fun c hc => ?_
          rw [← hg]
          cases q : y.cps.contains c with
          | true => rfl
          | false => exact absurd ⟨c, hc, q⟩ z
        rw [this] at hf
        cases hf
      obtain ⟨c, r, e1, e2, e3⟩ := dw_head (p := fun c => y.cps.contains c) hx
      have h' : Txt.stripBy (fun c => y.cps.contains c) true true x = ("" : Str) := h
      rw [h', e0, e1] at et
      have hs := tw_short (p := fun c => y.cps.contains c) (l := r.reverse) e2
      rw [List.length_reverse, ← List.reverse_cons] at hs
      rw [← TL.len_tl] at e3
      have hp : ∃ m, x.length - (((c :: r).reverse.takeWhile fun c => y.cps.contains c)).length - ((TL.tl x).takeWhile fun c => y.cps.contains c).length = m + 1 := ⟨x.length - (((c :: r).reverse.takeWhile fun c => y.cps.contains c)).length - ((TL.tl x).takeWhile fun c => y.cps.contains c).length - 1, by omega⟩
      obtain ⟨m, hm⟩ := hp
      rw [hm, List.take_succ_cons] at et
      cases et
    · intro h
      have hx : ∀ c ∈ TL.tl x, y.cps.contains c = true := fun c hc => by
        rw [hg]
        unfold hasOnly at h
        exact List.all_eq_true.mp h c hc
      apply TL.ext_tl
      rw [e0]
      refine Eq.trans et ?_
      rw [tw_all hx, List.drop_length, List.take_nil]
  rw [Bool.eq_iff_iff, decide_eq_true_iff, ← key]
  exact ⟨fun h => V.str.inj h, fun h => by rw [h]⟩

/-! ### texts of plain signs -/
theorem plain_of {c : Nat} (h : c < 128) : plainC c = Unicode.isPrintable c := by
  have : ∀ c < 128, plainC c = Unicode.isPrintable c := by decide +kernel
  exact this c h
theorem plain_far {c : Nat} (h : ¬ c < 128) : plainC c = false := by
  have h2 : [126] < [c] := List.Lex.rel (by omega)
  unfold plainC
  rw [decide_eq_true h2]
  simp
theorem repl_one (k : Nat) : ∀ l : List Nat, StrLaws.replL [k] [] l = l.filter fun c => !decide (c = k)
  | [] => by rw [StrLaws.replL_nil]; rfl
  | c :: r => by
    by_cases h : c = k
    · rw [StrLaws.replL_hit (by simp) (by simp [h])]
      rw [List.filter_cons, h]
      simp [repl_one k r]
    · rw [StrLaws.replL_miss (by simp [h]), repl_one k r, List.filter_cons]
      simp [h]
def plainT (x : Str) : Bool := Txt.isascii x && Txt.isprintable (Txt.replace x "\n" "")
theorem plain_text (x : Str) : plainT x = (TL.tl x).all fun c => decide (c = 10) || plainC c := by
  have e10 : ("\n" : Str).cps.toList = [10] := by decide +kernel
  have e00 : ("" : Str).cps.toList = [] := by decide +kernel
  have hr : (Txt.replace x "\n" "").cps.toList = (TL.tl x).filter fun c => !decide (c = 10) := by
    rw [StrLaws.replace_list (by decide +kernel), e10, e00, repl_one]
  unfold plainT Txt.isascii Txt.isprintable
  rw [← Array.all_toList, ← Array.all_toList, hr]
  show ((TL.tl x).all _ && _) = _
  induction TL.tl x with
  | nil => rfl
  | cons c r ih =>
    rw [List.all_cons, List.all_cons, ← ih, List.filter_cons]
    by_cases h1 : c < 128
    · rw [plain_of h1]
      by_cases h2 : c = 10
      · simp [h1, h2]
      · simp [h1, h2]
        cases Unicode.isPrintable c <;> simp
    · rw [plain_far h1]
      have h2 : ¬ c = 10 := by omega
      simp [h1, h2]
end Fk

set_option maxHeartbeats 4000000
namespace Fk
open PySem PySem.Spec PyProof.Rows L2
def top (i : Nat) : Stmt := PySem.Challenge.pw_forkhaul_k01_words.main.body.getD i (.Pass ⟨0, 0, 0, 0⟩)
abbrev s_is_id : Stmt := top 7
theorem sc_is_id : FnScope ["thing"] ["thing"] (C8.fnScope s_is_id) := C8.fnScope_by (by decide +kernel)

abbrev s_is_path : Stmt := top 8
theorem sc_is_path : FnScope ["thing", "segments", "segment"] ["thing"] (C8.fnScope s_is_path) := C8.fnScope_by (by decide +kernel)

abbrev s_is_segment : Stmt := top 9
theorem sc_is_segment : FnScope ["thing"] ["thing"] (C8.fnScope s_is_segment) := C8.fnScope_by (by decide +kernel)

abbrev s_is_ref : Stmt := top 10
theorem sc_is_ref : FnScope ["thing", "segments", "most", "segment"] ["thing"] (C8.fnScope s_is_ref) := C8.fnScope_by (by decide +kernel)

abbrev s_is_author : Stmt := top 11
theorem sc_is_author : FnScope ["thing"] ["thing"] (C8.fnScope s_is_author) := C8.fnScope_by (by decide +kernel)

abbrev s_is_text : Stmt := top 12
theorem sc_is_text : FnScope ["thing"] ["thing"] (C8.fnScope s_is_text) := C8.fnScope_by (by decide +kernel)

abbrev s__is_word : Stmt := top 13
theorem sc__is_word : FnScope ["thing", "signs"] ["thing", "signs"] (C8.fnScope s__is_word) := C8.fnScope_by (by decide +kernel)

abbrev s_l_cell_at : Stmt := top 15
theorem sc_l_cell_at : FnScope ["_law_script", "_law_k"] ["_law_script", "_law_k"] (C8.fnScope s_l_cell_at) := C8.fnScope_by (by decide +kernel)

abbrev s_l_well : Stmt := top 16
theorem sc_l_well : FnScope ["_law_cell"] ["_law_cell"] (C8.fnScope s_l_well) := C8.fnScope_by (by decide +kernel)

abbrev s_l_draw : Stmt := top 17
theorem sc_l_draw : FnScope ["_law_well_here", "_law_size", "_law_found", "_law_seed", "_law_mixed"] ["_law_well_here", "_law_size"] (C8.fnScope s_l_draw) := C8.fnScope_by (by decide +kernel)

abbrev s_l_pick : Stmt := top 18
theorem sc_l_pick : FnScope ["_law_well_here", "_law_some"] ["_law_well_here", "_law_some"] (C8.fnScope s_l_pick) := C8.fnScope_by (by decide +kernel)

abbrev s_l_signs : Stmt := top 19
theorem sc_l_signs : FnScope ["_law_well_here", "_law_signs_here", "_law_least", "_law_most", "_law_k"] ["_law_well_here", "_law_signs_here", "_law_least", "_law_most"] (C8.fnScope s_l_signs) := C8.fnScope_by (by decide +kernel)

abbrev s_l_all_signs : Stmt := top 20
theorem sc_l_all_signs : FnScope ["_law_found"] [] (C8.fnScope s_l_all_signs) := C8.fnScope_by (by decide +kernel)

abbrev s_l_segment : Stmt := top 21
theorem sc_l_segment : FnScope ["_law_well_here", "_law_letters", "_law_text_here", "_law_spot"] ["_law_well_here"] (C8.fnScope s_l_segment) := C8.fnScope_by (by decide +kernel)

abbrev s_l_path : Stmt := top 22
theorem sc_l_path : FnScope ["_law_well_here", "_law_k"] ["_law_well_here"] (C8.fnScope s_l_path) := C8.fnScope_by (by decide +kernel)

abbrev s_l_text : Stmt := top 23
theorem sc_l_text : FnScope ["_law_well_here", "_law_size", "_law_text_here"] ["_law_well_here"] (C8.fnScope s_l_text) := C8.fnScope_by (by decide +kernel)

abbrev s_l_id : Stmt := top 24
theorem sc_l_id : FnScope ["_law_well_here"] ["_law_well_here"] (C8.fnScope s_l_id) := C8.fnScope_by (by decide +kernel)

abbrev s_l_only : Stmt := top 25
theorem sc_l_only : FnScope ["_law_text_here", "_law_signs_here", "_law_sign"] ["_law_text_here", "_law_signs_here"] (C8.fnScope s_l_only) := C8.fnScope_by (by decide +kernel)

abbrev s_l_due : Stmt := top 26
theorem sc_l_due : FnScope ["_law_kind", "_law_thing", "_law_small", "_law_figures", "_law_sign", "_law_segments", "_law_signs_here", "_law_bad", "_law_one", "_law_most"] ["_law_kind", "_law_thing"] (C8.fnScope s_l_due) := C8.fnScope_by (by decide +kernel)

abbrev s_l_good : Stmt := top 27
theorem sc_l_good : FnScope ["_law_well_here", "_law_kind", "_law_signs_here", "_law_many", "_law_text_here", "_law_k"] ["_law_well_here", "_law_kind"] (C8.fnScope s_l_good) := C8.fnScope_by (by decide +kernel)

abbrev s_l_bent : Stmt := top 28
theorem sc_l_bent : FnScope ["_law_well_here", "_law_text_here", "_law_at", "_law_some", "_law_odd", "_law_way"] ["_law_well_here", "_law_text_here"] (C8.fnScope s_l_bent) := C8.fnScope_by (by decide +kernel)

abbrev s_law : Stmt := top 29
theorem sc_law : FnScope ["_law_script", "_law_asks", "_law_cell", "_law_well_here", "_law_kind", "_law_text_here", "_law_thing", "_law_other", "_law_ask", "_law_found"] ["_law_script"] (C8.fnScope s_law) := C8.fnScope_by (by decide +kernel)

structure Top (K : PySem.W.Frag) (mg : Str → Option Value) : Prop where
  d_is_id : IsDef K mg "is_id" s_is_id
  d_is_path : IsDef K mg "is_path" s_is_path
  d_is_segment : IsDef K mg "is_segment" s_is_segment
  d_is_ref : IsDef K mg "is_ref" s_is_ref
  d_is_author : IsDef K mg "is_author" s_is_author
  d_is_text : IsDef K mg "is_text" s_is_text
  d__is_word : IsDef K mg "_is_word" s__is_word
  d_l_cell_at : IsDef K mg "_law_cell_at" s_l_cell_at
  d_l_well : IsDef K mg "_law_well" s_l_well
  d_l_draw : IsDef K mg "_law_draw" s_l_draw
  d_l_pick : IsDef K mg "_law_pick" s_l_pick
  d_l_signs : IsDef K mg "_law_signs" s_l_signs
  d_l_all_signs : IsDef K mg "_law_all_signs" s_l_all_signs
  d_l_segment : IsDef K mg "_law_segment" s_l_segment
  d_l_path : IsDef K mg "_law_path" s_l_path
  d_l_text : IsDef K mg "_law_text" s_l_text
  d_l_id : IsDef K mg "_law_id" s_l_id
  d_l_only : IsDef K mg "_law_only" s_l_only
  d_l_due : IsDef K mg "_law_due" s_l_due
  d_l_good : IsDef K mg "_law_good" s_l_good
  d_l_bent : IsDef K mg "_law_bent" s_l_bent
  d_law : IsDef K mg "law" s_law
  z_all : mg "all" = none
  z_bool : mg "bool" = none
  z_int : mg "int" = none
  z_isinstance : mg "isinstance" = none
  z_len : mg "len" = none
  z_min : mg "min" = none
  z_range : mg "range" = none
  z_str : mg "str" = none
  g_HEX_DIGITS : ∃ u, mg "HEX_DIGITS" = some u ∧ RelV (V.str (Str.ofString "0123456789abcdef")) u
  g_LETTERS : ∃ u, mg "LETTERS" = some u ∧ RelV (V.str (Str.ofString "abcdefghijklmnopqrstuvwxyz")) u
  g_REF_SIGNS : ∃ u, mg "REF_SIGNS" = some u ∧ RelV (V.str (Str.ofString "abcdefghijklmnopqrstuvwxyz0123456789-")) u
  g_SEGMENT_SIGNS : ∃ u, mg "SEGMENT_SIGNS" = some u ∧ RelV (V.str (Str.ofString "abcdefghijklmnopqrstuvwxyz0123456789._-")) u
  g_LONGEST_WORD : ∃ u, mg "LONGEST_WORD" = some u ∧ RelV (V.int 12) u
  g_LONGEST_TEXT : ∃ u, mg "LONGEST_TEXT" = some u ∧ RelV (V.int 2000) u
section
variable {P : Program} {w : World} {K : PySem.W.Frag} {mg : Str → Option Value} {base : Heap}
/-! ### the wells -/
def spCellAt (K : PySem.W.Frag) : Sp := fun vs H Q _ => ∃ (a : Addr) (ns : List Int) (k : Nat), vs = [.ref a, .int k] ∧ SqL K H a (ns.map V.int) ∧ ∀ v : Int, Q (.int v) H
theorem c_l_cell_at (T : Top K mg) : C8.Cal P w K mg base 1 "_law_cell_at" (spCellAt K) [] := by
  refine cal_of T.d_l_cell_at sc_l_cell_at (fun _ _ _ _ _ _ us hl => match us, hl with | [_, _], _ => rfl) (fun vs H Q E h => ?_) (fun f cdv A outer s H vs Q E hr h => ?_)
  · obtain ⟨a, ns, k, rfl, _⟩ := h
    rfl
  · obtain ⟨a, ns, k, rfl, hS, q⟩ := h
    refine ⟨_, (pss_cons (ps_if (pt_cmpR op_lt (pv 1) (pe_callB call_len_seq (by rfl) T.z_len (by decide +kernel) (pa_cons (pv 0) pa_nil)) (nomark _))
      (pss_one (ps_ret (pe_ix ix_list (pv 0) (pv 1) (fun _ _ => rfl))))
      pss_nil)
      (pss_one (ps_ret pe_int))), ?_⟩
    refine ⟨.int k, rfl, .ref a, rfl, a, _, rfl, .inl hS, _, _, rfl, rfl, _, rfl, ite2 (fun h1 => ?_) (fun h1 => ?_)⟩
    · have h1 := of_decide_eq_true h1
      rw [List.length_map] at h1
      have h2 : k < ns.length := by omega
      exact ⟨.ref a, rfl, .int k, rfl, a, _, k, .int ns[k], rfl, rfl, hS, atI_nat (by rw [List.getElem?_map, List.getElem?_eq_getElem h2]; rfl), q _⟩
    · exact q _
def spWell : Sp := fun vs H Q _ => ∃ (x : Int), vs = [.int x] ∧ ∀ H' a, H a = none → Same H H' → Wl H' a 0 → Q (.ref a) H'
theorem c_l_well (T : Top K mg) : C8.Cal P w K mg base 1 "_law_well" spWell [] := by
  refine cal_of T.d_l_well sc_l_well (fun _ _ _ _ _ _ us hl => match us, hl with | [_], _ => rfl) (fun vs H Q E h => ?_) (fun f cdv A outer s H vs Q E hr h => ?_)
  · obtain ⟨x, rfl, _⟩ := h
    rfl
  · obtain ⟨x, rfl, q⟩ := h
    refine ⟨_, (pss_one (ps_ret (pe_lst (pa_cons (pe_op op_mul (pv 0) (pe_callTy call_int1 (by rfl) T.z_int (by decide +kernel) (pa_cons (pe_cmpR op_ge (pv 0) (pe_op op_pow pe_int pe_int) (nomark _)) pa_nil))) (pa_cons (pv 0) (pa_cons pe_int pa_nil)))))), ?_⟩
    refine ⟨.int x, rfl, .int x, rfl, 10, 18, rfl, rfl, ⟨by decide, by decide, by decide⟩, _, _, rfl, rfl, .inr ⟨_, rfl, _, _, rfl, rfl, .inr ?_, .int x, rfl, (by show 3 ≤ sizeLine; decide), fun p hp => ?_⟩⟩
    · split <;> exact ⟨by decide, by decide⟩
    · exact q _ p hp (same_new hp) ⟨Int.le_refl _, _, _, upd_same⟩
/-- the number that is drawn; the well behind it -/
def Drawn (H : Hp) (a : Addr) (n c : Int) (Q : VK) : Prop := ∀ r x y c', 0 ≤ r → r < n → c ≤ c' → c' ≤ c + 1 → Q (.int r) (upd H a (.lst [.int x, .int y, .int c']))
def spDraw : Sp := fun vs H Q _ => ∃ (a : Addr) (n c : Int), vs = [.ref a, .int n] ∧ Wl H a c ∧ 0 < n ∧ n < 1000000 ∧ c < 2 ^ 40 ∧ Drawn H a n c Q
theorem at3 (x y c : Int) : atI [V.int x, .int y, .int c] 0 = some (.int x) ∧ atI [V.int x, .int y, .int c] 1 = some (.int y) ∧ atI [V.int x, .int y, .int c] 2 = some (.int c) := ⟨rfl, rfl, rfl⟩
theorem pow_small {i : Int} (h0 : 0 ≤ i) (h : i < 2 ^ 62) : i.natAbs < 2 ^ 64 := by omega
theorem c_l_draw (T : Top K mg) : C8.Cal P w K mg base 1 "_law_draw" spDraw [] := by
  refine cal_of T.d_l_draw sc_l_draw (fun _ _ _ _ _ _ us hl => match us, hl with | [_, _], _ => rfl) (fun vs H Q E h => ?_) (fun f cdv A outer s H vs Q E hr h => ?_)
  · obtain ⟨a, n, c, rfl, _⟩ := h
    rfl
  · obtain ⟨a, n, c, rfl, ⟨hc0, x, y, hw⟩, hn0, hn1, hc, q⟩ := h
    refine ⟨_, (pss_cons (ps_if (pt_cmpR op_gt (pe_ix ix_list (pv 0) pe_int (fun _ _ => rfl)) pe_int (nomark _))
      (pss_cons (ps_set (i := 2) sc_l_draw.nd rfl (Or.inl rfl) (pe_op op_mod (pe_callTy call_int1 (by rfl) T.z_int (by decide +kernel) (pa_cons (pe_ix ix_list (pv 0) pe_int (fun _ _ => rfl)) pa_nil)) (pv 1)))
      (pss_cons (ps_asg (pe_op op_fdivW (pe_ix ix_list (pv 0) pe_int (fun _ _ => rfl)) (pv 1)) (pg_sub (pv 0) pe_int set_list))
      (pss_one (ps_ret (pv 2)))))
      pss_nil)
      (pss_cons (ps_asg (pe_op op_add (pe_ix ix_list (pv 0) pe_int (fun _ _ => rfl)) pe_int) (pg_sub (pv 0) pe_int set_list))
      (pss_cons (ps_set (i := 3) sc_l_draw.nd rfl (Or.inl rfl) (pe_op op_add (pe_op op_mod (pe_callTy call_int1 (by rfl) T.z_int (by decide +kernel) (pa_cons (pe_ix ix_list (pv 0) pe_int (fun _ _ => rfl)) pa_nil)) pe_int) (pe_op op_mul (pe_op op_mod (pe_callTy call_int1 (by rfl) T.z_int (by decide +kernel) (pa_cons (pe_op op_fdivW (pe_ix ix_list (pv 0) pe_int (fun _ _ => rfl)) pe_int) pa_nil)) pe_int) pe_int)))
      (pss_cons (ps_set (i := 4) sc_l_draw.nd rfl (Or.inl rfl) (pe_op op_mod (pe_callTy call_int1 (by rfl) T.z_int (by decide +kernel) (pa_cons (pe_op op_pow (pe_op op_add (pe_op op_add (pv 3) (pe_op op_mul pe_int (pe_ix ix_list (pv 0) pe_int (fun _ _ => rfl)))) pe_int) pe_int) pa_nil)) pe_int))
      (pss_cons (ps_set (i := 4) sc_l_draw.nd rfl (Or.inl rfl) (pe_op op_mod (pe_callTy call_int1 (by rfl) T.z_int (by decide +kernel) (pa_cons (pe_op op_mul (pv 4) (pe_op op_add (pe_op op_add (pe_op op_fdivW (pv 4) pe_int) pe_int) (pe_ix ix_list (pv 0) pe_int (fun _ _ => rfl)))) pa_nil)) pe_int))
      (pss_one (ps_ret (pe_op op_mod (pe_callTy call_int1 (by rfl) T.z_int (by decide +kernel) (pa_cons (pe_op op_mod (pe_callTy call_int1 (by rfl) T.z_int (by decide +kernel) (pa_cons (pe_op op_mul (pv 4) (pe_op op_add (pe_op op_fdivW (pv 4) pe_int) pe_int)) pa_nil)) pe_int) pa_nil)) (pv 1))))))))), ?_⟩
    refine ⟨.ref a, rfl, a, _, 0, _, rfl, rfl, SqL.of hw, rfl, _, _, rfl, rfl, _, rfl, ite2 (fun h1 => ?_) (fun h1 => ?_)⟩
    · refine ⟨.ref a, rfl, a, _, 0, _, rfl, rfl, SqL.of hw, rfl, .inl ⟨_, rfl, .int n, rfl, _, _, rfl, rfl, hn0, ?_⟩⟩
      refine ⟨.ref a, rfl, a, _, 0, _, rfl, rfl, SqL.of hw, rfl, .int n, rfl, _, _, rfl, rfl, wide_div (b := 20) hn0 (by omega) (by decide) (by decide), .ref a, rfl, a, _, 0, 0, rfl, rfl, hw, rfl, .int (x % n), rfl, ?_⟩
      exact q _ _ _ _ (Int.emod_nonneg _ (by omega)) (Int.emod_lt_of_pos _ hn0) (Int.le_refl _) (by omega)
    · refine ⟨.ref a, rfl, a, _, 2, _, rfl, rfl, SqL.of hw, rfl, _, _, rfl, rfl, .ref a, rfl, a, _, 2, 2, rfl, rfl, hw, rfl, ?_⟩
      have hw2 : (upd H a (.lst [V.int x, .int y, .int (c + 1)])) a = some (.lst [V.int x, .int y, .int (c + 1)]) := upd_same
      have b1 : ∀ z m : Int, 0 < m → 0 ≤ z % m ∧ z % m < m := fun z m h => ⟨Int.emod_nonneg _ (by omega), Int.emod_lt_of_pos _ h⟩
      have y1 := b1 y 2147483549 (by decide)
      have y2 := b1 (y / 2147483549) 80021 (by decide)
      refine ⟨.ref a, rfl, a, _, 1, _, rfl, rfl, SqL.of hw2, rfl, .inl ⟨_, rfl, _, _, rfl, rfl, (by show (0 : Int) < _; decide), .ref a, rfl, a, _, 1, _, rfl, rfl, SqL.of hw2, rfl, _, _, rfl, rfl, wide_div (b := 40) (by decide) (by decide) (by decide) (by decide), .inl ⟨_, rfl, _, _, rfl, rfl, (by show (0 : Int) < _; decide), _, _, rfl, rfl, .inr (by decide), _, _, rfl, rfl, ?_⟩⟩⟩
      refine ⟨_, rfl, .ref a, rfl, a, _, 2, _, rfl, rfl, SqL.of hw2, rfl, _, _, rfl, rfl, .inl (by decide), _, _, rfl, rfl, _, _, rfl, rfl, _, _, rfl, rfl, ⟨by decide, by decide, pow_small (by omega) (by omega)⟩, .inl ⟨_, rfl, _, _, rfl, rfl, (by show (0 : Int) < _; decide), ?_⟩⟩
      generalize ((y % 2147483549 + y / 2147483549 % 80021 * 37 + 5843 * (c + 1) + 17) ^ Int.toNat 5) = big
      have m1 := b1 big 2147483647 (by decide)
      refine ⟨_, rfl, _, rfl, _, _, rfl, rfl, wide_div (b := 40) (by decide) (by decide) (by decide) (by decide), _, _, rfl, rfl, .ref a, rfl, a, _, 2, _, rfl, rfl, SqL.of hw2, rfl, _, _, rfl, rfl, _, _, rfl, rfl, .inl (by omega), .inl ⟨_, rfl, _, _, rfl, rfl, (by show (0 : Int) < _; decide), ?_⟩⟩
      generalize (big % 2147483647 * (big % 2147483647 / 953 + 40993 + (c + 1))) = big2
      have m2 := b1 big2 2147483629 (by decide)
      refine ⟨_, rfl, _, rfl, _, _, rfl, rfl, wide_div (b := 40) (by decide) (by decide) (by decide) (by decide), _, _, rfl, rfl, _, _, rfl, rfl, .inl (by omega), .inl ⟨_, rfl, _, _, rfl, rfl, (by show (0 : Int) < _; decide), .inl ⟨_, rfl, .int n, rfl, _, _, rfl, rfl, hn0, ?_⟩⟩⟩
      exact q _ _ _ _ (Int.emod_nonneg _ (by omega)) (Int.emod_lt_of_pos _ hn0) (by omega) (Int.le_refl _)
def spPick (K : PySem.W.Frag) : Sp := fun vs H Q _ => ∃ (a b : Addr) (xs : List V) (c : Int), vs = [.ref a, .ref b] ∧ Wl H a c ∧ SqL K H b xs ∧ b ≠ a ∧ 0 < xs.length ∧ xs.length < 1000000 ∧ c < 2 ^ 40 ∧ ∀ v ∈ xs, Aft a c 1 H (Q v)
theorem c_l_pick (T : Top K mg) : C8.Cal P w K mg base 2 "_law_pick" (spPick K) [] := by
  refine cal_of T.d_l_pick sc_l_pick (fun _ _ _ _ _ _ us hl => match us, hl with | [_, _], _ => rfl) (fun vs H Q E h => ?_) (fun f cdv A outer s H vs Q E hr h => ?_)
  · obtain ⟨a, b, xs, c, rfl, _⟩ := h
    rfl
  · obtain ⟨a, b, xs, c, rfl, hw, hS, nb, h0, h1, hc, q⟩ := h
    refine ⟨_, (pss_one (ps_ret (pe_ix ix_list (pv 1) (C8.pe_c (c_l_draw T) hr (by decide) (by rfl) (pa_cons (pv 0) (pa_cons (pe_callB call_len_seq (by rfl) T.z_len (by decide +kernel) (pa_cons (pv 1) pa_nil)) pa_nil))) (fun _ _ => rfl)))), ?_⟩
    refine ⟨.ref b, rfl, .ref a, rfl, .ref b, rfl, b, xs, rfl, .inl hS, a, xs.length, c, rfl, hw, by omega, by omega, hc, fun r x y c' hr0 hr1 hc1 hc2 => ?_⟩
    obtain ⟨v, hv, _, e⟩ := atI_int hr0 hr1
    exact ⟨b, xs, r, v, rfl, rfl, sql_fr hS nb Fr.at, e, q v hv _ c' Fr.at (Wl.upd (by have := hw.1; omega)) hc1 hc2⟩
def spSigns : Sp := fun vs H Q _ => ∃ (a : Addr) (s : Str) (l m : Nat) (c : Int), vs = [.ref a, .str s, .int l, .int m] ∧ Wl H a c ∧ 0 < s.length ∧ s.length < 100000 ∧ l ≤ m ∧ m ≤ 1000 ∧ c < 2 ^ 39 ∧
  ∀ x : Str, (∀ u ∈ TL.tl x, u ∈ TL.tl s) → l ≤ x.length → x.length ≤ m → Aft a c (m + 1) H (Q (.str x))
theorem c_l_signs (T : Top K mg) : C8.Cal P w K mg base 2 "_law_signs" spSigns [] := by
  refine cal_of T.d_l_signs sc_l_signs (fun _ _ _ _ _ _ us hl => match us, hl with | [_, _, _, _], _ => rfl) (fun vs H Q E h => ?_) (fun f cdv A outer s H vs Q E hr h => ?_)
  · obtain ⟨a, z, l, m, c, rfl, _⟩ := h
    rfl
  · obtain ⟨a, z, l, m, c, rfl, hw, hz0, hz1, hlm, hm, hc, q⟩ := h
    have hc0 := hw.1
    refine ⟨_, (pss_one (ps_ret (pe_join pe_str (pe_lc (own := [("_law_k", 4)]) (g := gName 4) (by rfl) sc_l_signs.nd (pi_range1 (by rfl) T.z_range (pa_cons (pe_op op_add (pv 2) (C8.pe_c (c_l_draw T) hr (by decide) (by rfl) (pa_cons (pv 0) (pa_cons (pe_op op_add (pe_op op_sub (pv 3) (pv 2)) pe_int) pa_nil)))) pa_nil)) (blkOk_by (own := [("_law_k", 4)]) (N := ["_law_well_here", "_law_signs_here", "_law_least", "_law_most", "_law_k"]) (sc := C8.fnScope s_l_signs) (by decide +kernel)) (fun _ _ _ _ _ => (pg_name (i := 4) sc_l_signs.nd rfl (Or.inl rfl))) (fun _ _ _ _ _ => pts_nil) (fun _ _ _ _ _ => (pe_ix ix_str (pv 1) (C8.pe_c (c_l_draw T) hr (by decide) (by rfl) (pa_cons (pv 0) (pa_cons (pe_callB call_len_str (by rfl) T.z_len (by decide +kernel) (pa_cons (pv 1) pa_nil)) pa_nil))) (fun _ _ => rfl))))))), ?_⟩
    refine ⟨⟨_, rfl⟩, .int l, rfl, .ref a, rfl, .int m, rfl, .int l, rfl, _, _, rfl, rfl, _, _, rfl, rfl, a, _, c, rfl, hw, by omega, by omega, by omega, fun r x y c1 hr0 hr1 hc1 hc2 => ?_⟩
    have hw1 := Wl.upd (H := H) (a := a) (x := x) (y := y) (c := c1) (by omega)
    have f1 : Fr a H (upd H a (.lst [.int x, .int y, .int c1])) := Fr.at
    generalize upd H a (.lst [.int x, .int y, .int c1]) = H1 at hw1 f1 ⊢
    refine ⟨_, _, rfl, rfl, _, rfl, by omega, by omega, fun D hD => ?_⟩
    have nD := hw1.ne hD
    have en : ((l : Int) + r).toNat ≤ m := by omega
    refine lc_inv (i := 4) yields_range (fun k acc H' => Fr a H1 H' ∧ ∃ c', Wl H' a c' ∧ c1 ≤ c' ∧ c' ≤ c1 + k ∧ ∃ cs : List Nat, acc = cs.map sgn ∧ (∀ u ∈ cs, u ∈ TL.tl z) ∧ cs.length = k) (fun _ _ _ _ _ => trivial) ?_ (fun k acc H' x I hA hx ha hk => ?_) ?_ (fun acc H' I hA _ => ?_)
    · exact ⟨Fr.new hD, c1, hw1.new hD, Int.le_refl _, by omega, [], rfl, (fun u hu => nomatch hu), rfl⟩
    · obtain ⟨fr, c', hw', hc3, hc4, cs, rfl, hcs, hl⟩ := I
      have hkm : k < m := by
        have := (List.getElem?_eq_some_iff.mp hx).1
        rw [List.length_map, List.length_range] at this
        omega
      refine yes_ ?_
      refine ⟨.str z, rfl, .ref a, rfl, .str z, rfl, z, rfl, small_line (by omega), a, z.length, c', rfl, hw', by omega, by omega, by omega, fun r x y c2 hr0 hr1 hc5 hc6 => ?_⟩
      obtain ⟨u, hu, _, e⟩ := atI_int (xs := TL.tl z) hr0 (by rw [← TL.len_tl]; exact hr1)
      have fr2 : Fr a H' (upd H' a (.lst [.int x, .int y, .int c2])) := Fr.at
      refine ⟨z, r, u, rfl, rfl, small_line (by omega), e, lc_take (by rw [upd_ne nD]; exact hA) ha hk ⟨(fr.trans fr2).mut hD, c2, (Wl.upd (by omega)).mut nD, by omega, by omega, cs ++ [u], by rw [List.map_append]; rfl, fun w hw => ?_, by rw [List.length_append, hl]; rfl⟩⟩
      rcases List.mem_append.mp hw with hw | hw
      · exact hcs w hw
      · rw [List.mem_singleton.mp hw]
        exact hu
    · rw [List.length_map, List.length_range]
      omega
    · obtain ⟨fr, c', hw', hc3, hc4, cs, rfl, hcs, hl⟩ := I
      rw [List.length_map, List.length_range] at hl hc4
      refine ⟨_, D, cs.map fun c => (⟨#[c]⟩ : Str), rfl, rfl, .inl (SqL.of (by rw [List.map_map]; exact hA)), ?_, ?_⟩
      · rw [signs_sum, List.length_map]
        show cs.length + cs.length * 0 ≤ _
        omega
      · have e := join_signs cs
        refine q _ (by rw [e]; exact hcs) (by rw [TL.len_tl, e]; omega) (by rw [TL.len_tl, e]; omega) H' c' (f1.trans fr) hw' (by omega) (by omega)
def spAllSigns : Sp := fun vs H Q _ => vs = [] ∧ Q (.str ALL) H
theorem c_l_all_signs (T : Top K mg) : C8.Cal P w K mg base 1 "_law_all_signs" spAllSigns [] := by
  refine cal_of T.d_l_all_signs sc_l_all_signs (fun _ _ _ _ _ _ us hl => match us, hl with | [], _ => rfl) (fun vs H Q E h => ?_) (fun f cdv A outer s H vs Q E hr h => ?_)
  · obtain ⟨rfl, _⟩ := h
    rfl
  · obtain ⟨rfl, q⟩ := h
    refine ⟨_, (pss_cons (ps_set (i := 0) sc_l_all_signs.nd rfl (Or.inl rfl) pe_str)
      (pss_one (ps_ret (pe_op op_add_str (pe_op op_add_str (pv 0) pe_str) pe_str)))), ?_⟩
    exact ⟨_, rfl, _, _, rfl, rfl, (by decide +kernel), _, _, rfl, rfl, (by decide +kernel), q⟩
def spId : Sp := fun vs H Q _ => ∃ (a : Addr) (c : Int), vs = [.ref a] ∧ Wl H a c ∧ c < 2 ^ 38 ∧ ∀ x : Str, (∀ u ∈ TL.tl x, u ∈ TL.tl HEX) → x.length = 16 → Aft a c 20 H (Q (.str x))
theorem c_l_id (T : Top K mg) : C8.Cal P w K mg base 3 "_law_id" spId [] := by
  refine cal_of T.d_l_id sc_l_id (fun _ _ _ _ _ _ us hl => match us, hl with | [_], _ => rfl) (fun vs H Q E h => ?_) (fun f cdv A outer s H vs Q E hr h => ?_)
  · obtain ⟨a, c, rfl, _⟩ := h
    rfl
  · obtain ⟨a, c, rfl, hw, hc, q⟩ := h
    refine ⟨_, (pss_one (ps_ret (C8.pe_c (c_l_signs T) hr (by decide) (by rfl) (pa_cons (pv 0) (pa_cons pe_str (pa_cons pe_int (pa_cons pe_int pa_nil))))))), ?_⟩
    exact ⟨.ref a, rfl, a, HEX, 16, 16, c, rfl, hw, by decide +kernel, by decide +kernel, by decide, by decide, by omega, fun x hx h1 h2 => (q x hx (by omega)).more (Fr.refl a H) (Int.le_refl _) (by omega)⟩
theorem menu {xs : List Int} {v : V} (h : v ∈ xs.map V.int) : ∃ m ∈ xs, v = .int m := by
  obtain ⟨m, hm, rfl⟩ := List.mem_map.mp h
  exact ⟨m, hm, rfl⟩
def spSegment : Sp := fun vs H Q _ => ∃ (a : Addr) (c : Int), vs = [.ref a] ∧ Wl H a c ∧ c < 2 ^ 38 ∧ ∀ x : Str, isSegF x = true → Aft a c 20 H (Q (.str x))
theorem c_l_segment (T : Top K mg) : C8.Cal P w K mg base 3 "_law_segment" (spSegment) [] := by
  refine cal_of T.d_l_segment sc_l_segment (fun _ _ _ _ _ _ us hl => match us, hl with | [_], _ => rfl) (fun vs H Q E h => ?_) (fun f cdv A outer s H vs Q E hr h => ?_)
  · obtain ⟨a, c, rfl, _⟩ := h
    rfl
  · obtain ⟨a, c, rfl, hw, hc, q⟩ := h
    refine ⟨_, (pss_cons (ps_set (i := 1) sc_l_segment.nd rfl (Or.inl rfl) pe_str)
      (pss_cons (ps_set (i := 2) sc_l_segment.nd rfl (Or.inl rfl) (C8.pe_c (c_l_signs T) hr (by decide) (by rfl) (pa_cons (pv 0) (pa_cons (pv 1) (pa_cons pe_int (pa_cons (C8.pe_c (c_l_pick T) hr (by decide) (by rfl) (pa_cons (pv 0) (pa_cons (pe_lst (pa_cons pe_int (pa_cons pe_int (pa_cons pe_int pa_nil)))) pa_nil))) pa_nil))))))
      (pss_cons (ps_if (PW.pt (pw_and (pt_cmpR op_lt (pe_callB call_len_str (by rfl) T.z_len (by decide +kernel) (pa_cons (pv 2) pa_nil)) pe_int (nomark _)) (pw_and1 (pt_cmpR op_eq (C8.pe_c (c_l_draw T) hr (by decide) (by rfl) (pa_cons (pv 0) (pa_cons pe_int pa_nil))) pe_int (nomark _)))))
      (pss_cons (ps_set (i := 3) sc_l_segment.nd rfl (Or.inl rfl) (C8.pe_c (c_l_draw T) hr (by decide) (by rfl) (pa_cons (pv 0) (pa_cons (pe_op op_add (pe_callB call_len_str (by rfl) T.z_len (by decide +kernel) (pa_cons (pv 2) pa_nil)) pe_int) pa_nil))))
      (pss_one (ps_set (i := 2) sc_l_segment.nd rfl (Or.inl rfl) (pe_op op_add_str (pe_op op_add_str (pe_slice sl_str (pv 2) po_none (po_some (pv 3))) pe_str) (pe_slice sl_str (pv 2) (po_some (pv 3)) po_none)))))
      pss_nil)
      (pss_one (ps_ret (pv 2)))))), ?_⟩
    refine ⟨.ref a, rfl, .str LTS, rfl, .ref a, rfl, (by show 3 ≤ sizeLine; decide), fun p hp => ⟨a, p, _, c, rfl, hw.new hp, SqL.of upd_same, hw.ne hp, (by show 0 < 3; decide), (by show 3 < 1000000; decide), by omega, fun v hv H1 c1 f1 w1 h1 h2 => ?_⟩⟩
    obtain ⟨m, rfl, hm⟩ : ∃ m : Nat, v = .int m ∧ 1 ≤ m ∧ m ≤ 12 := by
      obtain ⟨m, hm, rfl⟩ := menu (xs := [1, 3, 12]) hv
      simp only [List.mem_cons, List.not_mem_nil, or_false] at hm
      exact ⟨m.toNat, by congr 1; omega, by omega, by omega⟩
    refine ⟨a, LTS, 1, m, c1, rfl, w1, (by decide +kernel), (by decide +kernel), by omega, by omega, by omega, fun x hx h3 h4 H2 c2 f2 w2 h5 h6 => ?_⟩
    have fr2 : Fr a H H2 := (Fr.new hp).trans (f1.trans f2)
    refine ⟨.str x, rfl, x, rfl, small_line (by omega), _, _, rfl, rfl, _, rfl, ite2 (fun h7 => ?_) (fun h7 => ?_)⟩
    · have h7 : x.length < 12 := by
        have := of_decide_eq_true h7
        omega
      refine ⟨.ref a, rfl, a, 4, c2, rfl, w2, by decide, by decide, by omega, fun r x1 y1 c3 hr0 hr1 h8 h9 => ?_⟩
      have w3 := Wl.upd (H := H2) (a := a) (x := x1) (y := y1) (c := c3) (by have := w2.1; omega)
      have f3 : Fr a H2 (upd H2 a (.lst [.int x1, .int y1, .int c3])) := Fr.at
      generalize upd H2 a (.lst [.int x1, .int y1, .int c3]) = H3 at w3 f3 ⊢
      refine ⟨rfl, _, rfl, ite2 (fun h10 => ?_) (fun h10 => ?_)⟩
      · refine ⟨.ref a, rfl, .str x, rfl, x, rfl, small_line (by omega), _, _, rfl, rfl, a, _, c3, rfl, w3, by omega, by omega, by omega, fun r2 x2 y2 c4 hr2 hr3 h11 h12 => ?_⟩
        have w4 := Wl.upd (H := H3) (a := a) (x := x2) (y := y2) (c := c4) (by have := w3.1; omega)
        have f4 : Fr a H3 (upd H3 a (.lst [.int x2, .int y2, .int c4])) := Fr.at
        generalize upd H3 a (.lst [.int x2, .int y2, .int c4]) = H4 at w4 f4 ⊢
        obtain ⟨n, rfl⟩ : ∃ n : Nat, r2 = n := ⟨r2.toNat, by omega⟩
        obtain ⟨e1, e2⟩ := seg_dotted n hx h3 h7
        refine ⟨.str x, rfl, .int n, rfl, n, rfl, x, rfl, small_line (by omega), _, _, rfl, rfl, ?_, .str x, rfl, .int n, rfl, n, rfl, x, rfl, small_line (by omega), _, _, rfl, rfl, ?_, .str _, rfl, ?_⟩
        · refine small_line ?_
          have := cutS_le x none (some (n : Int))
          have e : ("." : Str).length = 1 := by decide +kernel
          omega
        · refine small_line ?_
          have := cutS_le x none (some (n : Int))
          have := cutS_le x (some (n : Int)) none
          have e : ("." : Str).length = 1 := by decide +kernel
          rw [Str.length_append]
          omega
        · exact q _ e1 H4 c4 (fr2.trans (f3.trans f4)) w4 (by omega) (by omega)
      · exact ⟨.str x, rfl, q x (seg_plain hx h3 (by omega)) H3 c3 (fr2.trans f3) w3 (by omega) (by omega)⟩
    · exact iteF ⟨.str x, rfl, q x (seg_plain hx h3 (by omega)) H2 c2 fr2 w2 (by omega) (by omega)⟩
def spPath : Sp := fun vs H Q _ => ∃ (a : Addr) (c : Int), vs = [.ref a] ∧ Wl H a c ∧ c < 2 ^ 37 ∧ ∀ x : Str, isPathF x = true → x.length ≤ 100 → OkS x → Aft a c 200 H (Q (.str x))
theorem c_l_path (T : Top K mg) : C8.Cal P w K mg base 4 "_law_path" (spPath) [] := by
  refine cal_of T.d_l_path sc_l_path (fun _ _ _ _ _ _ us hl => match us, hl with | [_], _ => rfl) (fun vs H Q E h => ?_) (fun f cdv A outer s H vs Q E hr h => ?_)
  · obtain ⟨a, c, rfl, _⟩ := h
    rfl
  · obtain ⟨a, c, rfl, hw, hc, q⟩ := h
    have hc0 := hw.1
    refine ⟨_, (pss_one (ps_ret (pe_join pe_str (pe_lc (own := [("_law_k", 1)]) (g := gName 1) (by rfl) sc_l_path.nd (pi_range1 (by rfl) T.z_range (pa_cons (pe_op op_add pe_int (C8.pe_c (c_l_draw T) hr (by decide) (by rfl) (pa_cons (pv 0) (pa_cons (C8.pe_c (c_l_pick T) hr (by decide) (by rfl) (pa_cons (pv 0) (pa_cons (pe_lst (pa_cons pe_int (pa_cons pe_int (pa_cons pe_int pa_nil)))) pa_nil))) pa_nil)))) pa_nil)) (blkOk_by (own := [("_law_k", 1)]) (N := ["_law_well_here", "_law_k"]) (sc := C8.fnScope s_l_path) (by decide +kernel)) (fun _ _ _ _ _ => (pg_name (i := 1) sc_l_path.nd rfl (Or.inl rfl))) (fun _ _ _ _ _ => pts_nil) (fun _ _ _ _ _ => (C8.pe_c (c_l_segment T) hr (by decide) (by rfl) (pa_cons (pv 0) pa_nil))))))), ?_⟩
    refine ⟨⟨_, rfl⟩, .ref a, rfl, .ref a, rfl, (by show 3 ≤ sizeLine; decide), fun p hp => ⟨a, p, _, c, rfl, hw.new hp, SqL.of upd_same, hw.ne hp, (by show 0 < 3; decide), (by show 3 < 1000000; decide), by omega, fun v hv H1 c1 f1 w1 h1 h2 => ?_⟩⟩
    obtain ⟨m, rfl, hm⟩ : ∃ m : Int, v = .int m ∧ 1 ≤ m ∧ m ≤ 6 := by
      obtain ⟨m, hm, rfl⟩ := menu (xs := [1, 2, 6]) hv
      simp only [List.mem_cons, List.not_mem_nil, or_false] at hm
      exact ⟨m, rfl, by omega, by omega⟩
    refine ⟨a, m, c1, rfl, w1, by omega, by omega, by omega, fun r x y c2 hr0 hr1 h3 h4 => ?_⟩
    have w2 := Wl.upd (H := H1) (a := a) (x := x) (y := y) (c := c2) (by omega)
    have f2 : Fr a H1 (upd H1 a (.lst [.int x, .int y, .int c2])) := Fr.at
    generalize upd H1 a (.lst [.int x, .int y, .int c2]) = H2 at w2 f2 ⊢
    have fr2 : Fr a H H2 := (Fr.new hp).trans (f1.trans f2)
    refine ⟨_, _, rfl, rfl, _, rfl, by omega, by omega, fun D hD => ?_⟩
    have nD := w2.ne hD
    have en : ((1 : Int) + r).toNat ≤ 6 ∧ 1 ≤ ((1 : Int) + r).toNat := by omega
    refine lc_inv (i := 1) yields_range (fun k acc H' => Fr a H2 H' ∧ ∃ c', Wl H' a c' ∧ c2 ≤ c' ∧ c' ≤ c2 + 20 * k ∧ ∃ cs : List Str, acc = cs.map V.str ∧ (∀ u ∈ cs, isSegF u = true) ∧ cs.length = k) (fun _ _ _ _ _ => trivial) ?_ (fun k acc H' x I hA hx ha hk => ?_) ?_ (fun acc H' I hA _ => ?_)
    · exact ⟨Fr.new hD, c2, w2.new hD, Int.le_refl _, by omega, [], rfl, (fun u hu => nomatch hu), rfl⟩
    · obtain ⟨fr, c', hw', hc3, hc4, cs, rfl, hcs, hl⟩ := I
      have hkm : k < 6 := by
        have := (List.getElem?_eq_some_iff.mp hx).1
        rw [List.length_map, List.length_range] at this
        omega
      refine yes_ ?_
      refine ⟨.ref a, rfl, a, c', rfl, hw', by omega, fun u hu H4 c4 f4 w4 h5 h6 => ?_⟩
      refine lc_take (f4 _ _ nD hA) ha hk ⟨(fr.trans f4).mut hD, c4, w4.mut nD, by omega, by omega, cs ++ [u], by rw [List.map_append]; rfl, fun w hw => ?_, by rw [List.length_append, hl]; rfl⟩
      rcases List.mem_append.mp hw with hw | hw
      · exact hcs w hw
      · rw [List.mem_singleton.mp hw]
        exact hu
    · rw [List.length_map, List.length_range]
      omega
    · obtain ⟨fr, c', hw', hc3, hc4, cs, rfl, hcs, hl⟩ := I
      rw [List.length_map, List.length_range] at hl hc4
      have sl : ∀ p ∈ cs, p.length ≤ 12 := fun p hp => seg_len (hcs p hp)
      have jl := join_len "/" cs sl
      have e1 : ("/" : Str).length = 1 := by decide +kernel
      refine ⟨_, D, cs, rfl, rfl, .inl (SqL.of hA), ?_, ?_⟩
      · have := sum_len cs sl
        show (cs.map (·.length)).sum + cs.length * ("/" : Str).length ≤ _
        rw [e1]
        omega
      · refine q _ (path_of (fun e => ?_) (by omega) hcs) (by rw [e1] at jl; omega) (ok_join ok_slash fun p hp => ok_seg (hcs p hp)) H' c' (fr2.trans fr) hw' (by omega) (by omega)
        rw [e] at hl
        have : ([] : List Str).length = 0 := rfl
        omega
def spText : Sp := fun vs H Q _ => ∃ (a : Addr) (c : Int), vs = [.ref a] ∧ Wl H a c ∧ c < 2 ^ 37 ∧ ∀ x : Str, isTextF x = true → x.length ≤ 2000 → Aft a c 100 H (Q (.str x))
theorem c_l_text (T : Top K mg) : C8.Cal P w K mg base 3 "_law_text" (spText) [] := by
  refine cal_of T.d_l_text sc_l_text (fun _ _ _ _ _ _ us hl => match us, hl with | [_], _ => rfl) (fun vs H Q E h => ?_) (fun f cdv A outer s H vs Q E hr h => ?_)
  · obtain ⟨a, c, rfl, _⟩ := h
    rfl
  · obtain ⟨a, c, rfl, hw, hc, q⟩ := h
    have hc0 := hw.1
    refine ⟨_, (pss_cons (ps_set (i := 1) sc_l_text.nd rfl (Or.inl rfl) (C8.pe_c (c_l_pick T) hr (by decide) (by rfl) (pa_cons (pv 0) (pa_cons (pe_lst (pa_cons pe_int (pa_cons pe_int (pa_cons pe_int (pa_cons pe_int pa_nil))))) pa_nil))))
      (pss_cons (ps_set (i := 2) sc_l_text.nd rfl (Or.inl rfl) (C8.pe_c (c_l_signs T) hr (by decide) (by rfl) (pa_cons (pv 0) (pa_cons (pe_c0 (c_l_all_signs T) hr (by decide) (by rfl)) (pa_cons pe_int (pa_cons (pe_callB (call_min2 rfl) (by rfl) T.z_min (by decide +kernel) (pa_cons (pv 1) (pa_cons pe_int pa_nil))) pa_nil))))))
      (pss_cons (ps_if (PW.pt (pw_and (pt_cmpR op_ne (pv 2) pe_str (nomark _)) (pw_and1 (pt_cmpR op_eq (pv 1) pe_int (nomark _)))))
      (pss_one (ps_set (i := 2) sc_l_text.nd rfl (Or.inl rfl) (pe_slice sl_str (pe_op op_mul_si (pv 2) pe_int) po_none (po_some (C8.pe_c (c_l_pick T) hr (by decide) (by rfl) (pa_cons (pv 0) (pa_cons (pe_lst (pa_cons pe_int (pa_cons pe_int (pa_cons pe_int pa_nil)))) pa_nil)))))))
      pss_nil)
      (pss_one (ps_ret (pv 2)))))), ?_⟩
    refine ⟨.ref a, rfl, (by show 4 ≤ sizeLine; decide), fun p hp => ⟨a, p, _, c, rfl, hw.new hp, SqL.of upd_same, hw.ne hp, (by show 0 < 4; decide), (by show 4 < 1000000; decide), by omega, fun v hv H1 c1 f1 w1 h1 h2 => ?_⟩⟩
    obtain ⟨m, rfl, hm⟩ : ∃ m : Int, v = .int m ∧ 3 ≤ m ∧ m ≤ 2000 := by
      obtain ⟨m, hm, rfl⟩ := menu (xs := [3, 3, 20, 2000]) hv
      simp only [List.mem_cons, List.not_mem_nil, or_false] at hm
      exact ⟨m, rfl, by omega, by omega⟩
    refine ⟨.ref a, rfl, rfl, .int m, rfl, _, _, rfl, ?_⟩
    obtain ⟨m', em, hm'⟩ : ∃ m' : Nat, (if (30 : Int) < m then 30 else m) = m' ∧ m' ≤ 30 := by
      split
      · exact ⟨30, rfl, Nat.le_refl _⟩
      · exact ⟨m.toNat, by omega, by omega⟩
    refine ⟨a, ALL, 0, m', c1, by rw [← em]; rfl, w1, (by decide +kernel), (by decide +kernel), by omega, by omega, by omega, fun x hx h3 h4 H2 c2 f2 w2 h5 h6 => ?_⟩
    have fr2 : Fr a H H2 := (Fr.new hp).trans (f1.trans f2)
    have fin : ∀ H3 c3, Fr a H2 H3 → Wl H3 a c3 → c2 ≤ c3 → c3 ≤ c2 + 10 → Q (.str x) H3 := fun H3 c3 f3 w3 h7 h8 => q x (text_of hx (by omega)) (by omega) H3 c3 (fr2.trans f3) w3 (by omega) (by omega)
    refine ⟨.str x, rfl, rfl, _, rfl, ite2 (fun h7 => ?_) (fun h7 => ?_)⟩
    · refine ⟨.int m, rfl, rfl, _, rfl, ite2 (fun h8 => ?_) (fun h8 => ?_)⟩
      · refine ⟨.str x, rfl, x, 2000, rfl, rfl, by decide, by decide, ?_, .ref a, rfl, (by show 3 ≤ sizeLine; decide), fun p2 hp2 => ⟨a, p2, _, c2, rfl, w2.new hp2, SqL.of upd_same, w2.ne hp2, (by show 0 < 3; decide), (by show 3 < 1000000; decide), by omega, fun v hv H3 c3 f3 w3 h9 h10 => ?_⟩⟩
        · have : x.length * Int.toNat 2000 ≤ 30 * 2000 := Nat.mul_le_mul (by omega) (by decide)
          omega
        · obtain ⟨k, rfl, hk⟩ : ∃ k : Nat, v = .int k ∧ k ≤ 2000 := by
            obtain ⟨m, hm, rfl⟩ := menu (xs := [2000, 1999, 1000]) hv
            simp only [List.mem_cons, List.not_mem_nil, or_false] at hm
            exact ⟨m.toNat, by congr 1; omega, by omega⟩
          have e := cut_to (repS x 2000) k
          have hr : (repS x (Int.toNat 2000)).length ≤ 100000 := by
            rw [rep_len]
            have : Int.toNat 2000 * x.length ≤ 2000 * 30 := Nat.mul_le_mul (by decide) (by omega)
            omega
          refine ⟨_, rfl, repS x (Int.toNat 2000), rfl, small_line (by omega), .str _, rfl, ?_⟩
          have hl : (cutS (repS x 2000) none (some (k : Int))).length ≤ 2000 := by
            rw [TL.len_tl, e, List.length_take]
            omega
          refine q _ (text_of (fun u hu => ?_) hl) hl H3 c3 (fr2.trans ((Fr.new hp2).trans f3)) w3 (by omega) (by omega)
          rw [e] at hu
          have hu := List.mem_of_mem_take hu
          rw [tl_rep] at hu
          obtain ⟨l, hl, hu⟩ := List.mem_flatten.mp hu
          rw [(List.mem_replicate.mp hl).2] at hu
          exact hx u hu
      · exact ⟨.str x, rfl, fin H2 c2 (Fr.refl a H2) w2 (Int.le_refl _) (by omega)⟩
    · exact iteF ⟨.str x, rfl, fin H2 c2 (Fr.refl a H2) w2 (Int.le_refl _) (by omega)⟩
end

section
variable {P : Program} {w : World} {K : PySem.W.Frag} {mg : Str → Option Value} {base : Heap}
/-! ### what the law says is due -/
def spOnly : Sp := fun vs H Q _ => ∃ (x y : Str), vs = [.str x, .str y] ∧ x.length ≤ 100000 ∧ OkS x ∧ ∀ H', Same H H' → Q (.bl (hasOnly x y)) H'
theorem c_l_only (T : Top K mg) : C8.Cal P w K mg base 1 "_law_only" spOnly [] := by
  refine cal_of T.d_l_only sc_l_only (fun _ _ _ _ _ _ us hl => match us, hl with | [_, _], _ => rfl) (fun vs H Q E h => ?_) (fun f cdv A outer s H vs Q E hr h => ?_)
  · obtain ⟨x, y, rfl, _⟩ := h
    rfl
  · obtain ⟨x, y, rfl, hx, ho, q⟩ := h
    refine ⟨_, (pss_one (ps_ret (pe_cmpR (op_eqD hr.units) (pe_lc (own := [("_law_sign", 2)]) (g := gName 2) (by rfl) sc_l_only.nd (pi_str (pv 0)) (blkOk_by (own := [("_law_sign", 2)]) (N := ["_law_text_here", "_law_signs_here", "_law_sign"]) (sc := C8.fnScope s_l_only) (by decide +kernel)) (fun _ _ _ _ _ => (pg_name (i := 2) sc_l_only.nd rfl (Or.inl rfl))) (fun _ _ _ _ _ => pts_one (pt_cmpR op_notIn_sign (pv 2) (pv 1) rfl)) (fun _ _ _ _ _ => (pv 2))) (pe_lst pa_nil) (nomark _)))), ?_⟩
    refine ⟨.str x, rfl, x, rfl, fun D hD => ?_⟩
    refine lc_pure (i := 2) (us := TL.tl x) (g := sgn) (yields_str x) sgn (fun c => !decide (c ∈ TL.tl y)) hD (fun _ _ => trivial) (fun H c _ hc R r => ⟨sgn c, rfl, .str y, rfl, c, y, rfl, rfl, _, rfl, r H (Same.refl H)⟩)
      (fun H c _ hc _ R r => ⟨sgn c, rfl, r H (Same.refl H)⟩) (by rw [← TL.len_tl]; omega) (fun H2 s2 h2 => ?_)
    refine ⟨Nat.zero_le _, fun p hp => ?_⟩
    refine ask_nil (ys := ((TL.tl x).filter fun c => !decide (c ∈ TL.tl y)).map fun c => (⟨#[c]⟩ : Str)) (ok_sgns ho _) ?_ upd_same ?_
    · rw [upd_ne (ne_of_none h2 hp), h2, map_sgn]
    · have e : (((TL.tl x).filter fun c => !decide (c ∈ TL.tl y)).map fun c => (⟨#[c]⟩ : Str)).isEmpty = hasOnly x y := by
        rw [List.isEmpty_map, filt_empty]
        rfl
      rw [e]
      exact q _ (s2.trans (same_new hp))
def dueF : Nat → Str → Bool
  | 0 => isIdF
  | 1 => isPathF
  | 2 => isRefF
  | 3 => isWordF LET
  | _ => isTextF
def spDue : Sp := fun vs H Q _ => ∃ (k : Nat) (v : V), vs = [.int k, v] ∧ k < 5 ∧ Thing H v ∧ ∀ H', Same H H' → Q (.bl (evalV (dueF k) v)) H'
def badSeg (u : Str) : Bool := decide (u = ".") || dots u
theorem seg_parts (u : Str) : isSegF u = (isWordF SSG u && !badSeg u) := by
  unfold isSegF badSeg
  rw [Bool.not_or]
theorem empty_app {α : Type} (l m : List α) : (l ++ m).isEmpty = (l.isEmpty && m.isEmpty) := by
  cases l with
  | nil => rfl
  | cons a r => rfl
theorem filt_empty2 {α : Type} (l : List α) (p : α → Bool) : (l.filter p).isEmpty = l.all fun u => !p u := by
  have e := filt_empty l fun u => !p u
  have e2 : (fun u => !(!p u)) = p := by
    funext u
    rw [Bool.not_not]
  rw [e2] at e
  exact e
theorem all_and {α : Type} (l : List α) (p q : α → Bool) : (l.all fun u => p u && q u) = (l.all p && l.all q) := by
  induction l with
  | nil => rfl
  | cons a r ih =>
    rw [List.all_cons, List.all_cons, List.all_cons, ih]
    cases p a <;> cases q a <;> simp
theorem c_l_due (T : Top K mg) : C8.Cal P w K mg base 2 "_law_due" spDue [] := by
  refine cal_of T.d_l_due sc_l_due (fun _ _ _ _ _ _ us hl => match us, hl with | [_, _], _ => rfl) (fun vs H Q E h => ?_) (fun f cdv A outer s H vs Q E hr h => ?_)
  · obtain ⟨k, v, rfl, _⟩ := h
    rfl
  · obtain ⟨k, v, rfl, hk, t, q⟩ := h
    refine ⟨_, (pss_cons (ps_set (i := 2) sc_l_due.nd rfl (Or.inl rfl) pe_str)
      (pss_cons (ps_set (i := 3) sc_l_due.nd rfl (Or.inl rfl) pe_str)
      (pss_cons (ps_if (pt_not (pt_val (pe_callB call_isi (by rfl) T.z_isinstance (by decide +kernel) (pa_cons (pv 1) (pa_cons (pe_bltn (v := .ty "str") (by rfl) T.z_str (by decide +kernel) rfl) pa_nil)))))
      (pss_one (ps_ret pe_bl))
      pss_nil)
      (pss_cons (ps_if (pt_cmpR op_eq (pv 0) pe_int (nomark _))
      (pss_one (ps_ret (pe_and (pe_cmpR op_eq (pe_callB call_len_str (by rfl) T.z_len (by decide +kernel) (pa_cons (pv 1) pa_nil)) pe_int (nomark _)) (pe_one (C8.pe_c (c_l_only T) hr (by decide) (by rfl) (pa_cons (pv 1) (pa_cons (pe_op op_add_str (pv 3) pe_str) pa_nil)))))))
      pss_nil)
      (pss_cons (ps_if (pt_cmpR op_eq (pv 0) pe_int (nomark _))
      (pss_one (ps_ret (pe_and (pe_chain op_le op_le pe_int (pe_callB call_len_str (by rfl) T.z_len (by decide +kernel) (pa_cons (pv 1) pa_nil)) pe_int) (pe_one (C8.pe_c (c_l_only T) hr (by decide) (by rfl) (pa_cons (pv 1) (pa_cons (pv 2) pa_nil)))))))
      pss_nil)
      (pss_cons (ps_if (pt_cmpR op_eq (pv 0) pe_int (nomark _))
      (pss_one (ps_ret (pe_and (pe_cmpR op_le (pe_callB call_len_str (by rfl) T.z_len (by decide +kernel) (pa_cons (pv 1) pa_nil)) pe_int (nomark _)) (pe_one (pe_cmpR (op_eqD hr.units) (pe_lc (own := [("_law_sign", 4)]) (g := gName 4) (by rfl) sc_l_due.nd (pi_str (pv 1)) (blkOk_by (own := [("_law_sign", 4)]) (N := ["_law_kind", "_law_thing", "_law_small", "_law_figures", "_law_sign", "_law_segments", "_law_signs_here", "_law_bad", "_law_one", "_law_most"]) (sc := C8.fnScope s_l_due) (by decide +kernel)) (fun _ _ _ _ _ => (pg_name (i := 4) sc_l_due.nd rfl (Or.inl rfl))) (fun _ _ _ _ _ => pts_one (PW.pt (pw_and (pt_not (pt_chain op_le_str op_le_str pe_str (pv 4) pe_str)) (pw_and1 (pt_cmpR op_ne (pv 4) pe_str (nomark _)))))) (fun _ _ _ _ _ => (pv 4))) (pe_lst pa_nil) (nomark _))))))
      pss_nil)
      (pss_cons (ps_set (i := 5) sc_l_due.nd rfl (Or.inl rfl) (pe_split (pv 1) pe_str))
      (pss_cons (ps_set (i := 6) sc_l_due.nd rfl (Or.inr rfl) (pe_ix ix_list (pe_lst (pa_cons (pe_op op_add_str (pe_op op_add_str (pv 2) (pv 3)) pe_str) (pa_cons (pe_op op_add_str (pe_op op_add_str (pv 2) (pv 3)) pe_str) pa_nil))) (pe_op op_sub (pv 0) pe_int) (fun _ _ => rfl)))
      (pss_cons (ps_setLc (i := 7) (own := [("_law_one", 8)]) (g := gName 8) (by rfl) sc_l_due.nd rfl rfl (sw_true rfl rfl rfl (by decide +kernel)) (pi_list (pv 5)) (blkOk_by (own := [("_law_one", 8)]) (N := ["_law_kind", "_law_thing", "_law_small", "_law_figures", "_law_sign", "_law_segments", "_law_signs_here", "_law_bad", "_law_one", "_law_most"]) (sc := C8.fnScope s_l_due) (by decide +kernel)) (fun _ _ _ _ _ => (pg_name (i := 8) sc_l_due.nd rfl (Or.inl rfl))) (fun _ _ _ _ _ => pts_one (PW.pt (pw_or (pt_not (pt_chain op_le op_le pe_int (pe_callB call_len_str (by rfl) T.z_len (by decide +kernel) (pa_cons (pv 8) pa_nil)) pe_int)) (pw_or1 (pt_not (pt_val (C8.pe_c (c_l_only T) hr (by decide) (by rfl) (pa_cons (pv 8) (pa_cons (pv 6) pa_nil))))))))) (fun _ _ _ _ _ => (pv 8)))
      (pss_cons (ps_if (pt_cmpR op_eq (pv 0) pe_int (nomark _))
      (pss_one (ps_set (i := 7) sc_l_due.nd rfl (Or.inl rfl) (pe_op op_cat (pv 7) (pe_lc (own := [("_law_one", 8)]) (g := gName 8) (by rfl) sc_l_due.nd (pi_list (pv 5)) (blkOk_by (own := [("_law_one", 8)]) (N := ["_law_kind", "_law_thing", "_law_small", "_law_figures", "_law_sign", "_law_segments", "_law_signs_here", "_law_bad", "_law_one", "_law_most"]) (sc := C8.fnScope s_l_due) (by decide +kernel)) (fun _ _ _ _ _ => (pg_name (i := 8) sc_l_due.nd rfl (Or.inl rfl))) (fun _ _ _ _ _ => pts_one (PW.pt (pw_or (pt_cmpR op_eq (pv 8) pe_str (nomark _)) (pw_or1 (pt_cmpR op_in_str pe_str (pv 8) rfl))))) (fun _ _ _ _ _ => (pv 8))))))
      pss_nil)
      (pss_cons (ps_set (i := 9) sc_l_due.nd rfl (Or.inl rfl) (pe_ix ix_list (pe_lst (pa_cons pe_int (pa_cons pe_int (pa_cons pe_int pa_nil)))) (pe_op op_add (pe_op op_sub (pv 0) pe_int) (pe_callTy call_int1 (by rfl) T.z_int (by decide +kernel) (pa_cons (pe_and (pe_cmpR op_eq (pv 0) pe_int (nomark _)) (pe_one (pe_cmpR op_eq (pe_ix ix_list (pv 5) pe_int (fun _ _ => rfl)) pe_str (nomark _)))) pa_nil))) (fun _ _ => rfl)))
      (pss_one (ps_ret (pe_and (pe_cmpR (op_eqD hr.units) (pv 7) (pe_lst pa_nil) (nomark _)) (pe_one (pe_cmpR op_le (pe_callB call_len_seq (by rfl) T.z_len (by decide +kernel) (pa_cons (pv 5) pa_nil)) (pv 9) (nomark _))))))))))))))))), ?_⟩
    refine ⟨v, rfl, ?_⟩
    dsimp only [tCons, tC, tNil]
    refine t.isi ?_
    refine ⟨_, rfl, ?_⟩
    rcases t.cases with ⟨x, rfl, hx, ho⟩ | hn
    · refine iteF ?_
      obtain rfl | hk12 | rfl | rfl : k = 0 ∨ (k = 1 ∨ k = 2) ∨ k = 3 ∨ k = 4 := by omega
      · refine ⟨.int 0, rfl, rfl, _, rfl, ifT (by decide) ?_⟩
        refine ⟨.str x, rfl, x, rfl, small_line (by omega), rfl, _, rfl, ite2 (fun h1 => ?_) (fun h1 => ?_)⟩
        · have h1 := V.int.inj (of_decide_eq_true h1)
          refine ⟨.str x, rfl, .str _, rfl, _, _, rfl, rfl, by decide +kernel, x, _, rfl, hx, ho, fun H' s => of_ev (q H' s) ?_⟩
          have e : (("0123456789" : Str) ++ ("abcdef" : Str)) = HEX := by decide +kernel
          show isIdF x = _
          unfold isIdF
          rw [decide_eq_true (by omega), Bool.true_and, e]
        · have h1 : ¬ x.length = 16 := fun z => h1 (decide_eq_true (by rw [z]; rfl))
          refine of_ev (q _ (Same.refl _)) ?_
          show isIdF x = _
          unfold isIdF
          rw [decide_eq_false h1, Bool.false_and]
      · have kne : ∀ {A B : Prop} (n : Int), n = 0 ∨ 2 < n → B → (if decide (V.int (k : Nat) = V.int n) = true then A else B) := fun n hn b => ifF (fun z => by
          have := V.int.inj (of_decide_eq_true z)
          omega) b
        refine ⟨.int k, rfl, rfl, _, rfl, kne 0 (.inl rfl) ⟨.int k, rfl, rfl, _, rfl, kne 3 (.inr (by decide)) ⟨.int k, rfl, rfl, _, rfl, kne 4 (.inr (by decide)) ?_⟩⟩⟩
        obtain ⟨hl1, hl2⟩ := segs_len x hx
        have ho2 := segs_ok x ho
        obtain ⟨y0, hy0⟩ : ∃ y0, (segs x)[0]? = some y0 := by
          cases e : segs x with
          | nil => exact absurd e (segs_ne x)
          | cons y r => exact ⟨y, rfl⟩
        refine ⟨.str x, rfl, ⟨x, rfl⟩, x, _, rfl, rfl, rfl, small_line (by omega), fun p hp => ?_⟩
        have s1 := same_new (o := .lst ((segs x).map V.str)) hp
        have hp1 : (upd H p (.lst ((segs x).map V.str))) p = some (.lst ((segs x).map V.str)) := upd_same
        refine ⟨.str _, rfl, .str _, rfl, _, _, rfl, rfl, by decide +kernel, _, _, rfl, rfl, by decide +kernel, .str _, rfl, .str _, rfl, _, _, rfl, rfl, by decide +kernel, _, _, rfl, rfl, by decide +kernel, (by show 2 ≤ sizeLine; decide), fun p2 hp2 => ?_⟩
        obtain ⟨SG, hat, hSG1, hSG2⟩ : ∃ SG, atI [V.str (("abcdefghijklmnopqrstuvwxyz" : Str) ++ ("0123456789" : Str) ++ ("._-" : Str)), V.str (("abcdefghijklmnopqrstuvwxyz" : Str) ++ ("0123456789" : Str) ++ ("-" : Str))] ((k : Int) - 1) = some (.str SG) ∧ (k = 1 → SG = SSG) ∧ (k = 2 → SG = RSG) := by
          rcases hk12 with rfl | rfl
          · exact ⟨_, rfl, fun _ => by decide +kernel, fun z => by omega⟩
          · exact ⟨_, rfl, fun z => by omega, fun _ => by decide +kernel⟩
        refine ⟨.int k, rfl, _, _, rfl, rfl, p2, _, _, .str SG, rfl, rfl, SqL.of upd_same, hat, ?_⟩
        have s2 := same_new (o := .lst [V.str (("abcdefghijklmnopqrstuvwxyz" : Str) ++ ("0123456789" : Str) ++ ("._-" : Str)), V.str (("abcdefghijklmnopqrstuvwxyz" : Str) ++ ("0123456789" : Str) ++ ("-" : Str))]) hp2
        have s12 := Same.trans s1 s2
        have hp3 := s2 _ _ hp1
        refine ⟨.ref p, rfl, p, rfl, ⟨_, .inl (.inl hp3)⟩, fun D hD => ?_⟩
        refine lc_pure (i := 8) (us := segs x) (g := V.str) yields_list V.str (fun u => !isWordF SG u) hD (fun H s => .inl (.inl (s _ _ hp3))) (fun H u _ hu R r => ?_) (fun H u _ hu _ R r => ⟨.str u, rfl, r H (Same.refl H)⟩) (by omega) (fun H2 s3 h2 => ?_)
        · have hlu := hl2 u hu
          refine ⟨.str u, rfl, u, rfl, small_line (by omega), _, _, rfl, rfl, _, rfl, ite2 (fun a1 => ?_) (fun a1 => ?_)⟩
          · have a1 := of_decide_eq_true a1
            refine ⟨_, _, rfl, rfl, _, rfl, ite2 (fun a2 => ?_) (fun a2 => ?_)⟩
            · have a2 : ¬ u.length ≤ 12 := fun z => by
                rw [decide_eq_true (by omega)] at a2
                exact absurd a2 (by decide)
              have e : (!isWordF SG u) = true := by
                unfold isWordF
                rw [decide_eq_false a2, Bool.false_and, Bool.and_false]
                rfl
              rw [e] at r
              exact r H (Same.refl H)
            · have a2 : u.length ≤ 12 := Decidable.byContradiction fun z => a2 (by
                rw [decide_eq_false (by omega)]
                rfl)
              refine ⟨.str u, rfl, .str SG, rfl, u, SG, rfl, hlu, ho2 u hu, fun H3 s3 => ⟨_, rfl, ?_⟩⟩
              have e : isWordF SG u = hasOnly u SG := by
                unfold isWordF
                rw [decide_eq_true (by omega), decide_eq_true a2, Bool.true_and, Bool.true_and]
              rw [e] at r
              exact r H3 s3
          · have a1 : ¬ 1 ≤ u.length := fun z => a1 (decide_eq_true (by omega))
            have e : (!isWordF SG u) = true := by
              unfold isWordF
              rw [decide_eq_false a1, Bool.false_and]
              rfl
            rw [e] at r
            exact ⟨_, rfl, iteT (r H (Same.refl H))⟩
        · have s123 := Same.trans s12 s3
          have hp4 := s3 _ _ hp3
          rcases hk12 with rfl | rfl
          · refine ⟨.int 1, rfl, rfl, _, rfl, ifT (by decide) ?_⟩
            refine ⟨.ref D, rfl, .ref p, rfl, p, rfl, ⟨_, .inl (.inl hp4)⟩, fun D2 hD2 => ?_⟩
            refine lc_pure (i := 8) (us := segs x) (g := V.str) yields_list V.str (badSeg) hD2 (fun H s => .inl (.inl (s _ _ hp4))) (fun H u _ hu R r => ?_) (fun H u _ hu _ R r => ⟨.str u, rfl, r H (Same.refl H)⟩) (by omega) (fun H3 s4 h3 => ?_)
            · refine ⟨.str u, rfl, rfl, _, rfl, ite2 (fun a1 => ?_) (fun a1 => ?_)⟩
              · have a1 : u = "." := V.str.inj (of_decide_eq_true a1)
                have e : badSeg u = true := by
                  unfold badSeg
                  rw [decide_eq_true a1, Bool.true_or]
                rw [e] at r
                exact r H (Same.refl H)
              · have a1 : ¬ u = "." := fun z => a1 (decide_eq_true (by rw [z]))
                have e : badSeg u = dots u := by
                  unfold badSeg
                  rw [decide_eq_false a1, Bool.false_or]
                rw [e] at r
                exact ⟨.str u, rfl, _, u, rfl, rfl, _, rfl, r H (Same.refl H)⟩
            · have hD3 := s4 _ _ h2
              refine ⟨D, D2, _, _, rfl, rfl, hD3, h3, ?_, fun p5 hp5 => ?_⟩
              · have := List.length_filter_le (fun u => !isWordF SG u) (segs x)
                have := List.length_filter_le (badSeg) (segs x)
                rw [List.length_map, List.length_map]
                exact small_line (by omega)
              · have s5 := same_new (o := .lst ((((segs x).filter fun u => !isWordF SG u).map V.str) ++ (((segs x).filter badSeg).map V.str))) hp5
                refine ⟨(by show 3 ≤ sizeLine; decide), fun p6 hp6 => ?_⟩
                have s6 := same_new (o := .lst [V.int 6, .int 5, .int 7]) hp6
                refine ⟨.int 1, rfl, _, _, rfl, rfl, .int 1, rfl, rfl, _, rfl, ifF (by decide) (.inr ⟨_, rfl, _, _, rfl, rfl, p6, _, _, .int 6, rfl, rfl, SqL.of upd_same, rfl, ?_⟩)⟩
                refine ⟨.ref p5, rfl, Nat.zero_le _, fun p7 hp7 => ?_⟩
                have s7 := same_new (o := .lst ([] : List V)) hp7
                refine ask_nil (ys := ((segs x).filter fun u => !isWordF SG u) ++ ((segs x).filter badSeg)) (fun y hy => ?_) ?_ upd_same ?_
                · rcases List.mem_append.mp hy with hy | hy
                  · exact ho2 y (List.mem_filter.mp hy).1
                  · exact ho2 y (List.mem_filter.mp hy).1
                · rw [List.map_append]
                  exact s7 _ _ (s6 _ _ upd_same)
                · have sall := ((((s123.trans s4).trans s5).trans s6).trans s7)
                  have e : (((segs x).filter fun u => !isWordF SG u) ++ ((segs x).filter badSeg)).isEmpty = (segs x).all isSegF := by
                    rw [empty_app, filt_empty, filt_empty2, ← all_and, hSG1 rfl]
                    congr 1
                    funext u
                    rw [seg_parts]
                  rw [e]
                  refine ⟨_, rfl, ite2 (fun a1 => ?_) (fun a1 => ?_)⟩
                  · refine ⟨.ref p, rfl, p, (segs x).map V.str, rfl, .inl (SqL.of (s7 _ _ (s6 _ _ (s5 _ _ (s4 _ _ hp4))))), .int 6, rfl, _, _, rfl, rfl, of_ev (q _ sall) ?_⟩
                    show isPathF x = _
                    unfold isPathF
                    rw [a1, Bool.and_true, List.length_map]
                    by_cases h6 : (segs x).length ≤ 6
                    · rw [decide_eq_true h6, decide_eq_true (by omega)]
                    · rw [decide_eq_false h6, decide_eq_false (by omega)]
                  · refine of_ev (q _ sall) ?_
                    show isPathF x = _
                    unfold isPathF
                    rw [Bool.eq_false_iff.mpr a1, Bool.and_false]
          · refine ⟨.int 2, rfl, rfl, _, rfl, ifF (by decide) ?_⟩
            refine ⟨(by show 3 ≤ sizeLine; decide), fun p6 hp6 => ?_⟩
            have s6 := same_new (o := .lst [V.int 6, .int 5, .int 7]) hp6
            have hp5 := s6 _ _ hp4
            have hD5 := s6 _ _ h2
            refine ⟨.int 2, rfl, _, _, rfl, rfl, .int 2, rfl, rfl, _, rfl, ifT (by decide) ⟨.ref p, rfl, p, _, 0, .str y0, rfl, rfl, .inl (.inl hp5), atI_nat (j := 0) (by rw [List.getElem?_map, hy0]; rfl), rfl, .inr ⟨_, rfl, _, _, rfl, rfl, p6, _, _, .int (mostF x), rfl, rfl, SqL.of upd_same, ?_, ?_⟩⟩⟩
            · unfold mostF
              rw [hy0]
              by_cases hf : y0 = ("far" : Str)
              · rw [hf]
                rfl
              · rw [if_neg (fun z => hf (Option.some.inj z)), decide_eq_false (fun z => hf (V.str.inj z))]
                rfl
            · refine ⟨.ref D, rfl, Nat.zero_le _, fun p7 hp7 => ?_⟩
              have s7 := same_new (o := .lst ([] : List V)) hp7
              refine ask_nil (ys := ((segs x).filter fun u => !isWordF SG u)) (fun y hy => ho2 y (List.mem_filter.mp hy).1) (s7 _ _ hD5) upd_same ?_
              have sall := ((s123.trans s6).trans s7)
              rw [filt_empty, hSG2 rfl]
              refine ⟨_, rfl, ite2 (fun a1 => ?_) (fun a1 => ?_)⟩
              · refine ⟨.ref p, rfl, p, (segs x).map V.str, rfl, .inl (SqL.of (s7 _ _ hp5)), .int (mostF x), rfl, _, _, rfl, rfl, of_ev (q _ sall) ?_⟩
                show isRefF x = _
                unfold isRefF
                rw [a1, Bool.and_true, List.length_map]
                by_cases h6 : (segs x).length ≤ mostF x
                · rw [decide_eq_true h6, decide_eq_true (by omega)]
                · rw [decide_eq_false h6, decide_eq_false (by omega)]
              · refine of_ev (q _ sall) ?_
                show isRefF x = _
                unfold isRefF
                rw [Bool.eq_false_iff.mpr a1, Bool.and_false]
      · refine ⟨.int 3, rfl, rfl, _, rfl, ifF (by decide) ⟨.int 3, rfl, rfl, _, rfl, ifT (by decide) ?_⟩⟩
        refine ⟨.str x, rfl, x, rfl, small_line (by omega), _, _, rfl, rfl, _, rfl, ite2 (fun h1 => ?_) (fun h1 => ?_)⟩
        · have h1 := of_decide_eq_true h1
          refine ⟨_, _, rfl, rfl, _, rfl, ite2 (fun h2 => ?_) (fun h2 => ?_)⟩
          · have h2 := of_decide_eq_true h2
            refine ⟨.str x, rfl, .str _, rfl, x, _, rfl, hx, ho, fun H' s => of_ev (q H' s) ?_⟩
            show isWordF LET x = _
            unfold isWordF
            rw [decide_eq_true (by omega), decide_eq_true (by omega)]
            rfl
          · have h2 : ¬ x.length ≤ 12 := fun z => h2 (decide_eq_true (by omega))
            refine of_ev (q _ (Same.refl _)) ?_
            show isWordF LET x = _
            unfold isWordF
            rw [decide_eq_false h2, Bool.false_and, Bool.and_false]
        · have h1 : ¬ 1 ≤ x.length := fun z => h1 (decide_eq_true (by omega))
          refine ⟨_, rfl, iteF (of_ev (q _ (Same.refl _)) ?_)⟩
          show isWordF LET x = _
          unfold isWordF
          rw [decide_eq_false h1, Bool.false_and]
      · refine ⟨.int 4, rfl, rfl, _, rfl, ifF (by decide) ⟨.int 4, rfl, rfl, _, rfl, ifF (by decide) ⟨.int 4, rfl, rfl, _, rfl, ifT (by decide) ?_⟩⟩⟩
        refine ⟨.str x, rfl, x, rfl, small_line (by omega), _, _, rfl, rfl, _, rfl, ite2 (fun h1 => ?_) (fun h1 => ?_)⟩
        · have h1 := of_decide_eq_true h1
          refine ⟨.str x, rfl, x, rfl, fun D hD => ?_⟩
          refine lc_pure (i := 4) (us := TL.tl x) (g := sgn) (yields_str x) sgn (fun c => !(decide (c = 10) || plainC c)) hD (fun _ _ => trivial) (fun H c _ hc R r => ?_)
            (fun H c _ hc _ R r => ⟨sgn c, rfl, r H (Same.refl H)⟩) (by rw [← TL.len_tl]; omega) (fun H2 s2 h2 => ?_)
          · have r := r H (Same.refl H)
            have last : ∀ b, plainC c = b → b = false → (!(decide (c = 10) || plainC c)) = !decide (V.str ⟨#[c]⟩ = V.str "\n") := fun b e1 e2 => by
              rw [e1, e2, Bool.or_false]
              by_cases hc : c = 10
              · rw [decide_eq_true hc, decide_eq_true (by rw [hc]; decide +kernel)]
              · rw [decide_eq_false hc, decide_eq_false (fun z => hc (by
                  have h4 : TL.tl ⟨#[c]⟩ = TL.tl "\n" := by rw [V.str.inj z]
                  have h5 : TL.tl "\n" = [10] := by decide +kernel
                  rw [h5] at h4
                  exact (List.cons.inj h4).1))]
            refine ⟨sgn c, rfl, _, _, rfl, rfl, _, rfl, ite2 (fun h3 => ?_) (fun h3 => ?_)⟩
            · have h3 : (!decide ([c] < [32])) = true := h3
              refine ⟨_, _, rfl, rfl, _, rfl, ?_⟩
              have e : plainC c = !decide ([126] < [c]) := by
                unfold plainC
                rw [h3, Bool.true_and]
              refine ite2 (fun h4 => ?_) (fun h4 => ?_)
              · have h4 : (!(!decide ([126] < [c]))) = true := h4
                have e2 : (!decide ([126] < [c])) = false := by
                  revert h4
                  cases decide ([126] < [c]) <;> simp
                refine ⟨sgn c, rfl, rfl, _, rfl, ?_⟩
                rw [last _ e e2] at r
                exact r
              · have h4 : ¬ (!(!decide ([126] < [c]))) = true := h4
                have e2 : plainC c = true := by
                  rw [e]
                  revert h4
                  cases decide ([126] < [c]) <;> simp
                rw [e2, Bool.or_true] at r
                exact r
            · have h3 : ¬ (!decide ([c] < [32])) = true := h3
              have e : plainC c = false := by
                unfold plainC
                rw [Bool.eq_false_iff.mpr h3, Bool.false_and]
              refine ⟨_, rfl, iteT ⟨sgn c, rfl, rfl, _, rfl, ?_⟩⟩
              rw [last _ e rfl] at r
              exact r
          · refine ⟨Nat.zero_le _, fun p hp => ?_⟩
            refine ask_nil (ys := ((TL.tl x).filter fun c => !(decide (c = 10) || plainC c)).map fun c => (⟨#[c]⟩ : Str)) (ok_sgns ho _) ?_ upd_same ?_
            · rw [upd_ne (ne_of_none h2 hp), h2, map_sgn]
            · refine of_ev (q _ (s2.trans (same_new hp))) ?_
              show isTextF x = _
              unfold isTextF
              rw [List.isEmpty_map, filt_empty, decide_eq_true (by omega), Bool.true_and]
        · have h1 : ¬ x.length ≤ 2000 := fun z => h1 (decide_eq_true (by omega))
          refine of_ev (q _ (Same.refl _)) ?_
          show isTextF x = _
          unfold isTextF
          rw [decide_eq_false h1, Bool.false_and]
    · rw [hn]
      exact iteT (of_ev0 hn (q _ (Same.refl _)))
end

section
variable {P : Program} {w : World} {K : PySem.W.Frag} {mg : Str → Option Value} {base : Heap}
def spGood : Sp := fun vs H Q _ => ∃ (a : Addr) (k : Nat) (c : Int), vs = [.ref a, .int k] ∧ Wl H a c ∧ k < 5 ∧ c < 2 ^ 36 ∧ ∀ x : Str, (k ≠ 2 → dueF k x = true) → x.length ≤ 2000 → OkS x → Aft a c 300 H (Q (.str x))
theorem c_l_good (T : Top K mg) : C8.Cal P w K mg base 5 "_law_good" (spGood) [] := by
  refine cal_of T.d_l_good sc_l_good (fun _ _ _ _ _ _ us hl => match us, hl with | [_, _], _ => rfl) (fun vs H Q E h => ?_) (fun f cdv A outer s H vs Q E hr h => ?_)
  · obtain ⟨a, k, c, rfl, _⟩ := h
    rfl
  · obtain ⟨a, k, c, rfl, hw, hk, hc, q⟩ := h
    have hc0 := hw.1
    refine ⟨_, (pss_cons (ps_if (pt_cmpR op_eq (pv 1) pe_int (nomark _))
      (pss_one (ps_ret (C8.pe_c (c_l_id T) hr (by decide) (by rfl) (pa_cons (pv 0) pa_nil))))
      pss_nil)
      (pss_cons (ps_if (pt_cmpR op_eq (pv 1) pe_int (nomark _))
      (pss_one (ps_ret (C8.pe_c (c_l_path T) hr (by decide) (by rfl) (pa_cons (pv 0) pa_nil))))
      pss_nil)
      (pss_cons (ps_if (pt_cmpR op_eq (pv 1) pe_int (nomark _))
      (pss_cons (ps_set (i := 2) sc_l_good.nd rfl (Or.inr rfl) pe_str)
      (pss_cons (ps_set (i := 3) sc_l_good.nd rfl (Or.inl rfl) (pe_op op_add pe_int (C8.pe_c (c_l_draw T) hr (by decide) (by rfl) (pa_cons (pv 0) (pa_cons (C8.pe_c (c_l_pick T) hr (by decide) (by rfl) (pa_cons (pv 0) (pa_cons (pe_lst (pa_cons pe_int (pa_cons pe_int pa_nil))) pa_nil))) pa_nil)))))
      (pss_cons (ps_set (i := 4) sc_l_good.nd rfl (Or.inl rfl) (pe_join pe_str (pe_lc (own := [("_law_k", 5)]) (g := gName 5) (by rfl) sc_l_good.nd (pi_range1 (by rfl) T.z_range (pa_cons (pv 3) pa_nil)) (blkOk_by (own := [("_law_k", 5)]) (N := ["_law_well_here", "_law_kind", "_law_signs_here", "_law_many", "_law_text_here", "_law_k"]) (sc := C8.fnScope s_l_good) (by decide +kernel)) (fun _ _ _ _ _ => (pg_name (i := 5) sc_l_good.nd rfl (Or.inl rfl))) (fun _ _ _ _ _ => pts_nil) (fun _ _ _ _ _ => (C8.pe_c (c_l_signs T) hr (by decide) (by rfl) (pa_cons (pv 0) (pa_cons (pv 2) (pa_cons pe_int (pa_cons (C8.pe_c (c_l_pick T) hr (by decide) (by rfl) (pa_cons (pv 0) (pa_cons (pe_lst (pa_cons pe_int (pa_cons pe_int pa_nil))) pa_nil))) pa_nil)))))))))
      (pss_one (ps_ret (pe_op op_add_str (pe_ix ix_list (pe_lst (pa_cons pe_str (pa_cons pe_str (pa_cons pe_str (pa_cons pe_str pa_nil))))) (C8.pe_c (c_l_draw T) hr (by decide) (by rfl) (pa_cons (pv 0) (pa_cons pe_int pa_nil))) (fun _ _ => rfl)) (pv 4)))))))
      pss_nil)
      (pss_cons (ps_if (pt_cmpR op_eq (pv 1) pe_int (nomark _))
      (pss_one (ps_ret (C8.pe_c (c_l_signs T) hr (by decide) (by rfl) (pa_cons (pv 0) (pa_cons pe_str (pa_cons pe_int (pa_cons (C8.pe_c (c_l_pick T) hr (by decide) (by rfl) (pa_cons (pv 0) (pa_cons (pe_lst (pa_cons pe_int (pa_cons pe_int pa_nil))) pa_nil))) pa_nil)))))))
      pss_nil)
      (pss_one (ps_ret (C8.pe_c (c_l_text T) hr (by decide) (by rfl) (pa_cons (pv 0) pa_nil)))))))), ?_⟩
    obtain rfl | rfl | rfl | rfl | rfl : k = 0 ∨ k = 1 ∨ k = 2 ∨ k = 3 ∨ k = 4 := by omega
    · refine ⟨.int 0, rfl, rfl, _, rfl, ifT (by decide) ?_⟩
      exact ⟨.ref a, rfl, a, c, rfl, hw, by omega, fun x hx hl => (q x (fun _ => id_of hx hl) (by omega) (ok_sub hx ok_hex)).more (Fr.refl a H) (Int.le_refl _) (by omega)⟩
    · refine ⟨.int 1, rfl, rfl, _, rfl, ifF (by decide) ⟨.int 1, rfl, rfl, _, rfl, ifT (by decide) ?_⟩⟩
      exact ⟨.ref a, rfl, a, c, rfl, hw, by omega, fun x hx hl ho => (q x (fun _ => hx) (by omega) ho).more (Fr.refl a H) (Int.le_refl _) (by omega)⟩
    · refine ⟨.int 2, rfl, rfl, _, rfl, ifF (by decide) ⟨.int 2, rfl, rfl, _, rfl, ifF (by decide) ⟨.int 2, rfl, rfl, _, rfl, ifT (by decide) ?_⟩⟩⟩
      refine ⟨.ref a, rfl, .ref a, rfl, (by show 2 ≤ sizeLine; decide), fun p hp => ⟨a, p, _, c, rfl, hw.new hp, SqL.of upd_same, hw.ne hp, (by show 0 < 2; decide), (by show 2 < 1000000; decide), by omega, fun v hv H1 c1 f1 w1 h1 h2 => ?_⟩⟩
      obtain ⟨m, rfl, hm⟩ : ∃ m : Int, v = .int m ∧ 1 ≤ m ∧ m ≤ 5 := by
        obtain ⟨m, hm, rfl⟩ := menu (xs := [1, 5]) hv
        simp only [List.mem_cons, List.not_mem_nil, or_false] at hm
        exact ⟨m, rfl, by omega, by omega⟩
      refine ⟨a, m, c1, rfl, w1, by omega, by omega, by omega, fun r x y c2 hr0 hr1 h3 h4 => ?_⟩
      have w2 := Wl.upd (H := H1) (a := a) (x := x) (y := y) (c := c2) (by omega)
      have f2 : Fr a H1 (upd H1 a (.lst [.int x, .int y, .int c2])) := Fr.at
      generalize upd H1 a (.lst [.int x, .int y, .int c2]) = H2 at w2 f2 ⊢
      have fr2 : Fr a H H2 := (Fr.new hp).trans (f1.trans f2)
      refine ⟨_, _, rfl, rfl, ⟨_, rfl⟩, _, rfl, _, rfl, by omega, by omega, fun D hD => ?_⟩
      have nD := w2.ne hD
      have en : ((1 : Int) + r).toNat ≤ 5 := by omega
      refine lc_inv (i := 5) yields_range (fun k acc H' => Fr a H2 H' ∧ ∃ c', Wl H' a c' ∧ c2 ≤ c' ∧ c' ≤ c2 + 20 * k ∧ ∃ cs : List Str, acc = cs.map V.str ∧ (∀ u ∈ cs, OkS u ∧ u.length ≤ 12) ∧ cs.length = k) (fun _ _ _ _ _ => trivial) ?_ (fun k acc H' x I hA hx ha hk => ?_) ?_ (fun acc H' I hA _ => ?_)
      · exact ⟨Fr.new hD, c2, w2.new hD, Int.le_refl _, by omega, [], rfl, (fun u hu => (List.not_mem_nil hu).elim), rfl⟩
      · obtain ⟨fr, c', hw', hc3, hc4, cs, rfl, hcs, hl⟩ := I
        have hkm : k < 5 := by
          have := (List.getElem?_eq_some_iff.mp hx).1
          rw [List.length_map, List.length_range] at this
          omega
        refine yes_ ?_
        refine ⟨.ref a, rfl, .str RSG, rfl, .ref a, rfl, (by show 2 ≤ sizeLine; decide), fun p5 hp5 => ⟨a, p5, _, c', rfl, hw'.new hp5, SqL.of upd_same, hw'.ne hp5, (by show 0 < 2; decide), (by show 2 < 1000000; decide), by omega, fun v hv H4 c4 f4 w4 h5 h6 => ?_⟩⟩
        obtain ⟨m5, rfl, hm5⟩ : ∃ m : Nat, v = .int m ∧ 1 ≤ m ∧ m ≤ 12 := by
          obtain ⟨m, hm, rfl⟩ := menu (xs := [2, 12]) hv
          simp only [List.mem_cons, List.not_mem_nil, or_false] at hm
          exact ⟨m.toNat, by congr 1; omega, by omega, by omega⟩
        have f5 : Fr a H' H4 := (Fr.new hp5).trans f4
        refine ⟨a, RSG, 1, m5, c4, rfl, w4, (by decide +kernel), (by decide +kernel), by omega, by omega, by omega, fun u hu h7 h8 H6 c6 f6 w6 h9 h10 => ?_⟩
        refine lc_take (f6 _ _ nD (f5 _ _ nD hA)) ha hk ⟨(fr.trans (f5.trans f6)).mut hD, c6, w6.mut nD, by omega, by omega, cs ++ [u], by rw [List.map_append]; rfl, fun w hw => ?_, by rw [List.length_append, hl]; rfl⟩
        rcases List.mem_append.mp hw with hw | hw
        · exact hcs w hw
        · rw [List.mem_singleton.mp hw]
          exact ⟨ok_sub hu ok_rsg, by omega⟩
      · rw [List.length_map, List.length_range]
        omega
      · obtain ⟨fr, c', hw', hc3, hc4, cs, rfl, hcs, hl⟩ := I
        rw [List.length_map, List.length_range] at hl hc4
        have sl : ∀ p ∈ cs, p.length ≤ 12 := fun p hp => (hcs p hp).2
        have jl := join_len "/" cs sl
        have e1 : ("/" : Str).length = 1 := by decide +kernel
        refine ⟨_, D, cs, rfl, rfl, .inl (SqL.of hA), ?_, ?_⟩
        · have := sum_len cs sl
          show (cs.map (·.length)).sum + cs.length * ("/" : Str).length ≤ _
          rw [e1]
          omega
        · refine ⟨(by show 4 ≤ sizeLine; decide), fun p7 hp7 => ⟨.ref a, rfl, a, 4, c', rfl, hw'.new hp7, by decide, by decide, by omega, fun r7 x7 y7 c7 hr7 hr8 h11 h12 => ?_⟩⟩
          have w7 := Wl.upd (H := upd H' p7 (.lst [V.str "", V.str "far/", V.str "farm/", V.str ""])) (a := a) (x := x7) (y := y7) (c := c7) (by omega)
          have f7 : Fr a H' (upd (upd H' p7 (.lst [V.str "", V.str "far/", V.str "farm/", V.str ""])) a (.lst [.int x7, .int y7, .int c7])) := (Fr.new hp7).trans Fr.at
          obtain ⟨v, hv, _, e⟩ := atI_int (xs := [V.str "", V.str "far/", V.str "farm/", V.str ""]) hr7 hr8
          obtain ⟨z, rfl, hz, hzl⟩ : ∃ z : Str, v = .str z ∧ OkS z ∧ z.length ≤ 5 := by
            simp only [List.mem_cons, List.not_mem_nil, or_false] at hv
            rcases hv with rfl | rfl | rfl | rfl
            · exact ⟨_, rfl, ok_by (by decide +kernel), by decide +kernel⟩
            · exact ⟨_, rfl, ok_by (by decide +kernel), by decide +kernel⟩
            · exact ⟨_, rfl, ok_by (by decide +kernel), by decide +kernel⟩
            · exact ⟨_, rfl, ok_by (by decide +kernel), by decide +kernel⟩
          refine ⟨p7, _, _, .str z, rfl, rfl, SqL.of (Eq.trans (upd_ne (hw'.ne hp7)) upd_same), e, .str _, rfl, _, _, rfl, rfl, ?_, ?_⟩
          · rw [e1] at jl
            exact small_line (by omega)
          · refine q _ (fun h => absurd rfl h) ?_ (ok_app hz (ok_join ok_slash fun p hp => (hcs p hp).1)) _ c7 (fr2.trans (fr.trans f7)) w7 (by omega) (by omega)
            rw [Str.length_append]
            rw [e1] at jl
            omega
    · refine ⟨.int 3, rfl, rfl, _, rfl, ifF (by decide) ⟨.int 3, rfl, rfl, _, rfl, ifF (by decide) ⟨.int 3, rfl, rfl, _, rfl, ifF (by decide) ⟨.int 3, rfl, rfl, _, rfl, ifT (by decide) ?_⟩⟩⟩⟩
      refine ⟨.ref a, rfl, .ref a, rfl, (by show 2 ≤ sizeLine; decide), fun p hp => ⟨a, p, _, c, rfl, hw.new hp, SqL.of upd_same, hw.ne hp, (by show 0 < 2; decide), (by show 2 < 1000000; decide), by omega, fun v hv H1 c1 f1 w1 h1 h2 => ?_⟩⟩
      obtain ⟨m, rfl, hm⟩ : ∃ m : Nat, v = .int m ∧ 1 ≤ m ∧ m ≤ 12 := by
        obtain ⟨m, hm, rfl⟩ := menu (xs := [3, 12]) hv
        simp only [List.mem_cons, List.not_mem_nil, or_false] at hm
        exact ⟨m.toNat, by congr 1; omega, by omega, by omega⟩
      have f2 : Fr a H H1 := (Fr.new hp).trans f1
      exact ⟨a, LET, 1, m, c1, rfl, w1, (by decide +kernel), (by decide +kernel), by omega, by omega, by omega, fun u hu h7 h8 => (q u (fun _ => word_of hu h7 (by omega)) (by omega) (ok_sub hu ok_let)).more f2 h1 (by omega)⟩
    · refine ⟨.int 4, rfl, rfl, _, rfl, ifF (by decide) ⟨.int 4, rfl, rfl, _, rfl, ifF (by decide) ⟨.int 4, rfl, rfl, _, rfl, ifF (by decide) ⟨.int 4, rfl, rfl, _, rfl, ifF (by decide) ?_⟩⟩⟩⟩
      exact ⟨.ref a, rfl, a, c, rfl, hw, by omega, fun x hx hl => (q x (fun _ => hx) hl (ok_text hx)).more (Fr.refl a H) (Int.le_refl _) (by omega)⟩
def spBent : Sp := fun vs H Q _ => ∃ (a : Addr) (x : Str) (c : Int), vs = [.ref a, .str x] ∧ Wl H a c ∧ x.length ≤ 2000 ∧ OkS x ∧ c < 2 ^ 36 ∧
  ∀ v H' c', v ≠ .ref a → Thing H' v → Fr a H H' → Wl H' a c' → c ≤ c' → c' ≤ c + 10 → Q v H'
def ODD : List Str := ["/", "//", ".", "..", "_", "-", "A", "g", " ", "\n", "~", "0", "a/b", "far/", repS "x" 13]
theorem odd_ok : ∀ z ∈ ODD, z.length ≤ 13 ∧ (TL.tl z).all (fun u => decide (u < 1114112)) = true := by decide +kernel
theorem c_l_bent (T : Top K mg) : C8.Cal P w K mg base 3 "_law_bent" (spBent) [] := by
  refine cal_of T.d_l_bent sc_l_bent (fun _ _ _ _ _ _ us hl => match us, hl with | [_, _], _ => rfl) (fun vs H Q E h => ?_) (fun f cdv A outer s H vs Q E hr h => ?_)
  · obtain ⟨a, x, c, rfl, _⟩ := h
    rfl
  · obtain ⟨a, x, c, rfl, hw, hx, ho, hc, q⟩ := h
    have hc0 := hw.1
    refine ⟨_, (pss_cons (ps_set (i := 2) sc_l_bent.nd rfl (Or.inl rfl) (C8.pe_c (c_l_draw T) hr (by decide) (by rfl) (pa_cons (pv 0) (pa_cons (pe_op op_add (pe_callB call_len_str (by rfl) T.z_len (by decide +kernel) (pa_cons (pv 1) pa_nil)) pe_int) pa_nil))))
      (pss_cons (ps_set (i := 3) sc_l_bent.nd rfl (Or.inl rfl) (pe_lst (pa_cons pe_str (pa_cons pe_str (pa_cons pe_str (pa_cons pe_str (pa_cons pe_str (pa_cons pe_str (pa_cons pe_str (pa_cons pe_str (pa_cons pe_str (pa_cons pe_str (pa_cons pe_str (pa_cons pe_str (pa_cons pe_str (pa_cons pe_str (pa_cons (pe_op op_mul_si pe_str pe_int) pa_nil)))))))))))))))))
      (pss_cons (ps_set (i := 4) sc_l_bent.nd rfl (Or.inl rfl) (C8.pe_c (c_l_pick T) hr (by decide) (by rfl) (pa_cons (pv 0) (pa_cons (pv 3) pa_nil))))
      (pss_cons (ps_set (i := 5) sc_l_bent.nd rfl (Or.inl rfl) (C8.pe_c (c_l_draw T) hr (by decide) (by rfl) (pa_cons (pv 0) (pa_cons pe_int pa_nil))))
      (pss_cons (ps_if (pt_cmpR op_eq (pv 5) pe_int (nomark _))
      (pss_one (ps_ret (pe_op op_add_str (pe_slice sl_str (pv 1) po_none (po_some (pv 2))) (pe_slice sl_str (pv 1) (po_some (pe_op op_add (pv 2) pe_int)) po_none))))
      pss_nil)
      (pss_cons (ps_if (pt_cmpR op_lt (pv 5) pe_int (nomark _))
      (pss_one (ps_ret (pe_op op_add_str (pe_op op_add_str (pe_slice sl_str (pv 1) po_none (po_some (pv 2))) (pv 4)) (pe_slice sl_str (pv 1) (po_some (pv 2)) po_none))))
      pss_nil)
      (pss_cons (ps_if (pt_cmpR op_lt (pv 5) pe_int (nomark _))
      (pss_one (ps_ret (pe_op op_add_str (pe_op op_add_str (pe_slice sl_str (pv 1) po_none (po_some (pv 2))) (pv 4)) (pe_slice sl_str (pv 1) (po_some (pe_op op_add (pv 2) pe_int)) po_none))))
      pss_nil)
      (pss_cons (ps_if (pt_cmpR op_eq (pv 5) pe_int (nomark _))
      (pss_one (ps_ret (pe_op op_add_str (pv 1) (pe_op op_mul_si pe_str (C8.pe_c (c_l_draw T) hr (by decide) (by rfl) (pa_cons (pv 0) (pa_cons pe_int pa_nil)))))))
      pss_nil)
      (pss_cons (ps_if (pt_cmpR op_eq (pv 5) pe_int (nomark _))
      (pss_one (ps_ret (C8.pe_c (c_l_pick T) hr (by decide) (by rfl) (pa_cons (pv 0) (pa_cons (pe_lst (pa_cons (pe_op op_add_str (pv 1) (pv 1)) (pa_cons pe_str (pa_cons pe_str (pa_cons pe_str (pa_cons (pe_op op_add_str (pv 1) (pe_op op_mul_si pe_str pe_int)) (pa_cons (pe_op op_mul_si pe_str pe_int) (pa_cons (pe_op op_mul_si pe_str pe_int) pa_nil)))))))) pa_nil)))))
      pss_nil)
      (pss_one (ps_ret (C8.pe_c (c_l_pick T) hr (by decide) (by rfl) (pa_cons (pv 0) (pa_cons (pe_lst (pa_cons pe_non (pa_cons pe_bl (pa_cons pe_int (pa_cons (pe_lst (pa_cons (pv 1) pa_nil)) (pa_cons (pe_tup (pa_cons (pv 1) pa_nil)) (pa_cons (pe_disp (pps_cons (pv 1) pe_int pps_nil) (by rfl) (by rfl) (fun z => by cases z) (by decide)) (pa_cons (pe_lst pa_nil) (pa_cons pe_dnewK pa_nil))))))))) pa_nil)))))))))))))), ?_⟩
    refine ⟨.ref a, rfl, .str x, rfl, x, rfl, small_line (by omega), _, _, rfl, rfl, a, _, c, rfl, hw, by omega, by omega, by omega, fun r0 x0 y0 c1 hr0 hr1 h1 h2 => ?_⟩
    have w1 := Wl.upd (H := H) (a := a) (x := x0) (y := y0) (c := c1) (by omega)
    have f1 : Fr a H (upd H a (.lst [.int x0, .int y0, .int c1])) := Fr.at
    generalize upd H a (.lst [.int x0, .int y0, .int c1]) = H1 at w1 f1 ⊢
    obtain ⟨n, rfl⟩ : ∃ n : Nat, r0 = n := ⟨r0.toNat, by omega⟩
    refine ⟨_, _, rfl, rfl, by decide, by decide, by decide +kernel, (by show 15 ≤ sizeLine; decide), fun p hp => ?_⟩
    refine ⟨.ref a, rfl, .ref p, rfl, a, p, ODD.map V.str, c1, rfl, w1.new hp, SqL.of upd_same, w1.ne hp, (by decide), (by decide), by omega, fun v hv H2 c2 f2 w2 h3 h4 => ?_⟩
    obtain ⟨z, hz, rfl⟩ := List.mem_map.mp hv
    obtain ⟨hz1, hz2⟩ := odd_ok z hz
    have hz2 := ok_by hz2
    refine ⟨.ref a, rfl, a, 8, c2, rfl, w2, by decide, by decide, by omega, fun way x3 y3 c3 hr2 hr3 h5 h6 => ?_⟩
    have w3 := Wl.upd (H := H2) (a := a) (x := x3) (y := y3) (c := c3) (by omega)
    have f3 : Fr a H2 (upd H2 a (.lst [.int x3, .int y3, .int c3])) := Fr.at
    generalize upd H2 a (.lst [.int x3, .int y3, .int c3]) = H3 at w3 f3 ⊢
    have fr : Fr a H H3 := f1.trans ((Fr.new hp).trans (f2.trans f3))
    have fin : ∀ y : Str, y.length ≤ 10000 → OkS y → Q (.str y) H3 := fun y hy hok => q _ H3 c3 (fun e => nomatch e) (.str y (by omega) hok) fr w3 (by omega) (by omega)
    have a1 := cutS_le x none (some (n : Int))
    have a2 := cutS_le x (some (n : Int)) none
    have a3 := cutS_le x (some ((n : Int) + 1)) none
    refine ⟨.int way, rfl, rfl, _, rfl, ite2 (fun b1 => ?_) (fun b1 => ?_)⟩
    · refine ⟨.str x, rfl, .int n, rfl, n, rfl, x, rfl, small_line (by omega), .str x, rfl, .int n, rfl, _, _, rfl, rfl, (n : Int) + 1, rfl, x, rfl, small_line (by omega), _, _, rfl, rfl, small_line (by omega), fin _ ?_ (ok_app (ok_cut ho _ _) (ok_cut ho _ _))⟩
      rw [Str.length_append]
      omega
    refine ⟨.int way, rfl, _, _, rfl, rfl, _, rfl, ite2 (fun b2 => ?_) (fun b2 => ?_)⟩
    · refine ⟨.str x, rfl, .int n, rfl, n, rfl, x, rfl, small_line (by omega), .str z, rfl, _, _, rfl, rfl, small_line (by omega), .str x, rfl, .int n, rfl, n, rfl, x, rfl, small_line (by omega), _, _, rfl, rfl, ?_, fin _ ?_ (ok_app (ok_app (ok_cut ho _ _) hz2) (ok_cut ho _ _))⟩
      · rw [Str.length_append]
        exact small_line (by omega)
      · rw [Str.length_append, Str.length_append]
        omega
    refine ⟨.int way, rfl, _, _, rfl, rfl, _, rfl, ite2 (fun b3 => ?_) (fun b3 => ?_)⟩
    · refine ⟨.str x, rfl, .int n, rfl, n, rfl, x, rfl, small_line (by omega), .str z, rfl, _, _, rfl, rfl, small_line (by omega), .str x, rfl, .int n, rfl, _, _, rfl, rfl, (n : Int) + 1, rfl, x, rfl, small_line (by omega), _, _, rfl, rfl, ?_, fin _ ?_ (ok_app (ok_app (ok_cut ho _ _) hz2) (ok_cut ho _ _))⟩
      · rw [Str.length_append]
        exact small_line (by omega)
      · rw [Str.length_append, Str.length_append]
        omega
    refine ⟨.int way, rfl, rfl, _, rfl, ite2 (fun b4 => ?_) (fun b4 => ?_)⟩
    · refine ⟨.str x, rfl, .ref a, rfl, a, 7, c3, rfl, w3, by decide, by decide, by omega, fun r4 x4 y4 c4 hr4 hr5 h7 h8 => ?_⟩
      have w4 := Wl.upd (H := H3) (a := a) (x := x4) (y := y4) (c := c4) (by omega)
      have f4 : Fr a H3 (upd H3 a (.lst [.int x4, .int y4, .int c4])) := Fr.at
      have e1 : ("/a" : Str).length = 2 := by decide +kernel
      have e2 : (repS ("/a" : Str) r4.toNat).length ≤ 14 := by
        rw [rep_len, e1]
        omega
      refine ⟨_, r4, rfl, rfl, hr4, by omega, ?_, _, _, rfl, rfl, small_line (by omega), q _ _ c4 (fun e => nomatch e) (.str _ ?_ (ok_app ho (ok_rep (ok_by (by decide +kernel)) _))) (fr.trans f4) w4 (by omega) (by omega)⟩
      · rw [e1]
        omega
      · rw [Str.length_append]
        omega
    refine ⟨.int way, rfl, rfl, _, rfl, ite2 (fun b5 => ?_) (fun b5 => ?_)⟩
    · have e3 : (repS ("a" : Str) (Int.toNat 2000)).length = 2000 := by
        rw [rep_len]
        decide +kernel
      have oa : OkS "a" := ok_by (by decide +kernel)
      refine ⟨.ref a, rfl, .str x, rfl, .str x, rfl, _, _, rfl, rfl, small_line (by omega), .str x, rfl, _, _, rfl, rfl, by decide, by decide, by decide +kernel, _, _, rfl, rfl, small_line (by omega), _, _, rfl, rfl, by decide, by decide, by decide +kernel, _, _, rfl, rfl, by decide, by decide, by decide +kernel, (by show 7 ≤ sizeLine; decide), fun p5 hp5 => ?_⟩
      refine ⟨a, p5, [x ++ x, "", ".", "/", x ++ repS "a" (Int.toNat 2000), repS "a" (Int.toNat 12), repS "a" (Int.toNat 13)].map V.str, c3, rfl, w3.new hp5, SqL.of upd_same, w3.ne hp5, (by show 0 < 7; decide), (by show 7 < 1000000; decide), by omega, fun v hv H5 c5 f5 w5 h7 h8 => ?_⟩
      obtain ⟨y, hy, rfl⟩ := List.mem_map.mp hv
      have hy2 : y.length ≤ 10000 ∧ OkS y := by
        simp only [List.mem_cons, List.not_mem_nil, or_false] at hy
        rcases hy with rfl | rfl | rfl | rfl | rfl | rfl | rfl
        · exact ⟨by rw [Str.length_append]; omega, ok_app ho ho⟩
        · exact ⟨by decide +kernel, ok_by (by decide +kernel)⟩
        · exact ⟨by decide +kernel, ok_by (by decide +kernel)⟩
        · exact ⟨by decide +kernel, ok_by (by decide +kernel)⟩
        · exact ⟨by rw [Str.length_append]; omega, ok_app ho (ok_rep oa _)⟩
        · exact ⟨by decide +kernel, ok_rep oa _⟩
        · exact ⟨by decide +kernel, ok_rep oa _⟩
      exact q _ H5 c5 (fun e => nomatch e) (.str y (by omega) hy2.2) (fr.trans ((Fr.new hp5).trans f5)) w5 (by omega) (by omega)
    · refine ⟨.ref a, rfl, .str x, rfl, (by show 1 ≤ sizeLine; decide), fun p1 n1 => ?_⟩
      have s1 := same_new (o := .lst [V.str x]) n1
      have h1 : (upd H3 p1 (.lst [V.str x])) p1 = some (.lst [V.str x]) := upd_same
      generalize upd H3 p1 (.lst [V.str x]) = G1 at s1 h1 ⊢
      refine ⟨.str x, rfl, (by show 1 ≤ sizeLine; decide), fun p2 n2 => ?_⟩
      have s2 := same_new (o := .tup [V.str x]) n2
      have h2 : (upd G1 p2 (.tup [V.str x])) p2 = some (.tup [V.str x]) := upd_same
      generalize upd G1 p2 (.tup [V.str x]) = G2 at s2 h2 ⊢
      intro p3 n3
      refine ⟨.str x, rfl, upd_same, [(Sum.inr x, V.int 1)], rfl, (by show 1 ≤ 15; decide), ?_⟩
      have s3 := same_new (o := .dK (mergeK [] [(Sum.inr x, V.int 1)])) n3
      have h3 : (upd G2 p3 (.dK (mergeK [] [(Sum.inr x, V.int 1)]))) p3 = some (.dK (mergeK [] [(Sum.inr x, V.int 1)])) := upd_same
      have e3 : upd (upd G2 p3 (.dK [])) p3 (.dK (mergeK [] [(Sum.inr x, V.int 1)])) = upd G2 p3 (.dK (mergeK [] [(Sum.inr x, V.int 1)])) := upd_upd
      generalize upd (upd G2 p3 (.dK [])) p3 (.dK (mergeK [] [(Sum.inr x, V.int 1)])) = G3 at e3 ⊢
      rw [← e3] at s3 h3
      refine ⟨Nat.zero_le _, fun p4 n4 => ?_⟩
      have s4 := same_new (o := .lst ([] : List V)) n4
      have h4 : (upd G3 p4 (.lst ([] : List V))) p4 = some (.lst ([] : List V)) := upd_same
      generalize upd G3 p4 (.lst ([] : List V)) = G4 at s4 h4 ⊢
      intro p5 n5
      have s5 := same_new (o := .dK ([] : List (Key × V))) n5
      have h5 : (upd G4 p5 (.dK ([] : List (Key × V)))) p5 = some (.dK ([] : List (Key × V))) := upd_same
      generalize upd G4 p5 (.dK ([] : List (Key × V))) = G5 at s5 h5 ⊢
      refine ⟨(by show 8 ≤ sizeLine; decide), fun p6 n6 => ?_⟩
      have s6 := same_new (o := .lst [.non, .bl true, .int 0, .ref p1, .ref p2, .ref p3, .ref p4, .ref p5]) n6
      have h6 : (upd G5 p6 (.lst [.non, .bl true, .int 0, .ref p1, .ref p2, .ref p3, .ref p4, .ref p5])) p6 = some (.lst [.non, .bl true, .int 0, .ref p1, .ref p2, .ref p3, .ref p4, .ref p5]) := upd_same
      have s35 := (((s1.trans s2).trans s3).trans s4).trans s5
      have w5 := w3.same s35
      have n1 := w3.ne n1
      have n2 := (w3.same s1).ne n2
      have n3 := (w3.same (s1.trans s2)).ne n3
      have n4 := (w3.same ((s1.trans s2).trans s3)).ne n4
      have n5 := (w3.same (((s1.trans s2).trans s3).trans s4)).ne n5
      have n6' := w5.ne n6
      generalize upd G5 p6 (.lst [.non, .bl true, .int 0, .ref p1, .ref p2, .ref p3, .ref p4, .ref p5]) = G6 at s6 h6 ⊢
      refine ⟨a, p6, _, c3, rfl, w5.same s6, SqL.of h6, n6', (by show 0 < 8; decide), (by show 8 < 1000000; decide), by omega, fun v hv H7 c7 f7 w7 h7 h8 => ?_⟩
      have f36 : Fr a H3 H7 := (Fr.same (s35.trans s6)).trans f7
      have nr : ∀ {p : Addr}, p ≠ a → V.ref p ≠ .ref a := fun h e => h (V.ref.inj e)
      simp only [List.mem_cons, List.not_mem_nil, or_false] at hv
      rcases hv with rfl | rfl | rfl | rfl | rfl | rfl | rfl | rfl
      · exact q _ H7 c7 (fun e => nomatch e) .non (fr.trans f36) w7 (by omega) (by omega)
      · exact q _ H7 c7 (fun e => nomatch e) (.bl _) (fr.trans f36) w7 (by omega) (by omega)
      · exact q _ H7 c7 (fun e => nomatch e) (.int _) (fr.trans f36) w7 (by omega) (by omega)
      · exact q _ H7 c7 (nr n1) (.lst _ _ (f7 _ _ n1 (s6 _ _ (s5 _ _ (s4 _ _ (s3 _ _ (s2 _ _ h1))))))) (fr.trans f36) w7 (by omega) (by omega)
      · exact q _ H7 c7 (nr n2) (.tup _ _ (f7 _ _ n2 (s6 _ _ (s5 _ _ (s4 _ _ (s3 _ _ h2)))))) (fr.trans f36) w7 (by omega) (by omega)
      · exact q _ H7 c7 (nr n3) (.dK _ _ (f7 _ _ n3 (s6 _ _ (s5 _ _ (s4 _ _ h3))))) (fr.trans f36) w7 (by omega) (by omega)
      · exact q _ H7 c7 (nr n4) (.lst _ _ (f7 _ _ n4 (s6 _ _ (s5 _ _ h4)))) (fr.trans f36) w7 (by omega) (by omega)
      · exact q _ H7 c7 (nr n5) (.dK _ _ (f7 _ _ n5 (s6 _ _ h5))) (fr.trans f36) w7 (by omega) (by omega)
end

section
variable {P : Program} {w : World} {K : PySem.W.Frag} {mg : Str → Option Value} {base : Heap}
def spIsWord : Sp := fun vs H Q _ => ∃ (v : V) (y : Str), vs = [v, .str y] ∧ Thing H v ∧ ∀ H', Same H H' → Q (.bl (evalV (isWordF y) v)) H'
theorem c__is_word (T : Top K mg) : C8.Cal P w K mg base 2 "_is_word" spIsWord [] := by
  refine cal_of T.d__is_word sc__is_word (fun _ _ _ _ _ _ us hl => match us, hl with | [_, _], _ => rfl) (fun vs H Q E h => ?_) (fun f cdv A outer s H vs Q E hr h => ?_)
  · obtain ⟨x, y, rfl, _⟩ := h
    rfl
  · obtain ⟨v, y, rfl, t, q⟩ := h
    refine ⟨_, (pss_one (ps_ret (pe_and (pe_callB call_isi (by rfl) T.z_isinstance (by decide +kernel) (pa_cons (pv 0) (pa_cons (pe_bltn (v := .ty "str") (by rfl) T.z_str (by decide +kernel) rfl) pa_nil))) (pe_and (pe_chain op_le op_le pe_int (pe_callB call_len_str (by rfl) T.z_len (by decide +kernel) (pa_cons (pv 0) pa_nil)) (C8.pe_gc (by rfl) T.g_LONGEST_WORD)) (pe_one (pe_cmpR op_eq (pe_bm PySem.F.plainAttrs_str PySem.F.slot_str_strip PySem.F.type_str_strip mt_stripChars (pv 0) (pa_cons (pv 1) pa_nil)) pe_str (nomark _))))))), ?_⟩
    refine ⟨v, rfl, ?_⟩
    dsimp only [tCons, tC, tNil]
    refine t.isi ?_
    refine ⟨_, rfl, ?_⟩
    rcases t.cases with ⟨x, rfl, hx, ho⟩ | hn
    · refine iteT ⟨.str x, rfl, x, rfl, small_line (by omega), _, _, rfl, rfl, _, rfl, ite2 (fun h1 => ?_) (fun h1 => ?_)⟩
      · have h1 := of_decide_eq_true h1
        refine ⟨_, _, rfl, rfl, _, rfl, ite2 (fun h2 => ?_) (fun h2 => ?_)⟩
        · have h2 := of_decide_eq_true h2
          refine ⟨.str x, rfl, rfl, .str y, rfl, x, y, rfl, rfl, small_line (by omega), rfl, of_ev (q _ (Same.refl _)) (Eq.trans ?_ (strip_none x y).symm)⟩
          unfold isWordF
          rw [decide_eq_true (by omega), decide_eq_true (by omega)]
          rfl
        · have h2 : ¬ x.length ≤ 12 := fun z => h2 (decide_eq_true (by omega))
          refine of_ev (q _ (Same.refl _)) ?_
          unfold isWordF
          rw [decide_eq_false h2, Bool.false_and, Bool.and_false]
      · have h1 : ¬ 1 ≤ x.length := fun z => h1 (decide_eq_true (by omega))
        refine ⟨_, rfl, iteF (of_ev (q _ (Same.refl _)) ?_)⟩
        unfold isWordF
        rw [decide_eq_false h1, Bool.false_and]
    · rw [hn]
      exact iteF (of_ev0 hn (q _ (Same.refl _)))
theorem evalV_split {f : Str → Bool} : evalV f = fun v => match v with | .str x => f x | _ => false := rfl
theorem c_is_segment (T : Top K mg) : C8.Cal P w K mg base 3 "is_segment" (spWord isSegF) [] := by
  refine cal_of T.d_is_segment sc_is_segment (fun _ _ _ _ _ _ us hl => match us, hl with | [_], _ => rfl) (fun vs H Q E h => ?_) (fun f cdv A outer s H vs Q E hr h => ?_)
  · obtain ⟨x, rfl, _⟩ := h
    rfl
  · obtain ⟨v, rfl, t, q⟩ := h
    refine ⟨_, (pss_one (ps_ret (pe_and (C8.pe_c (c__is_word T) hr (by decide) (by rfl) (pa_cons (pv 0) (pa_cons (C8.pe_gc (by rfl) T.g_SEGMENT_SIGNS) pa_nil))) (pe_and (pe_cmpR op_ne (pv 0) pe_str (nomark _)) (pe_one (pe_cmpR op_notin_str pe_str (pv 0) rfl)))))), ?_⟩
    refine ⟨v, rfl, v, SSG, rfl, t, fun H1 s1 => ⟨_, rfl, ?_⟩⟩
    rcases t.cases with ⟨x, rfl, hx, ho⟩ | hn
    · refine ite2 (fun h1 => ?_) (fun h1 => ?_)
      · have h1 : isWordF SSG x = true := h1
        refine ⟨.str x, rfl, rfl, _, rfl, ite2 (fun h2 => ?_) (fun h2 => ?_)⟩
        · refine ⟨.str x, rfl, _, x, rfl, rfl, of_ev (q _ s1) ?_⟩
          have h2 : ¬ x = "." := fun z => by
            rw [z] at h2
            simp at h2
          unfold isSegF
          rw [h1, decide_eq_false h2]
          rfl
        · refine of_ev (q _ s1) ?_
          have h2 : x = "." := Decidable.byContradiction fun z => h2 (by rw [decide_eq_false (fun e => z (V.str.inj e))]; rfl)
          unfold isSegF
          rw [decide_eq_true h2]
          simp
      · have h1 : isWordF SSG x = false := Bool.eq_false_iff.mpr h1
        refine of_ev (q _ s1) ?_
        unfold isSegF
        rw [h1, Bool.false_and]
    · rw [hn]
      exact iteF (of_ev0 hn (q _ s1))
theorem c_is_id (T : Top K mg) : C8.Cal P w K mg base 2 "is_id" (spWord isIdF) [] := by
  refine cal_of T.d_is_id sc_is_id (fun _ _ _ _ _ _ us hl => match us, hl with | [_], _ => rfl) (fun vs H Q E h => ?_) (fun f cdv A outer s H vs Q E hr h => ?_)
  · obtain ⟨x, rfl, _⟩ := h
    rfl
  · obtain ⟨v, rfl, t, q⟩ := h
    refine ⟨_, (pss_one (ps_ret (pe_and (pe_callB call_isi (by rfl) T.z_isinstance (by decide +kernel) (pa_cons (pv 0) (pa_cons (pe_bltn (v := .ty "str") (by rfl) T.z_str (by decide +kernel) rfl) pa_nil))) (pe_and (pe_cmpR op_eq (pe_callB call_len_str (by rfl) T.z_len (by decide +kernel) (pa_cons (pv 0) pa_nil)) pe_int (nomark _)) (pe_one (pe_cmpR op_eq (pe_bm PySem.F.plainAttrs_str PySem.F.slot_str_strip PySem.F.type_str_strip mt_stripChars (pv 0) (pa_cons (C8.pe_gc (by rfl) T.g_HEX_DIGITS) pa_nil)) pe_str (nomark _))))))), ?_⟩
    refine ⟨v, rfl, ?_⟩
    dsimp only [tCons, tC, tNil]
    refine t.isi ?_
    refine ⟨_, rfl, ?_⟩
    rcases t.cases with ⟨x, rfl, hx, ho⟩ | hn
    · refine iteT ⟨.str x, rfl, x, rfl, small_line (by omega), rfl, _, rfl, ite2 (fun h1 => ?_) (fun h1 => ?_)⟩
      · have h1 := V.int.inj (of_decide_eq_true h1)
        refine ⟨.str x, rfl, rfl, x, HEX, rfl, rfl, small_line (by omega), rfl, of_ev (q _ (Same.refl _)) (Eq.trans ?_ (strip_none x HEX).symm)⟩
        unfold isIdF
        rw [decide_eq_true (by omega)]
        rfl
      · have h1 : ¬ x.length = 16 := fun z => h1 (decide_eq_true (by rw [z]; rfl))
        refine of_ev (q _ (Same.refl _)) ?_
        unfold isIdF
        rw [decide_eq_false h1, Bool.false_and]
    · rw [hn]
      exact iteF (of_ev0 hn (q _ (Same.refl _)))
theorem c_is_author (T : Top K mg) : C8.Cal P w K mg base 3 "is_author" (spWord (isWordF LET)) [] := by
  refine cal_of T.d_is_author sc_is_author (fun _ _ _ _ _ _ us hl => match us, hl with | [_], _ => rfl) (fun vs H Q E h => ?_) (fun f cdv A outer s H vs Q E hr h => ?_)
  · obtain ⟨x, rfl, _⟩ := h
    rfl
  · obtain ⟨v, rfl, t, q⟩ := h
    refine ⟨_, (pss_one (ps_ret (C8.pe_c (c__is_word T) hr (by decide) (by rfl) (pa_cons (pv 0) (pa_cons (C8.pe_gc (by rfl) T.g_LETTERS) pa_nil))))), ?_⟩
    exact ⟨v, rfl, v, LET, rfl, t, q⟩
theorem c_is_path (T : Top K mg) : C8.Cal P w K mg base 4 "is_path" (spWord isPathF) [] := by
  refine cal_of T.d_is_path sc_is_path (fun _ _ _ _ _ _ us hl => match us, hl with | [_], _ => rfl) (fun vs H Q E h => ?_) (fun f cdv A outer s H vs Q E hr h => ?_)
  · obtain ⟨x, rfl, _⟩ := h
    rfl
  · obtain ⟨v, rfl, t, q⟩ := h
    refine ⟨_, (pss_cons (ps_if (pt_not (pt_val (pe_callB call_isi (by rfl) T.z_isinstance (by decide +kernel) (pa_cons (pv 0) (pa_cons (pe_bltn (v := .ty "str") (by rfl) T.z_str (by decide +kernel) rfl) pa_nil)))))
      (pss_one (ps_ret pe_bl))
      pss_nil)
      (pss_cons (ps_set (i := 1) sc_is_path.nd rfl (Or.inl rfl) (pe_split (pv 0) pe_str))
      (pss_one (ps_ret (pe_and (pe_cmpR op_le (pe_callB call_len_seq (by rfl) T.z_len (by decide +kernel) (pa_cons (pv 1) pa_nil)) pe_int (nomark _)) (pe_one (pe_callB (cr_all rfl) (by rfl) T.z_all (by decide +kernel) (pa_cons (pe_lc (own := [("segment", 2)]) (g := gName 2) (by rfl) sc_is_path.nd (pi_list (pv 1)) (blkOk_by (own := [("segment", 2)]) (N := ["thing", "segments", "segment"]) (sc := C8.fnScope s_is_path) (by decide +kernel)) (fun _ _ _ _ _ => (pg_name (i := 2) sc_is_path.nd rfl (Or.inl rfl))) (fun _ _ _ _ _ => pts_nil) (fun _ _ _ _ _ => (C8.pe_c (c_is_segment T) hr (by decide) (by rfl) (pa_cons (pv 2) pa_nil)))) pa_nil)))))))), ?_⟩
    refine ⟨v, rfl, ?_⟩
    dsimp only [tCons, tC, tNil]
    refine t.isi ?_
    refine ⟨_, rfl, ?_⟩
    rcases t.cases with ⟨x, rfl, hx, ho⟩ | hn
    · obtain ⟨hl1, hl2⟩ := segs_len x hx
      have ho2 := segs_ok x ho
      refine iteF ⟨.str x, rfl, ⟨x, rfl⟩, x, _, rfl, rfl, rfl, small_line (by omega), fun p hp => ?_⟩
      have sm := same_new (o := .lst ((segs x).map V.str)) hp
      refine ⟨.ref p, rfl, p, (segs x).map V.str, rfl, .inl (.inl (.inl upd_same)), _, _, rfl, rfl, _, rfl, ite2 (fun h1 => ?_) (fun h1 => ?_)⟩
      · have h1 : (segs x).length ≤ 6 := by
          have h1 := of_decide_eq_true h1
          rw [List.length_map] at h1
          omega
        refine ⟨.ref p, rfl, p, rfl, ⟨_, .inl (.inl upd_same)⟩, fun D hD => ?_⟩
        have np : p ≠ D := ne_of_none upd_same hD
        refine lc_pure (i := 2) (us := segs x) (g := V.str) yields_list (fun u => .bl (isSegF u)) (fun _ => true) hD (fun H s => .inl (.inl (s _ _ upd_same))) (fun H u _ hu R r => r H (Same.refl H))
          (fun H u _ hu _ R r => ⟨.str u, rfl, .str u, rfl, .str u (hl2 u hu) (ho2 u hu), fun H' s' => r H' s'⟩) (by omega) (fun H2 s2 h2 => ?_)
        refine ⟨D, (segs x).map isSegF, rfl, .inl (.inl ?_), of_ev (q _ (sm.trans s2)) ?_⟩
        · rw [h2, filt_all, List.map_map]
          rfl
        · unfold isPathF
          rw [decide_eq_true h1, List.all_map]
          rfl
      · have h1 : ¬ (segs x).length ≤ 6 := fun z => h1 (decide_eq_true (by rw [List.length_map]; omega))
        refine of_ev (q _ sm) ?_
        unfold isPathF
        rw [decide_eq_false h1, Bool.false_and]
    · rw [hn]
      exact iteT (of_ev0 hn (q _ (Same.refl _)))
theorem c_is_ref (T : Top K mg) : C8.Cal P w K mg base 3 "is_ref" (spWord isRefF) [] := by
  refine cal_of T.d_is_ref sc_is_ref (fun _ _ _ _ _ _ us hl => match us, hl with | [_], _ => rfl) (fun vs H Q E h => ?_) (fun f cdv A outer s H vs Q E hr h => ?_)
  · obtain ⟨x, rfl, _⟩ := h
    rfl
  · obtain ⟨v, rfl, t, q⟩ := h
    refine ⟨_, (pss_cons (ps_if (pt_not (pt_val (pe_callB call_isi (by rfl) T.z_isinstance (by decide +kernel) (pa_cons (pv 0) (pa_cons (pe_bltn (v := .ty "str") (by rfl) T.z_str (by decide +kernel) rfl) pa_nil)))))
      (pss_one (ps_ret pe_bl))
      pss_nil)
      (pss_cons (ps_set (i := 1) sc_is_ref.nd rfl (Or.inl rfl) (pe_split (pv 0) pe_str))
      (pss_cons (ps_set (i := 2) sc_is_ref.nd rfl (Or.inl rfl) (pe_ifExp (pt_cmpR op_eq (pe_ix ix_list (pv 1) pe_int (fun _ _ => rfl)) pe_str (nomark _)) pe_int pe_int))
      (pss_one (ps_ret (pe_and (pe_cmpR op_le (pe_callB call_len_seq (by rfl) T.z_len (by decide +kernel) (pa_cons (pv 1) pa_nil)) (pv 2) (nomark _)) (pe_one (pe_callB (cr_all rfl) (by rfl) T.z_all (by decide +kernel) (pa_cons (pe_lc (own := [("segment", 3)]) (g := gName 3) (by rfl) sc_is_ref.nd (pi_list (pv 1)) (blkOk_by (own := [("segment", 3)]) (N := ["thing", "segments", "most", "segment"]) (sc := C8.fnScope s_is_ref) (by decide +kernel)) (fun _ _ _ _ _ => (pg_name (i := 3) sc_is_ref.nd rfl (Or.inl rfl))) (fun _ _ _ _ _ => pts_nil) (fun _ _ _ _ _ => (C8.pe_c (c__is_word T) hr (by decide) (by rfl) (pa_cons (pv 3) (pa_cons (C8.pe_gc (by rfl) T.g_REF_SIGNS) pa_nil))))) pa_nil))))))))), ?_⟩
    refine ⟨v, rfl, ?_⟩
    dsimp only [tCons, tC, tNil]
    refine t.isi ?_
    refine ⟨_, rfl, ?_⟩
    rcases t.cases with ⟨x, rfl, hx, ho⟩ | hn
    · obtain ⟨hl1, hl2⟩ := segs_len x hx
      have ho2 := segs_ok x ho
      refine iteF ⟨.str x, rfl, ⟨x, rfl⟩, x, _, rfl, rfl, rfl, small_line (by omega), fun p hp => ?_⟩
      have sm := same_new (o := .lst ((segs x).map V.str)) hp
      obtain ⟨y0, hy0⟩ : ∃ y0, (segs x)[0]? = some y0 := by
        cases e : segs x with
        | nil => exact absurd e (segs_ne x)
        | cons y r => exact ⟨y, rfl⟩
      refine ⟨.ref p, rfl, p, (segs x).map V.str, 0, .str y0, rfl, rfl, .inl (.inl upd_same), atI_nat (j := 0) (by rw [List.getElem?_map, hy0]; rfl), rfl, _, rfl, ?_⟩
      have key : ∀ n : Nat, mostF x = n → isRefF x = (decide ((segs x).length ≤ n) && (segs x).all (isWordF RSG)) := fun n e => by
        rw [← e]
        rfl
      refine ite2 (fun hc => ?_) (fun hc => ?_)
      · have hm := key 7 (by
          unfold mostF
          rw [hy0, if_pos (by rw [V.str.inj (of_decide_eq_true hc)])])
        refine ⟨.ref p, rfl, p, (segs x).map V.str, rfl, .inl (.inl (.inl upd_same)), _, rfl, _, _, rfl, rfl, _, rfl, ite2 (fun h1 => ?_) (fun h1 => ?_)⟩
        · have h1 : (segs x).length ≤ 7 := by
            have h1 := of_decide_eq_true h1
            rw [List.length_map] at h1
            omega
          refine ⟨.ref p, rfl, p, rfl, ⟨_, .inl (.inl upd_same)⟩, fun D hD => ?_⟩
          refine lc_pure (i := 3) (us := segs x) (g := V.str) yields_list (fun u => .bl (isWordF RSG u)) (fun _ => true) hD (fun H s => .inl (.inl (s _ _ upd_same))) (fun H u _ hu R r => r H (Same.refl H))
            (fun H u _ hu _ R r => ⟨.str u, rfl, .str u, RSG, rfl, .str u (hl2 u hu) (ho2 u hu), fun H' s' => r H' s'⟩) (by omega) (fun H2 s2 h2 => ?_)
          refine ⟨D, (segs x).map (isWordF RSG), rfl, .inl (.inl ?_), of_ev (q _ (sm.trans s2)) ?_⟩
          · rw [h2, filt_all, List.map_map]
            rfl
          · rw [hm, decide_eq_true h1, List.all_map]
            rfl
        · have h1 : ¬ (segs x).length ≤ 7 := fun z => h1 (decide_eq_true (by rw [List.length_map]; omega))
          refine of_ev (q _ sm) ?_
          rw [hm, decide_eq_false h1, Bool.false_and]
      · have hm := key 5 (by
          unfold mostF
          rw [hy0, if_neg (fun z => hc (decide_eq_true (by rw [Option.some.inj z])))])
        refine ⟨.ref p, rfl, p, (segs x).map V.str, rfl, .inl (.inl (.inl upd_same)), _, rfl, _, _, rfl, rfl, _, rfl, ite2 (fun h1 => ?_) (fun h1 => ?_)⟩
        · have h1 : (segs x).length ≤ 5 := by
            have h1 := of_decide_eq_true h1
            rw [List.length_map] at h1
            omega
          refine ⟨.ref p, rfl, p, rfl, ⟨_, .inl (.inl upd_same)⟩, fun D hD => ?_⟩
          refine lc_pure (i := 3) (us := segs x) (g := V.str) yields_list (fun u => .bl (isWordF RSG u)) (fun _ => true) hD (fun H s => .inl (.inl (s _ _ upd_same))) (fun H u _ hu R r => r H (Same.refl H))
            (fun H u _ hu _ R r => ⟨.str u, rfl, .str u, RSG, rfl, .str u (hl2 u hu) (ho2 u hu), fun H' s' => r H' s'⟩) (by omega) (fun H2 s2 h2 => ?_)
          refine ⟨D, (segs x).map (isWordF RSG), rfl, .inl (.inl ?_), of_ev (q _ (sm.trans s2)) ?_⟩
          · rw [h2, filt_all, List.map_map]
            rfl
          · rw [hm, decide_eq_true h1, List.all_map]
            rfl
        · have h1 : ¬ (segs x).length ≤ 5 := fun z => h1 (decide_eq_true (by rw [List.length_map]; omega))
          refine of_ev (q _ sm) ?_
          rw [hm, decide_eq_false h1, Bool.false_and]
    · rw [hn]
      exact iteT (of_ev0 hn (q _ (Same.refl _)))
theorem c_is_text (T : Top K mg) : C8.Cal P w K mg base 1 "is_text" (spWord isTextF) [] := by
  refine cal_ofT T.d_is_text sc_is_text (by decide +kernel) (by decide) (fun _ _ _ _ _ _ us hl => match us, hl with | [_], _ => rfl) (fun vs H Q E h => ?_) (fun f cdv A outer s H vs Q E hr h => ?_)
  · obtain ⟨x, rfl, _⟩ := h
    rfl
  · obtain ⟨v, rfl, t, q⟩ := h
    refine ⟨_, (psst_cons (PST.of (ps_if (PW.pt (pw_or (pt_not (pt_val (pe_callB call_isi (by rfl) T.z_isinstance (by decide +kernel) (pa_cons (pv 0) (pa_cons (pe_bltn (v := .ty "str") (by rfl) T.z_str (by decide +kernel) rfl) pa_nil))))) (pw_or1 (pt_cmpR op_gt (pe_callB call_len_str (by rfl) T.z_len (by decide +kernel) (pa_cons (pv 0) pa_nil)) (C8.pe_gc (by rfl) T.g_LONGEST_TEXT) (nomark _)))))
      (pss_one (ps_ret pe_bl))
      pss_nil))
      (CwR.psst_one (CwR.pst_ret (pet_and (pe_bm0 PySem.F.plainAttrs_str PySem.F.slot_str_isascii PySem.F.type_str_isascii mt_isascii (pv 0)) (pet_one (pet_bm0 PySem.F.plainAttrs_str PySem.F.slot_str_isprintable PySem.F.type_str_isprintable mt_isprintable (CwR.pet_replC (pv 0)))))))), ?_⟩
    refine ⟨v, rfl, ?_⟩
    dsimp only [tCons, tC, tNil]
    refine t.isi ?_
    refine ⟨_, rfl, ?_⟩
    rcases t.cases with ⟨x, rfl, hx, ho⟩ | hn
    · refine iteF ⟨.str x, rfl, x, rfl, small_line (by omega), _, _, rfl, rfl, _, rfl, ite2 (fun h1 => ?_) (fun h1 => ?_)⟩
      · have h1 := of_decide_eq_true h1
        refine of_ev (q _ (Same.refl _)) ?_
        unfold isTextF
        rw [decide_eq_false (by omega), Bool.false_and]
      · have h1 : x.length ≤ 2000 := by
          have : ¬ (2000 : Int) < (x.length : Nat) := fun z => h1 (decide_eq_true z)
          omega
        have key : isTextF x = plainT x := by
          unfold isTextF
          rw [decide_eq_true h1, plain_text]
          rfl
        refine ⟨.str x, rfl, rfl, x, rfl, rfl, trivial, _, rfl, ite2 (fun h2 => ?_) (fun h2 => ?_)⟩
        · refine ⟨.str x, rfl, x, rfl, by have : (Str.ofString "").length = 0 := by decide +kernel
                                          rw [this]; omega, rfl, _, rfl, rfl, trivial, of_ev (q _ (Same.refl _)) ?_⟩
          rw [key]
          unfold plainT
          rw [h2, Bool.true_and]
        · refine of_ev (q _ (Same.refl _)) ?_
          rw [key]
          unfold plainT
          rw [Bool.eq_false_iff.mpr h2, Bool.false_and]
    · rw [hn]
      exact iteT (of_ev0 hn (q _ (Same.refl _)))
end

section
variable {P : Program} {w : World} {K : PySem.W.Frag} {mg : Str → Option Value} {base : Heap}
def spLaw (K : PySem.W.Frag) : Sp := fun vs H Q _ => ∃ (a : Addr) (ns : List Int), vs = [.ref a] ∧ SqL K H a (ns.map V.int) ∧ ns.length ≤ 63 ∧ ∀ H', Q (.bl true) H'
theorem isi_bool {K : PySem.W.Frag} {H : Hp} {b : Bool} {Q : VK} (h : Q (.bl true) H) : rIsi K [.bl b, .ty "bool"] H Q :=
  ⟨_, _, .type "bool", .type "bool", true, rfl, .ty "bool", .base (.bl b), kit_ty (by decide +kernel), h⟩
theorem cells_int {v : Int} {ns : List Int} {lo hi : Option Int} {x : V} (h : x ∈ [V.int v] ++ cutV (ns.map V.int) lo hi) : ∃ n, x = .int n := by
  rcases List.mem_append.mp h with h | h
  · exact ⟨v, List.mem_singleton.mp h⟩
  · unfold cutV at h
    obtain ⟨n, _, rfl⟩ := List.mem_map.mp (List.mem_of_mem_drop (List.mem_of_mem_take h))
    exact ⟨n, rfl⟩
theorem ok_law (T : Top K mg) {f : Addr} {fd : FuncData} (F : C8.Fun K "law" "law" s_law f fd) : FnOk P w K mg base C8.CX0 6 f fd ["_law_script"] (spLaw K) := by
  obtain ⟨f1, fd1, D1, _⟩ := T.d_is_id
  obtain ⟨f2, fd2, D2, _⟩ := T.d_is_path
  obtain ⟨f3, fd3, D3, _⟩ := T.d_is_ref
  obtain ⟨f4, fd4, D4, _⟩ := T.d_is_author
  obtain ⟨f5, fd5, D5, _⟩ := T.d_is_text
  have n12 := def_ne D1 D2 (by decide)
  have n13 := def_ne D1 D3 (by decide)
  have n14 := def_ne D1 D4 (by decide)
  have n15 := def_ne D1 D5 (by decide)
  have n23 := def_ne D2 D3 (by decide)
  have n24 := def_ne D2 D4 (by decide)
  have n25 := def_ne D2 D5 (by decide)
  have n34 := def_ne D3 D4 (by decide)
  have n35 := def_ne D3 D5 (by decide)
  have n45 := def_ne D4 D5 (by decide)
  have g1 : ∃ u, mg "is_id" = some u ∧ RelV (V.ref f1) u := ⟨_, D1.mgf, rfl⟩
  have g2 : ∃ u, mg "is_path" = some u ∧ RelV (V.ref f2) u := ⟨_, D2.mgf, rfl⟩
  have g3 : ∃ u, mg "is_ref" = some u ∧ RelV (V.ref f3) u := ⟨_, D3.mgf, rfl⟩
  have g4 : ∃ u, mg "is_author" = some u ∧ RelV (V.ref f4) u := ⟨_, D4.mgf, rfl⟩
  have g5 : ∃ u, mg "is_text" = some u ∧ RelV (V.ref f5) u := ⟨_, D5.mgf, rfl⟩
  let asks : Addr → Option Sp := fun g => if g = f1 then some (spWord (dueF 0)) else if g = f2 then some (spWord (dueF 1)) else if g = f3 then some (spWord (dueF 2)) else if g = f4 then some (spWord (dueF 3)) else if g = f5 then some (spWord (dueF 4)) else none
  have A0 : ∀ g sp, asks g = some sp → Held P w K mg base 4 g sp := fun g sp e => by
    have held : ∀ {x : Str} {k : Nat} {sp : Sp} {g : Addr}, C8.Cal P w K mg base k x sp [] → k ≤ 4 → mg x = some (.ref g) → Held P w K mg base 4 g sp := fun {x k sp g} c hk hm => by
      obtain ⟨fd, ps, F, kp, b⟩ := (held_of c hm).ex
      exact ⟨fd, ps, F.mono hk, kp, b⟩
    have e : (if g = f1 then some (spWord (dueF 0)) else if g = f2 then some (spWord (dueF 1)) else if g = f3 then some (spWord (dueF 2)) else if g = f4 then some (spWord (dueF 3)) else if g = f5 then some (spWord (dueF 4)) else none) = some sp := e
    by_cases h1 : g = f1
    · rw [if_pos h1] at e
      cases e
      rw [h1]
      exact held (c_is_id T) (by decide) D1.mgf
    rw [if_neg h1] at e
    by_cases h2 : g = f2
    · rw [if_pos h2] at e
      cases e
      rw [h2]
      exact held (c_is_path T) (by decide) D2.mgf
    rw [if_neg h2] at e
    by_cases h3 : g = f3
    · rw [if_pos h3] at e
      cases e
      rw [h3]
      exact held (c_is_ref T) (by decide) D3.mgf
    rw [if_neg h3] at e
    by_cases h4 : g = f4
    · rw [if_pos h4] at e
      cases e
      rw [h4]
      exact held (c_is_author T) (by decide) D4.mgf
    rw [if_neg h4] at e
    by_cases h5 : g = f5
    · rw [if_pos h5] at e
      cases e
      rw [h5]
      exact held (c_is_text T) (by decide) D5.mgf
    rw [if_neg h5] at e
    cases e
  have asked : ∀ o : Nat, o < 5 → ∃ g, [V.ref f1, .ref f2, .ref f3, .ref f4, .ref f5][o]? = some (.ref g) ∧ asks g = some (spWord (dueF o)) := fun o ho => by
    obtain rfl | rfl | rfl | rfl | rfl : o = 0 ∨ o = 1 ∨ o = 2 ∨ o = 3 ∨ o = 4 := by omega
    · exact ⟨f1, rfl, if_pos rfl⟩
    · exact ⟨f2, rfl, by show (if f2 = f1 then _ else _) = _; rw [if_neg n12.symm, if_pos rfl]⟩
    · exact ⟨f3, rfl, by show (if f3 = f1 then _ else _) = _; rw [if_neg n13.symm, if_neg n23.symm, if_pos rfl]⟩
    · exact ⟨f4, rfl, by show (if f4 = f1 then _ else _) = _; rw [if_neg n14.symm, if_neg n24.symm, if_neg n34.symm, if_pos rfl]⟩
    · exact ⟨f5, rfl, by show (if f5 = f1 then _ else _) = _; rw [if_neg n15.symm, if_neg n25.symm, if_neg n35.symm, if_neg n45.symm, if_pos rfl]⟩
  refine C8.fn0 F sc_law (fun vs H Q E h => ?_) (fun cdv A outer s H vs Q E hr h => ?_)
  · obtain ⟨a, ns, rfl, _⟩ := h
    rfl
  · obtain ⟨a, ns, rfl, hS, hlen, q⟩ := h
    have A := A0
    refine ⟨_, (pss_cons (ps_set (i := 1) sc_law.nd rfl (Or.inl rfl) (pe_lst (pa_cons (C8.pe_gc (by rfl) g1) (pa_cons (C8.pe_gc (by rfl) g2) (pa_cons (C8.pe_gc (by rfl) g3) (pa_cons (C8.pe_gc (by rfl) g4) (pa_cons (C8.pe_gc (by rfl) g5) pa_nil)))))))
      (pss_cons (ps_for PassesOwn.never rfl (pi_list (pe_op op_cat (pe_lst (pa_cons (C8.pe_c (c_l_cell_at T) hr (by decide) (by rfl) (pa_cons (pv 0) (pa_cons pe_int pa_nil))) pa_nil)) (pe_slice sl_list (pv 0) (po_some pe_int) (po_some pe_int)))) (pg_name (i := 2) sc_law.nd rfl (Or.inl rfl))
      (pss_cons (ps_set (i := 3) sc_law.nd rfl (Or.inl rfl) (C8.pe_c (c_l_well T) hr (by decide) (by rfl) (pa_cons (pv 2) pa_nil)))
      (pss_one (ps_for PassesOwn.never rfl (pi_range1 (by rfl) T.z_range (pa_cons pe_int pa_nil)) (pg_name (i := 4) sc_law.nd rfl (Or.inl rfl))
      (pss_cons (ps_set (i := 5) sc_law.nd rfl (Or.inl rfl) (C8.pe_c (c_l_good T) hr (by decide) (by rfl) (pa_cons (pv 3) (pa_cons (pv 4) pa_nil))))
      (pss_cons (ps_for PassesOwn.never rfl (pi_list (pe_lst (pa_cons (pv 5) (pa_cons (C8.pe_c (c_l_bent T) hr (by decide) (by rfl) (pa_cons (pv 3) (pa_cons (pv 5) pa_nil))) (pa_cons (C8.pe_c (c_l_bent T) hr (by decide) (by rfl) (pa_cons (pv 3) (pa_cons (pv 5) pa_nil))) pa_nil))))) (pg_name (i := 6) sc_law.nd rfl (Or.inl rfl))
      (pss_one (ps_for PassesOwn.never rfl (pi_range1 (by rfl) T.z_range (pa_cons pe_int pa_nil)) (pg_name (i := 7) sc_law.nd rfl (Or.inl rfl))
      (pss_cons (ps_set (i := 8) sc_law.nd rfl (Or.inl rfl) (pe_ix ix_list (pv 1) (pv 7) (fun _ _ => rfl)))
      (pss_cons (ps_set (i := 9) sc_law.nd rfl (Or.inl rfl) (pe_callA (S := asks) A (hr.mono (by decide)) (i := 8) rfl (Or.inl rfl) (pa_cons (pv 6) pa_nil)))
      (pss_one (ps_if (PW.pt (pw_or (pt_not (pt_val (pe_callB call_isi (by rfl) T.z_isinstance (by decide +kernel) (pa_cons (pv 9) (pa_cons (pe_bltn (v := .ty "bool") (by rfl) T.z_bool (by decide +kernel) rfl) pa_nil))))) (pw_or1 (pt_cmpR op_ne (pv 9) (C8.pe_c (c_l_due T) hr (by decide) (by rfl) (pa_cons (pv 7) (pa_cons (pv 6) pa_nil))) (nomark _)))))
      (pss_one (ps_ret pe_bl))
      pss_nil)))))))
      (pss_one (ps_if (PW.pt (pw_and (pt_not (pt_val (C8.pe_c (c_l_due T) hr (by decide) (by rfl) (pa_cons (pv 4) (pa_cons (pv 5) pa_nil))))) (pw_and1 (pt_cmpR op_ne (pv 4) pe_int (nomark _)))))
      (pss_one (ps_ret pe_bl))
      pss_nil))))))))
      (pss_one (ps_ret pe_bl)))), ?_⟩
    refine ⟨(by show 5 ≤ sizeLine; decide), fun La nL => ?_⟩
    have s1 := same_new (o := .lst [V.ref f1, .ref f2, .ref f3, .ref f4, .ref f5]) nL
    have hL : (upd H La (.lst [V.ref f1, .ref f2, .ref f3, .ref f4, .ref f5])) La = some (.lst [V.ref f1, .ref f2, .ref f3, .ref f4, .ref f5]) := upd_same
    generalize upd H La (.lst [V.ref f1, .ref f2, .ref f3, .ref f4, .ref f5]) = H1 at s1 hL ⊢
    refine ⟨.ref a, rfl, a, ns, 0, rfl, s1.seq hS, fun v => ⟨(by show 1 ≤ sizeLine; decide), fun p1 n1 => ?_⟩⟩
    have s2 := same_new (o := .lst [V.int v]) n1
    have h1 : (upd H1 p1 (.lst [V.int v])) p1 = some (.lst [V.int v]) := upd_same
    generalize upd H1 p1 (.lst [V.int v]) = H2 at s2 h1 ⊢
    refine ⟨.ref a, rfl, 1, rfl, 16, rfl, a, ns.map V.int, rfl, s2.seq (s1.seq hS), fun p2 n2 => ?_⟩
    have s3 := same_new (o := .lst (cutV (ns.map V.int) (some 1) (some 16))) n2
    have h2 : (upd H2 p2 (.lst (cutV (ns.map V.int) (some 1) (some 16)))) p2 = some (.lst (cutV (ns.map V.int) (some 1) (some 16))) := upd_same
    generalize upd H2 p2 (.lst (cutV (ns.map V.int) (some 1) (some 16))) = H3 at s3 h2 ⊢
    refine ⟨p1, p2, _, _, rfl, rfl, s3 _ _ h1, h2, ?_, fun L nLL => ?_⟩
    · have := cutV_length (ns.map V.int) (some 1) (some 16)
      rw [List.length_map] at this
      exact small_line (by simp only [List.length_cons, List.length_nil]; omega)
    have s4 := same_new (o := .lst ([V.int v] ++ cutV (ns.map V.int) (some 1) (some 16))) nLL
    have h4 : (upd H3 L (.lst ([V.int v] ++ cutV (ns.map V.int) (some 1) (some 16)))) L = some (.lst ([V.int v] ++ cutV (ns.map V.int) (some 1) (some 16))) := upd_same
    have hL4 := s4 _ _ (s3 _ _ (s2 _ _ hL))
    generalize upd H3 L (.lst ([V.int v] ++ cutV (ns.map V.int) (some 1) (some 16))) = H4 at s4 h4 hL4 ⊢
    refine ⟨L, rfl, ⟨_, SqL.of h4⟩, ?_⟩
    refine for_list (K := K) (a := L) (xs := [V.int v] ++ cutV (ns.map V.int) (some 1) (some 16)) (fun i σ H' => Same H4 H' ∧ ∃ z2 z3 z4 z5 z6 z7 z8 z9, σ = [some (.ref a), some (.ref La), z2, z3, z4, z5, z6, z7, z8, z9])
      ⟨Same.refl _, none, none, none, none, none, none, none, none, rfl⟩ (fun i σ H' _ I => I.1.seq (SqL.of h4)) ?_ ?_
    · rintro i x σ H' hi ⟨s5, z2, z3, z4, z5, z6, z7, z8, z9, rfl⟩
      obtain ⟨n, rfl⟩ := cells_int (List.mem_of_getElem? hi)
      refine ⟨.int n, rfl, n, rfl, fun H5 W nW s6 w5 => ?_⟩
      have s46 := s5.trans s6
      have nW4 : H4 W = none := s5.free nW
      refine ⟨5, rfl, by decide, by decide, ?_⟩
      refine for_range (lo := 0) (n := 5) (fun i σ H' => Fr W H5 H' ∧ (∃ c, Wl H' W c ∧ c ≤ 400 * i) ∧ ∃ z4 z5 z6 z7 z8 z9, σ = [some (.ref a), some (.ref La), some (.int n), some (.ref W), z4, z5, z6, z7, z8, z9])
        ⟨Fr.refl _ _, ⟨0, w5, by omega⟩, z4, z5, z6, z7, z8, z9, rfl⟩ ?_ ?_
      · rintro k σ H6 hk ⟨f6, ⟨c6, w6, hc6⟩, y4, y5, y6, y7, y8, y9, rfl⟩
        have hc60 := w6.1
        have ek : (0 : Int) + (k : Nat) = (k : Nat) := by omega
        rw [ek]
        refine ⟨.ref W, rfl, .int k, rfl, W, k, c6, rfl, w6, hk, by omega, fun x hx hxl hxo H7 c7 f7 w7 h7 h8 => ?_⟩
        refine ⟨.str x, rfl, .ref W, rfl, .str x, rfl, W, x, c7, rfl, w7, hxl, hxo, by omega, fun v1 H8 c8 nv1 t1 f8 w8 h9 h10 => ?_⟩
        refine ⟨.ref W, rfl, .str x, rfl, W, x, c8, rfl, w8, hxl, hxo, by omega, fun v2 H9 c9 nv2 t2 f9 w9 h11 h12 => ?_⟩
        refine ⟨(by show 3 ≤ sizeLine; decide), fun p3 n3 => ?_⟩
        have s10 := same_new (o := .lst [V.str x, v1, v2]) n3
        have h10' : (upd H9 p3 (.lst [V.str x, v1, v2])) p3 = some (.lst [V.str x, v1, v2]) := upd_same
        have f10 : Fr W H5 (upd H9 p3 (.lst [V.str x, v1, v2])) := f6.trans (f7.trans (f8.trans (f9.trans (Fr.new n3))))
        have w10 := w9.same s10
        have t10 : ∀ u ∈ [V.str x, v1, v2], Thing (upd H9 p3 (.lst [V.str x, v1, v2])) u := fun u hu => by
          simp only [List.mem_cons, List.not_mem_nil, or_false] at hu
          rcases hu with rfl | rfl | rfl
          · exact .str x (by omega) hxo
          · exact (t1.fr nv1 f9).same s10
          · exact t2.same s10
        generalize upd H9 p3 (.lst [V.str x, v1, v2]) = H10 at s10 h10' f10 w10 t10 ⊢
        have hL10 : H10 La = some (.lst [V.ref f1, .ref f2, .ref f3, .ref f4, .ref f5]) := (Same.of_fr nW4 s46 f10) _ _ hL4
        refine ⟨p3, rfl, ⟨_, SqL.of h10'⟩, ?_⟩
        refine for_list (K := K) (a := p3) (xs := [V.str x, v1, v2]) (fun i σ H' => Same H10 H' ∧ ∃ z6 z7 z8 z9, σ = [some (.ref a), some (.ref La), some (.int n), some (.ref W), some (.int (k : Nat)), some (.str x), z6, z7, z8, z9])
          ⟨Same.refl _, y6, y7, y8, y9, rfl⟩ (fun i σ H' _ I => I.1.seq (SqL.of h10')) ?_ ?_
        · rintro j u σ H11 hj ⟨s11, x6, x7, x8, x9, rfl⟩
          have tu := t10 u (List.mem_of_getElem? hj)
          refine ⟨5, rfl, by decide, by decide, ?_⟩
          refine for_range (lo := 0) (n := 5) (fun i σ H' => Same H10 H' ∧ ∃ z7 z8 z9, σ = [some (.ref a), some (.ref La), some (.int n), some (.ref W), some (.int (k : Nat)), some (.str x), some u, z7, z8, z9])
            ⟨s11, x7, x8, x9, rfl⟩ ?_ ?_
          · rintro o σ H12 ho ⟨s12, u7, u8, u9, rfl⟩
            have eo : (0 : Int) + (o : Nat) = (o : Nat) := by omega
            rw [eo]
            obtain ⟨g, hg, hag⟩ := asked o ho
            refine ⟨.ref La, rfl, .int (o : Nat), rfl, La, _, (o : Nat), .ref g, rfl, rfl, SqL.of (s12 _ _ hL10), atI_nat hg, ?_⟩
            refine ⟨g, _, rfl, hag, u, rfl, u, rfl, tu.same s12, fun H13 s13 => ?_⟩
            refine ⟨.bl (evalV (dueF o) u), rfl, ?_⟩
            dsimp only [tCons, tC, tNil]
            refine isi_bool ?_
            refine ⟨_, rfl, iteF ⟨.bl (evalV (dueF o) u), rfl, .int (o : Nat), rfl, u, rfl, o, u, rfl, ho, (tu.same s12).same s13, fun H14 s14 => ⟨rfl, _, rfl, ?_⟩⟩⟩
            rw [decide_eq_true rfl]
            exact iteF ⟨(s12.trans s13).trans s14, _, _, _, rfl⟩
          · rintro σ H12 ⟨s12, u7, u8, u9, rfl⟩
            exact ⟨s12, _, _, _, _, rfl⟩
        · rintro σ H11 ⟨s11, x6, x7, x8, x9, rfl⟩
          refine ⟨.int (k : Nat), rfl, .str x, rfl, k, .str x, rfl, hk, .str x (by omega) hxo, fun H12 s12 => ⟨_, rfl, ?_⟩⟩
          have s102 := s11.trans s12
          have done : Fr W H5 H12 ∧ (∃ c, Wl H12 W c ∧ c ≤ 400 * ((k + 1 : Nat) : Int)) ∧ ∃ z4 z5 z6 z7 z8 z9, ([some (.ref a), some (.ref La), some (.int n), some (.ref W), some (.int (k : Nat)), some (.str x), x6, x7, x8, x9] : L2.St) = [some (.ref a), some (.ref La), some (.int n), some (.ref W), z4, z5, z6, z7, z8, z9] :=
            ⟨f10.trans (Fr.same s102), ⟨c9, w10.same s102, by omega⟩, _, _, _, _, _, _, rfl⟩
          by_cases hk2 : k = 2
          · subst hk2
            refine ite2 (fun _ => ⟨.int 2, rfl, rfl, _, rfl, iteF done⟩) (fun _ => iteF done)
          · have e : evalV (dueF k) (.str x) = true := hx hk2
            rw [e]
            exact iteF (iteF done)
      · rintro σ H6 ⟨f6, _, y4, y5, y6, y7, y8, y9, rfl⟩
        exact ⟨Same.of_fr nW4 s46 f6, _, _, _, _, _, _, _, _, rfl⟩
    · rintro σ H' ⟨_, z2, z3, z4, z5, z6, z7, z8, z9, rfl⟩
      exact q _
end

theorem all_mk {l : PySem.W.OpenLaw} {w : World} {K : PySem.W.Frag} {h : Heap} {mg : Str → Option Value} {fa : Addr} (X : K.In h) (G : h.Ns mainGlobals mg) (hfa : mg "law" = some (.ref fa))
    {f1 f2 f3 f4 f5 f6 f7 f8 f9 f10 f11 f12 f13 f14 f15 f16 f17 f18 f19 f20 f21 f22 : Addr} {od1 an1 od2 an2 od3 an3 od4 an4 od5 an5 od6 an6 od7 an7 od8 an8 od9 an9 od10 an10 od11 an11 od12 an12 od13 an13 od14 an14 od15 an15 od16 an16 od17 an17 od18 an18 od19 an19 od20 an20 od21 an21 od22 an22 : Option Addr} {sl1 sl2 sl3 sl4 sl5 sl6 sl7 sl8 sl9 sl10 sl11 sl12 sl13 sl14 sl15 sl16 sl17 sl18 sl19 sl20 sl21 sl22 : Array (Option Value)} {oc1 kV1 dc1 pm1 cd1 ct1 oc2 kV2 dc2 pm2 cd2 ct2 oc3 kV3 dc3 pm3 cd3 ct3 oc4 kV4 dc4 pm4 cd4 ct4 oc5 kV5 dc5 pm5 cd5 ct5 oc6 kV6 dc6 pm6 cd6 ct6 oc7 kV7 dc7 pm7 cd7 ct7 oc8 kV8 dc8 pm8 cd8 ct8 oc9 kV9 dc9 pm9 cd9 ct9 oc10 kV10 dc10 pm10 cd10 ct10 oc11 kV11 dc11 pm11 cd11 ct11 oc12 kV12 dc12 pm12 cd12 ct12 oc13 kV13 dc13 pm13 cd13 ct13 oc14 kV14 dc14 pm14 cd14 ct14 oc15 kV15 dc15 pm15 cd15 ct15 oc16 kV16 dc16 pm16 cd16 ct16 oc17 kV17 dc17 pm17 cd17 ct17 oc18 kV18 dc18 pm18 cd18 ct18 oc19 kV19 dc19 pm19 cd19 ct19 oc20 kV20 dc20 pm20 cd20 ct20 oc21 kV21 dc21 pm21 cd21 ct21 oc22 kV22 dc22 pm22 cd22 ct22 : Value} {t_HEX_DIGITS : Tok} {t_LETTERS : Tok} {t_REF_SIGNS : Tok} {t_SEGMENT_SIGNS : Tok} {t_LONGEST_WORD : Tok} {t_LONGEST_TEXT : Tok}
    (a1 : PySem.W.nsIn K mainGlobals "is_id" = some (some (.ref f1))) (l1 : K.lookup f1 = some ⟨oc1, od1, .func (PySem.W.fnOf "is_id" "is_id" (C8.fnArgs s_is_id) (C8.fnBody s_is_id) (C8.fnScope s_is_id) .none kV1 dc1 pm1 an1 cd1 ct1), sl1⟩) (c1 : PySem.W.codeIn K cd1 "is_id" = true) (k1 : PySem.W.keepIn K (.ref f1) = true)
    (a2 : PySem.W.nsIn K mainGlobals "is_path" = some (some (.ref f2))) (l2 : K.lookup f2 = some ⟨oc2, od2, .func (PySem.W.fnOf "is_path" "is_path" (C8.fnArgs s_is_path) (C8.fnBody s_is_path) (C8.fnScope s_is_path) .none kV2 dc2 pm2 an2 cd2 ct2), sl2⟩) (c2 : PySem.W.codeIn K cd2 "is_path" = true) (k2 : PySem.W.keepIn K (.ref f2) = true)
    (a3 : PySem.W.nsIn K mainGlobals "is_segment" = some (some (.ref f3))) (l3 : K.lookup f3 = some ⟨oc3, od3, .func (PySem.W.fnOf "is_segment" "is_segment" (C8.fnArgs s_is_segment) (C8.fnBody s_is_segment) (C8.fnScope s_is_segment) .none kV3 dc3 pm3 an3 cd3 ct3), sl3⟩) (c3 : PySem.W.codeIn K cd3 "is_segment" = true) (k3 : PySem.W.keepIn K (.ref f3) = true)
    (a4 : PySem.W.nsIn K mainGlobals "is_ref" = some (some (.ref f4))) (l4 : K.lookup f4 = some ⟨oc4, od4, .func (PySem.W.fnOf "is_ref" "is_ref" (C8.fnArgs s_is_ref) (C8.fnBody s_is_ref) (C8.fnScope s_is_ref) .none kV4 dc4 pm4 an4 cd4 ct4), sl4⟩) (c4 : PySem.W.codeIn K cd4 "is_ref" = true) (k4 : PySem.W.keepIn K (.ref f4) = true)
    (a5 : PySem.W.nsIn K mainGlobals "is_author" = some (some (.ref f5))) (l5 : K.lookup f5 = some ⟨oc5, od5, .func (PySem.W.fnOf "is_author" "is_author" (C8.fnArgs s_is_author) (C8.fnBody s_is_author) (C8.fnScope s_is_author) .none kV5 dc5 pm5 an5 cd5 ct5), sl5⟩) (c5 : PySem.W.codeIn K cd5 "is_author" = true) (k5 : PySem.W.keepIn K (.ref f5) = true)
    (a6 : PySem.W.nsIn K mainGlobals "is_text" = some (some (.ref f6))) (l6 : K.lookup f6 = some ⟨oc6, od6, .func (PySem.W.fnOf "is_text" "is_text" (C8.fnArgs s_is_text) (C8.fnBody s_is_text) (C8.fnScope s_is_text) .none kV6 dc6 pm6 an6 cd6 ct6), sl6⟩) (c6 : PySem.W.codeIn K cd6 "is_text" = true) (k6 : PySem.W.keepIn K (.ref f6) = true)
    (a7 : PySem.W.nsIn K mainGlobals "_is_word" = some (some (.ref f7))) (l7 : K.lookup f7 = some ⟨oc7, od7, .func (PySem.W.fnOf "_is_word" "_is_word" (C8.fnArgs s__is_word) (C8.fnBody s__is_word) (C8.fnScope s__is_word) .none kV7 dc7 pm7 an7 cd7 ct7), sl7⟩) (c7 : PySem.W.codeIn K cd7 "_is_word" = true) (k7 : PySem.W.keepIn K (.ref f7) = true)
    (a8 : PySem.W.nsIn K mainGlobals "_law_cell_at" = some (some (.ref f8))) (l8 : K.lookup f8 = some ⟨oc8, od8, .func (PySem.W.fnOf "_law_cell_at" "_law_cell_at" (C8.fnArgs s_l_cell_at) (C8.fnBody s_l_cell_at) (C8.fnScope s_l_cell_at) .none kV8 dc8 pm8 an8 cd8 ct8), sl8⟩) (c8 : PySem.W.codeIn K cd8 "_law_cell_at" = true) (k8 : PySem.W.keepIn K (.ref f8) = true)
    (a9 : PySem.W.nsIn K mainGlobals "_law_well" = some (some (.ref f9))) (l9 : K.lookup f9 = some ⟨oc9, od9, .func (PySem.W.fnOf "_law_well" "_law_well" (C8.fnArgs s_l_well) (C8.fnBody s_l_well) (C8.fnScope s_l_well) .none kV9 dc9 pm9 an9 cd9 ct9), sl9⟩) (c9 : PySem.W.codeIn K cd9 "_law_well" = true) (k9 : PySem.W.keepIn K (.ref f9) = true)
    (a10 : PySem.W.nsIn K mainGlobals "_law_draw" = some (some (.ref f10))) (l10 : K.lookup f10 = some ⟨oc10, od10, .func (PySem.W.fnOf "_law_draw" "_law_draw" (C8.fnArgs s_l_draw) (C8.fnBody s_l_draw) (C8.fnScope s_l_draw) .none kV10 dc10 pm10 an10 cd10 ct10), sl10⟩) (c10 : PySem.W.codeIn K cd10 "_law_draw" = true) (k10 : PySem.W.keepIn K (.ref f10) = true)
    (a11 : PySem.W.nsIn K mainGlobals "_law_pick" = some (some (.ref f11))) (l11 : K.lookup f11 = some ⟨oc11, od11, .func (PySem.W.fnOf "_law_pick" "_law_pick" (C8.fnArgs s_l_pick) (C8.fnBody s_l_pick) (C8.fnScope s_l_pick) .none kV11 dc11 pm11 an11 cd11 ct11), sl11⟩) (c11 : PySem.W.codeIn K cd11 "_law_pick" = true) (k11 : PySem.W.keepIn K (.ref f11) = true)
    (a12 : PySem.W.nsIn K mainGlobals "_law_signs" = some (some (.ref f12))) (l12 : K.lookup f12 = some ⟨oc12, od12, .func (PySem.W.fnOf "_law_signs" "_law_signs" (C8.fnArgs s_l_signs) (C8.fnBody s_l_signs) (C8.fnScope s_l_signs) .none kV12 dc12 pm12 an12 cd12 ct12), sl12⟩) (c12 : PySem.W.codeIn K cd12 "_law_signs" = true) (k12 : PySem.W.keepIn K (.ref f12) = true)
    (a13 : PySem.W.nsIn K mainGlobals "_law_all_signs" = some (some (.ref f13))) (l13 : K.lookup f13 = some ⟨oc13, od13, .func (PySem.W.fnOf "_law_all_signs" "_law_all_signs" (C8.fnArgs s_l_all_signs) (C8.fnBody s_l_all_signs) (C8.fnScope s_l_all_signs) .none kV13 dc13 pm13 an13 cd13 ct13), sl13⟩) (c13 : PySem.W.codeIn K cd13 "_law_all_signs" = true) (k13 : PySem.W.keepIn K (.ref f13) = true)
    (a14 : PySem.W.nsIn K mainGlobals "_law_segment" = some (some (.ref f14))) (l14 : K.lookup f14 = some ⟨oc14, od14, .func (PySem.W.fnOf "_law_segment" "_law_segment" (C8.fnArgs s_l_segment) (C8.fnBody s_l_segment) (C8.fnScope s_l_segment) .none kV14 dc14 pm14 an14 cd14 ct14), sl14⟩) (c14 : PySem.W.codeIn K cd14 "_law_segment" = true) (k14 : PySem.W.keepIn K (.ref f14) = true)
    (a15 : PySem.W.nsIn K mainGlobals "_law_path" = some (some (.ref f15))) (l15 : K.lookup f15 = some ⟨oc15, od15, .func (PySem.W.fnOf "_law_path" "_law_path" (C8.fnArgs s_l_path) (C8.fnBody s_l_path) (C8.fnScope s_l_path) .none kV15 dc15 pm15 an15 cd15 ct15), sl15⟩) (c15 : PySem.W.codeIn K cd15 "_law_path" = true) (k15 : PySem.W.keepIn K (.ref f15) = true)
    (a16 : PySem.W.nsIn K mainGlobals "_law_text" = some (some (.ref f16))) (l16 : K.lookup f16 = some ⟨oc16, od16, .func (PySem.W.fnOf "_law_text" "_law_text" (C8.fnArgs s_l_text) (C8.fnBody s_l_text) (C8.fnScope s_l_text) .none kV16 dc16 pm16 an16 cd16 ct16), sl16⟩) (c16 : PySem.W.codeIn K cd16 "_law_text" = true) (k16 : PySem.W.keepIn K (.ref f16) = true)
    (a17 : PySem.W.nsIn K mainGlobals "_law_id" = some (some (.ref f17))) (l17 : K.lookup f17 = some ⟨oc17, od17, .func (PySem.W.fnOf "_law_id" "_law_id" (C8.fnArgs s_l_id) (C8.fnBody s_l_id) (C8.fnScope s_l_id) .none kV17 dc17 pm17 an17 cd17 ct17), sl17⟩) (c17 : PySem.W.codeIn K cd17 "_law_id" = true) (k17 : PySem.W.keepIn K (.ref f17) = true)
    (a18 : PySem.W.nsIn K mainGlobals "_law_only" = some (some (.ref f18))) (l18 : K.lookup f18 = some ⟨oc18, od18, .func (PySem.W.fnOf "_law_only" "_law_only" (C8.fnArgs s_l_only) (C8.fnBody s_l_only) (C8.fnScope s_l_only) .none kV18 dc18 pm18 an18 cd18 ct18), sl18⟩) (c18 : PySem.W.codeIn K cd18 "_law_only" = true) (k18 : PySem.W.keepIn K (.ref f18) = true)
    (a19 : PySem.W.nsIn K mainGlobals "_law_due" = some (some (.ref f19))) (l19 : K.lookup f19 = some ⟨oc19, od19, .func (PySem.W.fnOf "_law_due" "_law_due" (C8.fnArgs s_l_due) (C8.fnBody s_l_due) (C8.fnScope s_l_due) .none kV19 dc19 pm19 an19 cd19 ct19), sl19⟩) (c19 : PySem.W.codeIn K cd19 "_law_due" = true) (k19 : PySem.W.keepIn K (.ref f19) = true)
    (a20 : PySem.W.nsIn K mainGlobals "_law_good" = some (some (.ref f20))) (l20 : K.lookup f20 = some ⟨oc20, od20, .func (PySem.W.fnOf "_law_good" "_law_good" (C8.fnArgs s_l_good) (C8.fnBody s_l_good) (C8.fnScope s_l_good) .none kV20 dc20 pm20 an20 cd20 ct20), sl20⟩) (c20 : PySem.W.codeIn K cd20 "_law_good" = true) (k20 : PySem.W.keepIn K (.ref f20) = true)
    (a21 : PySem.W.nsIn K mainGlobals "_law_bent" = some (some (.ref f21))) (l21 : K.lookup f21 = some ⟨oc21, od21, .func (PySem.W.fnOf "_law_bent" "_law_bent" (C8.fnArgs s_l_bent) (C8.fnBody s_l_bent) (C8.fnScope s_l_bent) .none kV21 dc21 pm21 an21 cd21 ct21), sl21⟩) (c21 : PySem.W.codeIn K cd21 "_law_bent" = true) (k21 : PySem.W.keepIn K (.ref f21) = true)
    (a22 : PySem.W.nsIn K mainGlobals "law" = some (some (.ref f22))) (l22 : K.lookup f22 = some ⟨oc22, od22, .func (PySem.W.fnOf "law" "law" (C8.fnArgs s_law) (C8.fnBody s_law) (C8.fnScope s_law) .none kV22 dc22 pm22 an22 cd22 ct22), sl22⟩) (c22 : PySem.W.codeIn K cd22 "law" = true) (k22 : PySem.W.keepIn K (.ref f22) = true)
    (z_all : PySem.W.nsIn K mainGlobals "all" = some none)
    (z_bool : PySem.W.nsIn K mainGlobals "bool" = some none)
    (z_int : PySem.W.nsIn K mainGlobals "int" = some none)
    (z_isinstance : PySem.W.nsIn K mainGlobals "isinstance" = some none)
    (z_len : PySem.W.nsIn K mainGlobals "len" = some none)
    (z_min : PySem.W.nsIn K mainGlobals "min" = some none)
    (z_range : PySem.W.nsIn K mainGlobals "range" = some none)
    (z_str : PySem.W.nsIn K mainGlobals "str" = some none)
    (g_HEX_DIGITS : PySem.W.nsIn K mainGlobals "HEX_DIGITS" = some (some (.str (Str.ofString "0123456789abcdef") t_HEX_DIGITS)))
    (g_LETTERS : PySem.W.nsIn K mainGlobals "LETTERS" = some (some (.str (Str.ofString "abcdefghijklmnopqrstuvwxyz") t_LETTERS)))
    (g_REF_SIGNS : PySem.W.nsIn K mainGlobals "REF_SIGNS" = some (some (.str (Str.ofString "abcdefghijklmnopqrstuvwxyz0123456789-") t_REF_SIGNS)))
    (g_SEGMENT_SIGNS : PySem.W.nsIn K mainGlobals "SEGMENT_SIGNS" = some (some (.str (Str.ofString "abcdefghijklmnopqrstuvwxyz0123456789._-") t_SEGMENT_SIGNS)))
    (g_LONGEST_WORD : PySem.W.nsIn K mainGlobals "LONGEST_WORD" = some (some (.int 12 t_LONGEST_WORD)))
    (g_LONGEST_TEXT : PySem.W.nsIn K mainGlobals "LONGEST_TEXT" = some (some (.int 2000 t_LONGEST_TEXT)))
    : ∃ fd : FuncData, (∀ (s : Shared) (v : Value), BindsTo s fd ⟨[v], []⟩ [("_law_script", v)]) ∧ ∀ base : Heap, K.In base → base.Ns mainGlobals mg → FnOk l.prog w K mg base C8.CX0 6 fa fd ["_law_script"] (spLaw K) := by
  have e := hfa.symm.trans (PySem.W.mg_of X G a22)
  cases e
  have T : Top K mg := {
    d_is_id := ⟨_, _, ⟨⟨⟨_, _, _, _, _, _, _, _, _, _, rfl, l1, c1⟩⟩, PySem.W.mg_of X G a1, k1⟩, rfl⟩
    d_is_path := ⟨_, _, ⟨⟨⟨_, _, _, _, _, _, _, _, _, _, rfl, l2, c2⟩⟩, PySem.W.mg_of X G a2, k2⟩, rfl⟩
    d_is_segment := ⟨_, _, ⟨⟨⟨_, _, _, _, _, _, _, _, _, _, rfl, l3, c3⟩⟩, PySem.W.mg_of X G a3, k3⟩, rfl⟩
    d_is_ref := ⟨_, _, ⟨⟨⟨_, _, _, _, _, _, _, _, _, _, rfl, l4, c4⟩⟩, PySem.W.mg_of X G a4, k4⟩, rfl⟩
    d_is_author := ⟨_, _, ⟨⟨⟨_, _, _, _, _, _, _, _, _, _, rfl, l5, c5⟩⟩, PySem.W.mg_of X G a5, k5⟩, rfl⟩
    d_is_text := ⟨_, _, ⟨⟨⟨_, _, _, _, _, _, _, _, _, _, rfl, l6, c6⟩⟩, PySem.W.mg_of X G a6, k6⟩, rfl⟩
    d__is_word := ⟨_, _, ⟨⟨⟨_, _, _, _, _, _, _, _, _, _, rfl, l7, c7⟩⟩, PySem.W.mg_of X G a7, k7⟩, rfl⟩
    d_l_cell_at := ⟨_, _, ⟨⟨⟨_, _, _, _, _, _, _, _, _, _, rfl, l8, c8⟩⟩, PySem.W.mg_of X G a8, k8⟩, rfl⟩
    d_l_well := ⟨_, _, ⟨⟨⟨_, _, _, _, _, _, _, _, _, _, rfl, l9, c9⟩⟩, PySem.W.mg_of X G a9, k9⟩, rfl⟩
    d_l_draw := ⟨_, _, ⟨⟨⟨_, _, _, _, _, _, _, _, _, _, rfl, l10, c10⟩⟩, PySem.W.mg_of X G a10, k10⟩, rfl⟩
    d_l_pick := ⟨_, _, ⟨⟨⟨_, _, _, _, _, _, _, _, _, _, rfl, l11, c11⟩⟩, PySem.W.mg_of X G a11, k11⟩, rfl⟩
    d_l_signs := ⟨_, _, ⟨⟨⟨_, _, _, _, _, _, _, _, _, _, rfl, l12, c12⟩⟩, PySem.W.mg_of X G a12, k12⟩, rfl⟩
    d_l_all_signs := ⟨_, _, ⟨⟨⟨_, _, _, _, _, _, _, _, _, _, rfl, l13, c13⟩⟩, PySem.W.mg_of X G a13, k13⟩, rfl⟩
    d_l_segment := ⟨_, _, ⟨⟨⟨_, _, _, _, _, _, _, _, _, _, rfl, l14, c14⟩⟩, PySem.W.mg_of X G a14, k14⟩, rfl⟩
    d_l_path := ⟨_, _, ⟨⟨⟨_, _, _, _, _, _, _, _, _, _, rfl, l15, c15⟩⟩, PySem.W.mg_of X G a15, k15⟩, rfl⟩
    d_l_text := ⟨_, _, ⟨⟨⟨_, _, _, _, _, _, _, _, _, _, rfl, l16, c16⟩⟩, PySem.W.mg_of X G a16, k16⟩, rfl⟩
    d_l_id := ⟨_, _, ⟨⟨⟨_, _, _, _, _, _, _, _, _, _, rfl, l17, c17⟩⟩, PySem.W.mg_of X G a17, k17⟩, rfl⟩
    d_l_only := ⟨_, _, ⟨⟨⟨_, _, _, _, _, _, _, _, _, _, rfl, l18, c18⟩⟩, PySem.W.mg_of X G a18, k18⟩, rfl⟩
    d_l_due := ⟨_, _, ⟨⟨⟨_, _, _, _, _, _, _, _, _, _, rfl, l19, c19⟩⟩, PySem.W.mg_of X G a19, k19⟩, rfl⟩
    d_l_good := ⟨_, _, ⟨⟨⟨_, _, _, _, _, _, _, _, _, _, rfl, l20, c20⟩⟩, PySem.W.mg_of X G a20, k20⟩, rfl⟩
    d_l_bent := ⟨_, _, ⟨⟨⟨_, _, _, _, _, _, _, _, _, _, rfl, l21, c21⟩⟩, PySem.W.mg_of X G a21, k21⟩, rfl⟩
    d_law := ⟨_, _, ⟨⟨⟨_, _, _, _, _, _, _, _, _, _, rfl, l22, c22⟩⟩, PySem.W.mg_of X G a22, k22⟩, rfl⟩
    z_all := PySem.W.mg_none_of X G z_all
    z_bool := PySem.W.mg_none_of X G z_bool
    z_int := PySem.W.mg_none_of X G z_int
    z_isinstance := PySem.W.mg_none_of X G z_isinstance
    z_len := PySem.W.mg_none_of X G z_len
    z_min := PySem.W.mg_none_of X G z_min
    z_range := PySem.W.mg_none_of X G z_range
    z_str := PySem.W.mg_none_of X G z_str
    g_HEX_DIGITS := ⟨_, PySem.W.mg_of X G g_HEX_DIGITS, ⟨_, rfl⟩⟩
    g_LETTERS := ⟨_, PySem.W.mg_of X G g_LETTERS, ⟨_, rfl⟩⟩
    g_REF_SIGNS := ⟨_, PySem.W.mg_of X G g_REF_SIGNS, ⟨_, rfl⟩⟩
    g_SEGMENT_SIGNS := ⟨_, PySem.W.mg_of X G g_SEGMENT_SIGNS, ⟨_, rfl⟩⟩
    g_LONGEST_WORD := ⟨_, PySem.W.mg_of X G g_LONGEST_WORD, ⟨_, rfl⟩⟩
    g_LONGEST_TEXT := ⟨_, PySem.W.mg_of X G g_LONGEST_TEXT, ⟨_, rfl⟩⟩ }
  exact ⟨PySem.W.fnOf "law" "law" (C8.fnArgs s_law) (C8.fnBody s_law) (C8.fnScope s_law) .none kV22 dc22 pm22 an22 cd22 ct22, fun s v => .of_eq rfl, fun base _ _ => ok_law T ⟨⟨_, _, _, _, _, _, _, _, _, _, rfl, l22, c22⟩⟩⟩
end Fk
open PySem PySem.W PyProof.Rows
set_option maxHeartbeats 0 in
theorem PySem.Challenge.cw_forkhaul_k01_words_holds : PySem.Challenge.rw_forkhaul_k01_words.Holds := by
  w_on; o_law; k_head; (case hw => w_witness2)
  k_fill
  refine L2.walk_of (l := PySem.Challenge.rw_forkhaul_k01_words) (n := 63) (k := 6) (x := "_law_script") (CX := fun _ => C8.CX0) (sp := fun w => Fk.spLaw _) rfl (by decide) rfl ⟨rfl, by decide, by decide⟩ (fun w h Y => PySem.W.kIn_of Y) ?F (fun _ _ a ns hl _ hS => ⟨a, ns, rfl, hS, hl, fun _ => rfl⟩) (fun _ _ _ _ _ h => h)
  case F =>
    intro w mg fa h KX G hmg
    refine' Fk.all_mk KX G hmg ?a1 ?l1 ?c1 ?k1 ?a2 ?l2 ?c2 ?k2 ?a3 ?l3 ?c3 ?k3 ?a4 ?l4 ?c4 ?k4 ?a5 ?l5 ?c5 ?k5 ?a6 ?l6 ?c6 ?k6 ?a7 ?l7 ?c7 ?k7 ?a8 ?l8 ?c8 ?k8 ?a9 ?l9 ?c9 ?k9 ?a10 ?l10 ?c10 ?k10 ?a11 ?l11 ?c11 ?k11 ?a12 ?l12 ?c12 ?k12 ?a13 ?l13 ?c13 ?k13 ?a14 ?l14 ?c14 ?k14 ?a15 ?l15 ?c15 ?k15 ?a16 ?l16 ?c16 ?k16 ?a17 ?l17 ?c17 ?k17 ?a18 ?l18 ?c18 ?k18 ?a19 ?l19 ?c19 ?k19 ?a20 ?l20 ?c20 ?k20 ?a21 ?l21 ?c21 ?k21 ?a22 ?l22 ?c22 ?k22 ?z_all ?z_bool ?z_int ?z_isinstance ?z_len ?z_min ?z_range ?z_str ?g_HEX_DIGITS ?g_LETTERS ?g_REF_SIGNS ?g_SEGMENT_SIGNS ?g_LONGEST_WORD ?g_LONGEST_TEXT
    (case a1 => k_is); (case l1 => k_is); (case c1 => k_is); (case k1 => k_is); (case a2 => k_is); (case l2 => k_is); (case c2 => k_is); (case k2 => k_is); (case a3 => k_is); (case l3 => k_is); (case c3 => k_is); (case k3 => k_is); (case a4 => k_is); (case l4 => k_is); (case c4 => k_is); (case k4 => k_is); (case a5 => k_is); (case l5 => k_is); (case c5 => k_is); (case k5 => k_is); (case a6 => k_is); (case l6 => k_is); (case c6 => k_is); (case k6 => k_is); (case a7 => k_is); (case l7 => k_is); (case c7 => k_is); (case k7 => k_is); (case a8 => k_is); (case l8 => k_is); (case c8 => k_is); (case k8 => k_is); (case a9 => k_is); (case l9 => k_is); (case c9 => k_is); (case k9 => k_is); (case a10 => k_is); (case l10 => k_is); (case c10 => k_is); (case k10 => k_is); (case a11 => k_is); (case l11 => k_is); (case c11 => k_is); (case k11 => k_is); (case a12 => k_is); (case l12 => k_is); (case c12 => k_is); (case k12 => k_is); (case a13 => k_is); (case l13 => k_is); (case c13 => k_is); (case k13 => k_is); (case a14 => k_is); (case l14 => k_is); (case c14 => k_is); (case k14 => k_is); (case a15 => k_is); (case l15 => k_is); (case c15 => k_is); (case k15 => k_is); (case a16 => k_is); (case l16 => k_is); (case c16 => k_is); (case k16 => k_is); (case a17 => k_is); (case l17 => k_is); (case c17 => k_is); (case k17 => k_is); (case a18 => k_is); (case l18 => k_is); (case c18 => k_is); (case k18 => k_is); (case a19 => k_is); (case l19 => k_is); (case c19 => k_is); (case k19 => k_is); (case a20 => k_is); (case l20 => k_is); (case c20 => k_is); (case k20 => k_is); (case a21 => k_is); (case l21 => k_is); (case c21 => k_is); (case k21 => k_is); (case a22 => k_is); (case l22 => k_is); (case c22 => k_is); (case k22 => k_is); (case z_all => k_is); (case z_bool => k_is); (case z_int => k_is); (case z_isinstance => k_is); (case z_len => k_is); (case z_min => k_is); (case z_range => k_is); (case z_str => k_is); (case g_HEX_DIGITS => k_is); (case g_LETTERS => k_is); (case g_REF_SIGNS => k_is); (case g_SEGMENT_SIGNS => k_is); (case g_LONGEST_WORD => k_is); (case g_LONGEST_TEXT => k_is)

import PyProof.Rows.All
import Wide.All
import OpenK.AllK
import Wide.FinOn
import HandS.Base
import HandS.Call
import HandS.List
import HandS.Comp
import HandS.Ends
import HandS.Dict
import HandS.Iter
import HandS.Words
import HandS.Wide
import PyProof.ReprRoads
import HandS.ForMost
import HandS.IsInst
import HandS.Walk
import PyProof.ReprLen
import PyProof.StrLawsRepr
import HandS.ClsMeth
import HandS.Property
import HandS.OwnEq
import HandS.DictComp
import HandS.Conv
import HandS.FStr
import PyProof.InstNe
import HandS.Text
import KE.KDictList
import HandS.Zip
import KE.GoesNew
import KE.GoesEnum
import PyProof.NeKinds
import KE.GoesEnumKw
import PyProof.Rows.CallKwBuiltin
import PyProof.DictFindH
import PyProof.TupleKey
import KE.DataEq
import HandS.SetBool
import HandS.NoneIn
import HandS.ExcOwn
import HandS.ExcInit
import HandS.Exc
import HandS.ExcValue
import HandS.ExcField
import HandS.ExcIs
import KE.KExcIs
import HandS.WordsExc
import HandS.More
import HandS.Deep
import KE.DataFind
import HandS.MakeKwOnly
import PySem.Challenge.RW_hearpurse_k01_forests_made
set_option Elab.async false
set_option linter.all false
set_option maxRecDepth 100000
set_option maxHeartbeats 4000000
namespace Gn
open PySem PySem.Spec PyProof.Rows L2

/-! ## heaps -/
theorem new_same {H : Hp} {p : Addr} {o : HO} (h : H p = none) : ∀ b u, H b = some u → upd H p o b = some u := by
  intro b u e
  rw [upd_ne (ne_of_none e h)]
  exact e
/-- the heap less two objects: those of the draws -/
def Rs (d g : Addr) (H : Hp) : Hp := fun a => if a = d ∨ a = g then none else H a
section
variable {d g a p : Addr} {H H' H2 : Hp} {o u : HO}
theorem rs_of (h : Rs d g H a = some o) : H a = some o ∧ a ≠ d ∧ a ≠ g := by
  unfold Rs at h
  by_cases c : a = d ∨ a = g
  · rw [if_pos c] at h; cases h
  · rw [if_neg c] at h
    exact ⟨h, fun e => c (.inl e), fun e => c (.inr e)⟩
theorem rs_to (h : H a = some o) (h1 : a ≠ d) (h2 : a ≠ g) : Rs d g H a = some o := by
  unfold Rs
  rw [if_neg (fun c => c.elim h1 h2)]
  exact h
/-- all that is no draw's stands -/
def Kp (d g : Addr) (H H' : Hp) : Prop := ∀ a o, a ≠ d → a ≠ g → H a = some o → H' a = some o
theorem Kp.refl : Kp d g H H := fun _ _ _ _ e => e
theorem Kp.trans (h : Kp d g H H') (k : Kp d g H' H2) : Kp d g H H2 := fun a o n1 n2 e => k a o n1 n2 (h a o n1 n2 e)
theorem Kp.new (hp : H p = none) : Kp d g H (upd H p o) := fun a u _ _ e => new_same hp a u e
theorem Kp.of (h : ∀ a o, H a = some o → H' a = some o) : Kp d g H H' := fun a o _ _ e => h a o e
theorem Kp.at_d : Kp d g H (upd H d o) := fun a u n1 _ e => by rw [upd_ne n1]; exact e
theorem Kp.at_g : Kp d g H (upd H g o) := fun a u _ n2 e => by rw [upd_ne n2]; exact e
end

/-! ## the draws' state -/
def kG : Key := Sum.inr ("great" : Str)
def kC : Key := Sum.inr ("cells" : Str)
def kL : Key := Sum.inr ("left" : Str)
def kT : Key := Sum.inr ("turn" : Str)
def dk (g c : Addr) (l t : Int) : List (Key × V) := [(kG, .ref g), (kC, .ref c), (kL, .int l), (kT, .int t)]
section
variable {g c : Addr} {l t z : Int} {H : Hp} {d : Addr}
theorem nGC : ¬ kG = kC := by decide +kernel
theorem nGL : ¬ kG = kL := by decide +kernel
theorem nGT : ¬ kG = kT := by decide +kernel
theorem nCL : ¬ kC = kL := by decide +kernel
theorem nCT : ¬ kC = kT := by decide +kernel
theorem nLT : ¬ kL = kT := by decide +kernel
theorem dk_g : valV (dk g c l t) kG = some (.ref g) := valV_pos rfl
theorem dk_c : valV (dk g c l t) kC = some (.ref c) := (valV_neg nGC).trans (valV_pos rfl)
theorem dk_l : valV (dk g c l t) kL = some (.int l) := (valV_neg nGL).trans ((valV_neg nCL).trans (valV_pos rfl))
theorem dk_t : valV (dk g c l t) kT = some (.int t) := (valV_neg nGT).trans ((valV_neg nCT).trans ((valV_neg nLT).trans (valV_pos rfl)))
theorem get_g (h : H d = some (.dK (dk g c l t))) : DGet H d (.str "great") (some (.ref g)) := by
  rw [← dk_g (g := g) (c := c) (l := l) (t := t)]
  exact DGet.k (k := kG) h
theorem get_c (h : H d = some (.dK (dk g c l t))) : DGet H d (.str "cells") (some (.ref c)) := by
  rw [← dk_c (g := g) (c := c) (l := l) (t := t)]
  exact DGet.k (k := kC) h
theorem get_l (h : H d = some (.dK (dk g c l t))) : DGet H d (.str "left") (some (.int l)) := by
  rw [← dk_l (g := g) (c := c) (l := l) (t := t)]
  exact DGet.k (k := kL) h
theorem get_t (h : H d = some (.dK (dk g c l t))) : DGet H d (.str "turn") (some (.int t)) := by
  rw [← dk_t (g := g) (c := c) (l := l) (t := t)]
  exact DGet.k (k := kT) h
theorem put_dk_l : putK (dk g c l t) kL (.int z) = dk g c z t := by
  unfold putK dk
  simp [nGL, nCL, Ne.symm nLT, (show ¬ kT = kL from fun e => nLT e.symm)]
theorem put_dk_t : putK (dk g c l t) kT (.int z) = dk g c l z := by
  unfold putK dk
  simp [nGT, nCT, nLT]
theorem put_l (h : H d = some (.dK (dk g c l t))) : DPut H d (.str "left") (.int z) (upd H d (.dK (dk g c z t))) := by
  rw [← put_dk_l (l := l)]
  exact DPut.k (k := kL) h (by show 4 < sizeLine; decide)
theorem put_t (h : H d = some (.dK (dk g c l t))) : DPut H d (.str "turn") (.int z) (upd H d (.dK (dk g c l z))) := by
  rw [← put_dk_t (t := t)]
  exact DPut.k (k := kT) h (by show 4 < sizeLine; decide)
theorem merge_dk : mergeK [] (dk g c l t) = dk g c l t := by
  have e1 : putK [] kG (.ref g) = [(kG, V.ref g)] := rfl
  have e2 : putK [(kG, V.ref g)] kC (.ref c) = [(kG, V.ref g), (kC, V.ref c)] := by unfold putK; simp [nGC]
  have e3 : putK [(kG, V.ref g), (kC, V.ref c)] kL (.int l) = [(kG, V.ref g), (kC, V.ref c), (kL, V.int l)] := by unfold putK; simp [nGL, nCL]
  have e4 : putK [(kG, V.ref g), (kC, V.ref c), (kL, V.int l)] kT (.int t) = [(kG, V.ref g), (kC, V.ref c), (kL, V.int l), (kT, V.int t)] := by unfold putK; simp [nGT, nCT, nLT]
  unfold mergeK dk
  simp only [List.foldl_cons, List.foldl_nil, e1, e2, e3, e4]
end
/-- the draws' dict at d, its lists at g and c; at most b turns were mixed -/
structure Dw (ns : List Int) (d g c : Addr) (b : Nat) (H : Hp) : Prop where
  st : ∃ (gs : List Int) (l t : Int), H d = some (.dK (dk g c l t)) ∧ H g = some (.lst (gs.map V.int)) ∧ 0 ≤ t ∧ t ≤ b
  cl : H c = some (.lst (ns.map V.int))
  ncd : c ≠ d
  ncg : c ≠ g
section
variable {ns : List Int} {d g c p : Addr} {b b' : Nat} {H H' : Hp} {o : HO}
theorem Dw.mono (h : Dw ns d g c b H) (k : b ≤ b') : Dw ns d g c b' H := by
  obtain ⟨⟨gs, l, t, h1, h2, h3, h4⟩, h5, h6, h7⟩ := h
  exact ⟨⟨gs, l, t, h1, h2, h3, by omega⟩, h5, h6, h7⟩
/-- what is new leaves them -/
theorem Dw.keep (h : Dw ns d g c b H) (k : ∀ a o, H a = some o → H' a = some o) : Dw ns d g c b H' := by
  obtain ⟨⟨gs, l, t, h1, h2, h3, h4⟩, h5, h6, h7⟩ := h
  exact ⟨⟨gs, l, t, k _ _ h1, k _ _ h2, h3, h4⟩, k _ _ h5, h6, h7⟩
theorem Dw.new (h : Dw ns d g c b H) (hp : H p = none) : Dw ns d g c b (upd H p o) := h.keep fun a u e => new_same hp a u e
theorem Dw.nd (h : Dw ns d g c b H) (hp : H p = none) : p ≠ d := by
  obtain ⟨⟨gs, l, t, h1, h2, h3, h4⟩, h5, h6, h7⟩ := h
  exact fun e => ne_of_none h1 hp e.symm
theorem Dw.ng (h : Dw ns d g c b H) (hp : H p = none) : p ≠ g := by
  obtain ⟨⟨gs, l, t, h1, h2, h3, h4⟩, h5, h6, h7⟩ := h
  exact fun e => ne_of_none h2 hp e.symm
theorem Dw.some (h : Dw ns d g c b H) : (∃ o, H d = some o) ∧ ∃ o, H g = some o := by
  obtain ⟨⟨gs, l, t, h1, h2, h3, h4⟩, h5, h6, h7⟩ := h
  exact ⟨⟨_, h1⟩, ⟨_, h2⟩⟩
/-- what is new behind a draw was new ahead of it -/
theorem Dw.free (h : Dw ns d g c b H) (h' : Dw ns d g c b' H') (k : Kp d g H H') (hp : H' p = none) : H p = none := by
  cases e : H p with
  | none => rfl
  | some u =>
    have q := k p u (h'.nd hp) (h'.ng hp) e
    rw [hp] at q
    cases q
theorem Dw.put (h : Dw ns d g c b H) (hp : H p = Option.some u) (n1 : p ≠ d) (n2 : p ≠ g) (n3 : p ≠ c) : Dw ns d g c b (upd H p o) := by
  obtain ⟨⟨gs, l, t, h1, h2, h3, h4⟩, h5, h6, h7⟩ := h
  exact ⟨⟨gs, l, t, by rw [upd_ne n1.symm]; exact h1, by rw [upd_ne n2.symm]; exact h2, h3, h4⟩, by rw [upd_ne n3.symm]; exact h5, h6, h7⟩
end
/-! ## small words of arithmetic -/
theorem fmod_lo {a b : Int} (h : 0 < b) : 0 ≤ a.fmod b := by rw [Int.fmod_eq_emod_of_nonneg a (by omega)]; exact Int.emod_nonneg a (by omega)
theorem fmod_hi {a b : Int} (h : 0 < b) : a.fmod b < b := by rw [Int.fmod_eq_emod_of_nonneg a (by omega)]; exact Int.emod_lt_of_pos a h
theorem at_int {xs : List V} {r : Int} (h0 : 0 ≤ r) (h1 : r < (xs.length : Int)) : ∃ v, atI xs r = some v ∧ v ∈ xs := by
  have k : r.toNat < xs.length := by omega
  have e : r = ((r.toNat : Nat) : Int) := by omega
  have q : atI xs ((r.toNat : Nat) : Int) = some xs[r.toNat] := atI_nat (List.getElem?_eq_getElem k)
  rw [← e] at q
  exact ⟨_, q, List.getElem_mem k⟩
/-! ## lists of flat data, by == -/
section
variable {K : PySem.W.Frag} {H : Hp}
theorem dp_ints : ∀ ns : List Int, DpAll K H (ns.map V.int) (ns.map PyData.int)
  | [] => .nil
  | n :: r => .cons (.int n) (dp_ints r)
theorem dp_bools : ∀ ns : List Bool, DpAll K H (ns.map V.bl) (ns.map PyData.bool)
  | [] => .nil
  | n :: r => .cons (.bl n) (dp_bools r)
theorem dp_strs : ∀ ns : List Str, DpAll K H (ns.map V.str) (ns.map PyData.str)
  | [] => .nil
  | n :: r => .cons (.str n) (dp_strs r)
/-- no list, tuple or dict -/
def flatD : PyData → Bool
  | .none => true
  | .bool _ => true
  | .int _ => true
  | .str x => PyData.strOk x
  | _ => false
theorem lay_flat {x : PyData} (h : flatD x = true) : x.canLay0 = true ∧ x.depth ≤ 1 := by
  cases x with
  | none => constructor <;> simp [PyData.canLay0, PyData.depth]
  | bool _ => constructor <;> simp [PyData.canLay0, PyData.depth]
  | int _ => constructor <;> simp [PyData.canLay0, PyData.depth]
  | str x =>
    have h' : PyData.strOk x = true := h
    constructor <;> simp [PyData.canLay0, PyData.depth, h']
  | list _ => cases h
  | tuple _ => cases h
  | dict _ => cases h
theorem lay_flats : ∀ {ds : List PyData}, (∀ x ∈ ds, flatD x = true) → PyData.canLayAll0 ds = true ∧ PyData.depthAll ds ≤ 1
  | [], _ => by constructor <;> simp [PyData.canLayAll0, PyData.depthAll]
  | x :: r, h => by
    obtain ⟨a1, a2⟩ := lay_flat (h x (List.mem_cons_self ..))
    obtain ⟨b1, b2⟩ := lay_flats (ds := r) fun y hy => h y (List.mem_cons_of_mem _ hy)
    constructor
    · simp [PyData.canLayAll0, a1, b1]
    · simp only [PyData.depthAll]
      omega
theorem shaped_flats {ds : List PyData} (h : ∀ x ∈ ds, flatD x = true) : SeqAt.shaped (.list ds) = true := by
  obtain ⟨b1, b2⟩ := lay_flats h
  have e : PyData.depth (.list ds) = PyData.depthAll ds + 1 := by simp only [PyData.depth]
  unfold SeqAt.shaped
  rw [e]
  simp only [PyData.canLay0, b1, Bool.true_and, decide_eq_true_eq]
  omega
theorem shaped_ints (ns : List Int) : SeqAt.shaped (.list (ns.map PyData.int)) = true := shaped_flats fun x hx => by
  obtain ⟨n, _, rfl⟩ := List.mem_map.mp hx
  rfl
theorem shaped_bools (ns : List Bool) : SeqAt.shaped (.list (ns.map PyData.bool)) = true := shaped_flats fun x hx => by
  obtain ⟨n, _, rfl⟩ := List.mem_map.mp hx
  rfl
theorem shaped_strs {ns : List Str} (h : ∀ x ∈ ns, PyData.strOk x = true) : SeqAt.shaped (.list (ns.map PyData.str)) = true := shaped_flats fun x hx => by
  obtain ⟨n, hn, rfl⟩ := List.mem_map.mp hx
  exact h n hn
theorem shaped_nil : SeqAt.shaped (.list []) = true := shaped_flats fun x hx => by cases hx
theorem eqv_nil {ds : List PyData} : PyData.eqv (.list ds) (.list []) = ds.isEmpty := by
  cases ds <;> simp [PyData.eqv, PyData.eqvAll]
theorem eqv_bools : ∀ xs ys : List Bool, PyData.eqvAll (xs.map PyData.bool) (ys.map PyData.bool) = decide (xs = ys)
  | [], [] => by simp [PyData.eqvAll]
  | [], _ :: _ => by simp [PyData.eqvAll]
  | _ :: _, [] => by simp [PyData.eqvAll]
  | x :: xs, y :: ys => by
    simp only [List.map_cons, PyData.eqvAll, PyData.eqv, eqv_bools xs ys]
    by_cases h : x = y <;> by_cases k : xs = ys <;> simp [h, k]
end
end Gn

set_option Elab.async false
set_option linter.all false
set_option maxRecDepth 100000
set_option maxHeartbeats 4000000
namespace Lw
open PySem PySem.Spec PyProof.Rows L2 Gn
def top (i : Nat) : Stmt := PySem.Challenge.pw_hearpurse_k01_forests_made.main.body.getD i (.Pass ⟨0, 0, 0, 0⟩)
abbrev sWall : Stmt := top 0
abbrev sName : Stmt := top 9
abbrev sRow : Stmt := top 11
abbrev sWrong : Stmt := top 12
abbrev sRowText : Stmt := top 13
abbrev sBegun : Stmt := top 16
abbrev sMixed : Stmt := top 17
abbrev sTake : Stmt := top 18
abbrev sPick : Stmt := top 19
abbrev sLOrder : Stmt := top 20
abbrev sWords : Stmt := top 21
abbrev sForest : Stmt := top 22
abbrev sLIsName : Stmt := top 23
abbrev sLIsGood : Stmt := top 24
abbrev sLChanged : Stmt := top 25
abbrev sLRefusal : Stmt := top 26
abbrev sLSortedRows : Stmt := top 27
abbrev sLEqualRight : Stmt := top 28
abbrev sLaw : Stmt := top 29
def cBody : Stmt → List Stmt
  | .ClassDef (body := b) .. => b
  | _ => []
def meth (i : Nat) : Stmt := (cBody (top 14)).getD i (.Pass ⟨0, 0, 0, 0⟩)
abbrev sInit : Stmt := meth 1
abbrev sEq : Stmt := meth 2
abbrev sNames : Stmt := meth 3
abbrev sText : Stmt := meth 4
abbrev sAnc : Stmt := meth 5
abbrev sSub : Stmt := meth 6
abbrev sParse : Stmt := meth 7
section
variable {P : Program} {w : World} {K : PySem.W.Frag} {mg : Str → Option Value} {base : Heap}
/-! ### _law_mixed -/
def spMixed (ns : List Int) : Sp := fun vs H Q _ => ∃ (d g c : Addr) (b : Nat), vs = [.ref d] ∧ Dw ns d g c b H ∧ b ≤ 1000000000 ∧
  ∀ (r : Int) (H' : Hp), Dw ns d g c (b + 1) H' → Kp d g H H' → Q (.int r) H'
theorem scMixed : FnScope ["_law_state", "_law_found", "_law_prime", "_law_blend", "_law_cell"] ["_law_state"] (defScope sMixed) := ⟨rfl, rfl, rfl, by decide +kernel, rfl, by decide +kernel, by decide +kernel⟩
def primes : List Int := [2147483629, 2147483587, 2147483579, 2147483563, 2147483549, 2147483543]
theorem prime_of {p : Int} (h : p ∈ primes) : 2000000000 < p ∧ p < 2147483648 := by
  unfold primes at h
  simp only [List.mem_cons, List.not_mem_nil, or_false] at h
  omega
theorem ok_mixed {f : Addr} {fd : FuncData} (ns : List Int) (F : Fun K "_law_mixed" "_law_mixed" sMixed f fd) : FnOk P w K mg base CX0 1 f fd ["_law_state"] (spMixed ns) := by
  refine F.ok scMixed (fun vs H Q E h => ?_) (fun cdv A outer s H vs Q E hr h => ?_)
  · obtain ⟨d, g, c, b, rfl, _⟩ := h
    rfl
  · obtain ⟨d, g, c, b, rfl, D, hb, k⟩ := h
    have hu := hu_of hr
    have nd := scMixed.nd
    refine ⟨_, pss_cons (ps_dput hu (pv 0) pe_str (pe_op op_add (pe_dget hu (pv 0) pe_str (fun _ _ => rfl)) pe_int) rfl)
      (pss_cons (ps_set (i := 1) nd rfl (.inl rfl) pe_int)
      (pss_cons (ps_for PassesOwn.never rfl (pi_list (pe_lst (pa_cons pe_int (pa_cons pe_int (pa_cons pe_int (pa_cons pe_int (pa_cons pe_int (pa_cons pe_int pa_nil)))))))) (pg_name (i := 2) nd rfl (.inl rfl))
        (pss_cons (ps_set (i := 3) nd rfl (.inl rfl) (pe_op op_add (pe_op op_mul pe_int (pe_dget hu (pv 0) pe_str (fun _ _ => rfl))) (pe_op op_fdivN (pv 2) pe_int)))
        (pss_cons (ps_for PassesOwn.never rfl (pi_list (pe_dget hu (pv 0) pe_str (fun _ _ => rfl))) (pg_name (i := 4) nd rfl (.inl rfl))
          (pss_one (ps_set (i := 3) nd rfl (.inl rfl) (pe_op op_modN (pe_op op_add (pe_op op_mul (pv 3) pe_int) (pv 4)) (pv 2)))))
        (pss_one (ps_set (i := 1) nd rfl (.inl rfl) (pe_op op_add (pe_op op_mul (pv 1) pe_int) (pe_op op_modN (pe_op op_pow (pv 3) pe_int) (pv 2))))))))
      (pss_one (ps_ret (pv 1))))), ?_⟩
    obtain ⟨⟨gs, l, t, hd, hg, t0, tb⟩, hc, ncd, ncg⟩ := id D
    have ndg : g ≠ d := ne_of hg hd (by intro z; cases z)
    refine ⟨_, rfl, d, _, rfl, get_t hd, t, 1, rfl, rfl, _, rfl, d, _, rfl, put_t hd, ?_⟩
    generalize hH1 : upd H d (.dK (dk g c l (t + 1))) = H1
    have hd1 : H1 d = some (.dK (dk g c l (t + 1))) := by rw [← hH1, upd_same]
    have hg1 : H1 g = some (.lst (gs.map V.int)) := by rw [← hH1, upd_ne ndg]; exact hg
    have hc1 : H1 c = some (.lst (ns.map V.int)) := by rw [← hH1, upd_ne ncd]; exact hc
    have k1 : Kp d g H H1 := by rw [← hH1]; exact Kp.at_d
    refine ⟨by show 6 ≤ sizeLine; decide, fun p hp => ?_⟩
    have hd2 := new_same (o := .lst (primes.map V.int)) hp _ _ hd1
    have hg2 := new_same (o := .lst (primes.map V.int)) hp _ _ hg1
    have hc2 := new_same (o := .lst (primes.map V.int)) hp _ _ hc1
    refine ⟨p, rfl, ⟨_, SqL.of upd_same⟩, for_list (K := K) (a := p) (xs := primes.map V.int) (fun i σ H' => H' = upd H1 p (.lst (primes.map V.int)) ∧ ∃ (f : Int) (v2 v3 v4 : Option V), σ = [some (.ref d), some (.int f), v2, v3, v4])
      ⟨rfl, 0, none, none, none, rfl⟩ (fun i σ H' _ ⟨e, _⟩ => by rw [e]; exact SqL.of upd_same) ?_ ?_⟩
    · rintro i x σ H' hx ⟨rfl, f, v2, v3, v4, rfl⟩
      obtain ⟨pr, hpr, rfl⟩ : ∃ z : Int, z ∈ primes ∧ x = V.int z := by
        obtain ⟨z, hz, e⟩ := List.mem_map.mp (List.mem_of_getElem? hx)
        exact ⟨z, hz, e.symm⟩
      obtain ⟨p1, p2⟩ := prime_of hpr
      refine ⟨_, rfl, d, _, rfl, get_t hd2, 69997, t + 1, rfl, rfl, .inl ⟨by decide, by decide⟩, _, rfl, pr, 11, rfl, rfl, ⟨by decide, by decide⟩, _, _, rfl, rfl, ?_⟩
      have q0 : 0 ≤ pr.fdiv 11 ∧ pr.fdiv 11 < 2147483648 := by
        rw [Int.fdiv_eq_ediv_of_nonneg pr (by decide)]
        omega
      refine ⟨_, rfl, d, _, rfl, get_c hd2, c, rfl, ⟨_, SqL.of hc2⟩, for_list (K := K) (a := c) (xs := ns.map V.int) (fun i σ H' => H' = upd H1 p (.lst (primes.map V.int)) ∧ ∃ (y : Int) (v4 : Option V), y.natAbs < 2 ^ 64 ∧ σ = [some (.ref d), some (.int f), some (.int pr), some (.int y), v4])
        ⟨rfl, _, v4, ?_, rfl⟩ (fun i σ H' _ ⟨e, _⟩ => by rw [e]; exact SqL.of hc2) ?_ ?_⟩
      · omega
      · rintro j x σ H' hx ⟨rfl, y, v4, hy, rfl⟩
        obtain ⟨z, rfl⟩ : ∃ z : Int, x = V.int z := by
          obtain ⟨z, hz, e⟩ := List.mem_map.mp (List.mem_of_getElem? hx)
          exact ⟨z, e.symm⟩
        refine ⟨_, rfl, y, 48271, rfl, rfl, .inr ⟨by decide, by decide⟩, _, rfl, _, z, rfl, rfl, _, rfl, _, pr, rfl, rfl, (by omega), ?_⟩
        have r1 := fmod_lo (a := y * 48271 + z) (b := pr) (by omega)
        have r2 := fmod_hi (a := y * 48271 + z) (b := pr) (by omega)
        exact ⟨rfl, _, some (.int z), by omega, rfl⟩
      · rintro σ H' ⟨rfl, y, v4, hy, rfl⟩
        refine ⟨_, rfl, f, 2147483647, rfl, rfl, .inr ⟨by decide, by decide⟩, _, rfl, y, 5, rfl, rfl, ⟨by decide, by decide, hy⟩, _, rfl, _, pr, rfl, rfl, (by omega), _, _, rfl, rfl, ?_⟩
        exact ⟨rfl, _, some (.int pr), some (.int y), v4, rfl⟩
    · rintro σ H' ⟨rfl, f, v2, v3, v4, rfl⟩
      refine ⟨_, rfl, ?_⟩
      refine k f _ ⟨⟨gs, l, t + 1, hd2, hg2, by omega, by omega⟩, hc2, ncd, ncg⟩ (k1.trans (Kp.new hp))
theorem z60 {z : Int} (h : z ≤ 10000000000000) (h0 : 0 < z := by assumption) : z.natAbs < 2 ^ 60 := by
  have : (2 : Nat) ^ 60 = 1152921504606846976 := by decide
  rw [this]
  omega
/-! ### _law_take -/
def spTake (ns : List Int) : Sp := fun vs H Q _ => ∃ (d g c : Addr) (b : Nat) (z : Int), vs = [.ref d, .int z] ∧ Dw ns d g c b H ∧ b ≤ 1000000000 ∧ 0 < z ∧ z ≤ 10000000000000 ∧
  ∀ (r : Int) (H' : Hp), 0 ≤ r → r < z → Dw ns d g c (b + 1) H' → Kp d g H H' → Q (.int r) H'
theorem scTake : FnScope ["_law_state", "_law_size", "_law_found"] ["_law_state", "_law_size"] (defScope sTake) := ⟨rfl, rfl, rfl, by decide +kernel, rfl, by decide +kernel, by decide +kernel⟩
theorem ok_take {f fM : Addr} {fd fdM : FuncData} (ns : List Int) (F : Fun K "_law_take" "_law_take" sTake f fd) (GM : FnOk P w K mg base CX0 1 fM fdM ["_law_state"] (spMixed ns)) (bM : Binds K fdM ["_law_state"] []) (kM : PySem.W.keepIn K (.ref fM) = true) (mM : mg "_law_mixed" = some (.ref fM)) :
    FnOk P w K mg base CX0 2 f fd ["_law_state", "_law_size"] (spTake ns) := by
  refine F.ok scTake (fun vs H Q E h => ?_) (fun cdv A outer s H vs Q E hr h => ?_)
  · obtain ⟨d, g, c, b, z, rfl, _⟩ := h
    rfl
  · obtain ⟨d, g, c, b, z, rfl, D, hb, z0, z1, k⟩ := h
    have hu := hu_of hr
    have nd := scTake.nd
    refine ⟨_, pss_cons (ps_if (pt_cmpR op_eq (pe_dget hu (pv 0) pe_str (fun _ _ => rfl)) pe_int (nomark _))
        (pss_one (ps_dput hu (pv 0) pe_str (pe_ifExp (pt_cmpR (op_neD hr.units) (pe_dget hu (pv 0) pe_str (fun _ _ => rfl)) (pe_lst pa_nil) (nomark _))
          (pe_bm PySem.F.plainAttrs_list PySem.F.slot_list_pop PySem.F.type_list_pop mt_popAt (pe_dget hu (pv 0) pe_str (fun _ _ => rfl)) (pa_cons pe_int pa_nil))
          (pe_call GM hr rfl mM kM bM .nil pass0 (pa_cons (pv 0) pa_nil))) rfl)) pss_nil)
      (pss_cons (ps_set (i := 2) nd rfl (.inl rfl) (pe_op op_modN (pe_dget hu (pv 0) pe_str (fun _ _ => rfl)) (pv 1)))
      (pss_cons (ps_dput hu (pv 0) pe_str (pe_op op_fdivW (pe_dget hu (pv 0) pe_str (fun _ _ => rfl)) (pv 1)) rfl)
      (pss_one (ps_ret (pv 2))))), ?_⟩
    -- behind the if: the state with a number left
    have tail : ∀ (H1 : Hp), Dw ns d g c (b + 1) H1 → Kp d g H H1 → tSeq (tAsg (tOp (rI (fun _ j => j ≠ 0) fun i j => .int (i.fmod j)) (tDGet (tVar 0) (tC (.str "left"))) (tVar 1)) (gName 2))
        (tSeq (sDPut (tVar 0) (tC (.str "left")) (tOp (rI CDivW fun i j => .int (i / j)) (tDGet (tVar 0) (tC (.str "left"))) (tVar 1))) (tRet (tVar 2))) { nx := fun _ H' => Q .non H', rt := Q } [some (.ref d), some (.int z), none] H1 := by
      intro H1 D1 k1
      obtain ⟨⟨gs, l, t, hd, hg, t0, tb⟩, hc, ncd, ncg⟩ := id D1
      have ndg : g ≠ d := ne_of hg hd (by intro z; cases z)
      refine ⟨_, rfl, d, _, rfl, get_l hd, _, rfl, l, z, rfl, rfl, (by omega), ?_⟩
      refine ⟨_, rfl, d, _, rfl, get_l hd, _, rfl, l, z, rfl, rfl, wide_div (b := 60) z0 (z60 z1) (by decide) (by decide), _, rfl, d, _, rfl, put_l hd, _, rfl, ?_⟩
      refine k _ _ (fmod_lo z0) (fmod_hi z0) ⟨⟨gs, _, t, upd_same, by rw [upd_ne ndg]; exact hg, t0, tb⟩, by rw [upd_ne ncd]; exact hc, ncd, ncg⟩ (k1.trans Kp.at_d)
    obtain ⟨⟨gs, l, t, hd, hg, t0, tb⟩, hc, ncd, ncg⟩ := id D
    have ndg : g ≠ d := ne_of hg hd (by intro z; cases z)
    refine ⟨_, rfl, d, _, rfl, get_l hd, rfl, _, rfl, ?_⟩
    refine ite2 (fun e => ?_) (fun e => tail H (D.mono (by omega)) Kp.refl)
    refine ⟨_, rfl, d, _, rfl, get_g hd, by show 0 ≤ sizeLine; decide, fun p hp => ?_⟩
    have hd1 := new_same (o := .lst []) hp _ _ hd
    have hg1 := new_same (o := .lst []) hp _ _ hg
    have hc1 := new_same (o := .lst []) hp _ _ hc
    refine ⟨_, _, .lst (SqL.of hg1) (dp_ints gs), .lst (SqL.of upd_same) .nil, shaped_ints gs, shaped_nil, _, rfl, ?_⟩
    rw [eqv_nil]
    cases gs with
    | nil =>
      refine iteF ?_
      refine ⟨_, rfl, d, g, c, b, rfl, D.new hp, hb, fun r H' D' k' => ?_⟩
      obtain ⟨⟨gs, l, t, hd', hg', t0, tb⟩, hc', ncd, ncg⟩ := id D'
      have ndg : g ≠ d := ne_of hg' hd' (by intro z; cases z)
      refine ⟨_, rfl, d, _, rfl, put_l hd', ?_⟩
      exact tail _ ⟨⟨gs, _, t, upd_same, by rw [upd_ne ndg]; exact hg', t0, tb⟩, by rw [upd_ne ncd]; exact hc', ncd, ncg⟩ (((Kp.new hp).trans k').trans Kp.at_d)
    | cons n r =>
      refine iteT ?_
      refine ⟨_, rfl, d, _, rfl, get_g hd1, .inl ⟨rfl, _, SqL.of hg1⟩, g, _, 0, 0, _, rfl, rfl, hg1, by decide, by decide, (ixN_seq (n := (List.map V.int (n :: r)).length) (i := 0) (j := 0) (by simp [ixN])).1, rfl, ?_⟩
      refine ⟨_, rfl, d, _, rfl, put_l (by rw [upd_ne ndg.symm]; exact hd1), ?_⟩
      refine tail _ ⟨⟨r, _, t, upd_same, by rw [upd_ne ndg, upd_same]; rfl, t0, by omega⟩, by rw [upd_ne ncd, upd_ne ncg]; exact hc1, ncd, ncg⟩ (((Kp.new hp).trans Kp.at_g).trans Kp.at_d)
/-! ### _law_pick, out of a list and out of a text -/
theorem scPick : FnScope ["_law_state", "_law_some"] ["_law_state", "_law_some"] (defScope sPick) := ⟨rfl, rfl, rfl, by decide +kernel, rfl, by decide +kernel, by decide +kernel⟩
/-- one of the items of a list, or one sign of a text -/
def spPick (K : PySem.W.Frag) (ns : List Int) : Sp := fun vs H Q _ => ∃ (d g c : Addr) (b : Nat), Dw ns d g c b H ∧ b ≤ 1000000000 ∧
  ((∃ (a : Addr) (xs : List V), vs = [.ref d, .ref a] ∧ H a = some (.lst xs) ∧ a ≠ d ∧ a ≠ g ∧ 0 < xs.length ∧ xs.length ≤ 1000000 ∧
    ∀ (x : V) (H' : Hp), x ∈ xs → Dw ns d g c (b + 1) H' → Kp d g H H' → Q x H') ∨
   (∃ z : Str, vs = [.ref d, .str z] ∧ 0 < z.length ∧ z.length ≤ 1000000 ∧ ∀ (x : Nat) (H' : Hp), x ∈ z.cps.toList → Dw ns d g c (b + 1) H' → Kp d g H H' → Q (.str ⟨#[x]⟩) H'))
theorem ok_pick {f fT : Addr} {fd fdT : FuncData} (ns : List Int) (F : Fun K "_law_pick" "_law_pick" sPick f fd) (GT : FnOk P w K mg base CX0 2 fT fdT ["_law_state", "_law_size"] (spTake ns)) (bT : Binds K fdT ["_law_state", "_law_size"] []) (kT : PySem.W.keepIn K (.ref fT) = true) (mT : mg "_law_take" = some (.ref fT))
    (ml : mg "len" = none) : FnOk P w K mg base CX0 3 f fd ["_law_state", "_law_some"] (spPick K ns) := by
  refine F.ok scPick (fun vs H Q E h => ?_) (fun cdv A outer s H vs Q E hr h => ?_)
  · obtain ⟨d, g, c, b, D, hb, ⟨a, xs, rfl, _⟩ | ⟨z, rfl, _⟩⟩ := h <;> rfl
  · obtain ⟨d, g, c, b, D, hb, h⟩ := h
    have hu := hu_of hr
    have nd := scPick.nd
    refine ⟨_, pss_one (ps_ret (pe_ix ix_seq (pv 1) (pe_call GT hr rfl mT kT bT .nil pass0 (pa_cons (pv 0) (pa_cons (pe_callB call_len rfl ml PySem.boot_len (pa_cons (pv 1) pa_nil)) pa_nil))) (fun _ _ => rfl))), ?_⟩
    rcases h with ⟨a, xs, rfl, ha, nad, nag, h0, h1, k⟩ | ⟨z, rfl, h0, h1, k⟩
    · refine ⟨_, rfl, _, rfl, _, rfl, _, _, rfl, .inl ⟨_, SqL.of ha, rfl⟩, d, g, c, b, _, rfl, D, hb, by omega, by omega, fun r H' r0 r1 D' k' => ?_⟩
      obtain ⟨v, hv, hm⟩ := at_int r0 r1
      exact .inl ⟨a, xs, r, v, rfl, rfl, SqL.of (k' a _ nad nag ha), hv, k v H' hm D' k'⟩
    · refine ⟨_, rfl, _, rfl, _, rfl, _, _, rfl, ⟨by rw [sizeLine_eq]; omega, rfl⟩, d, g, c, b, _, rfl, D, hb, by omega, by omega, fun r H' r0 r1 D' k' => ?_⟩
      have e : r = ((r.toNat : Nat) : Int) := by omega
      have hl : r.toNat < z.cps.toList.length := by
        have : z.cps.toList.length = z.length := by simp [Str.length]
        omega
      have q : atI z.cps.toList ((r.toNat : Nat) : Int) = some z.cps.toList[r.toNat] := atI_nat (List.getElem?_eq_getElem hl)
      rw [← e] at q
      exact .inr (.inr ⟨z, r, _, rfl, rfl, by rw [sizeLine_eq]; omega, q, k _ H' (List.getElem_mem hl) D' k'⟩)
/-! ### _law_begun -/
def spBegun (K : PySem.W.Frag) (ns : List Int) : Sp := fun vs H Q _ => ∃ (a : Addr), vs = [.ref a] ∧ SqL K H a (ns.map V.int) ∧ ns.length ≤ 63 ∧
  ∀ (d g c : Addr) (H' : Hp), Dw ns d g c 0 H' → (∀ b o, H b = some o → H' b = some o) → H d = none → H g = none → H c = none → Q (.ref d) H'
theorem scBegun : FnScope ["_law_script", "_law_great", "_law_cell"] ["_law_script"] (defScope sBegun) := ⟨rfl, rfl, rfl, by decide +kernel, rfl, by decide +kernel, by decide +kernel⟩
theorem ok_begun {f : Addr} {fd : FuncData} (ns : List Int) (F : Fun K "_law_begun" "_law_begun" sBegun f fd) (mli : mg "list" = none) : FnOk P w K mg base CX0 1 f fd ["_law_script"] (spBegun K ns) := by
  refine F.ok scBegun (fun vs H Q E h => ?_) (fun cdv A outer s H vs Q E hr h => ?_)
  · obtain ⟨a, rfl, _⟩ := h
    rfl
  · obtain ⟨a, rfl, hS, hl, k⟩ := h
    have hu := hu_of hr
    have nd := scBegun.nd
    refine ⟨_, pss_cons (ps_setLc (i := 1) (own := [("_law_cell", 2)]) (g := gName 2) rfl nd rfl rfl (sw_true rfl rfl rfl (by decide +kernel)) (pi_list (pv 0)) (blkOk_by (N := ["_law_script", "_law_great", "_law_cell"]) (sc := defScope sBegun) (by decide +kernel))
        (fun _ _ _ _ _ => pg_name (i := 2) nd rfl (.inl rfl)) (fun _ _ _ _ _ => pts_one (pt_cmpR op_ge (pv 2) (pe_op op_pow pe_int pe_int) (nomark _))) (fun _ _ _ _ _ => pe_op op_sub (pv 2) (pe_op op_pow pe_int pe_int)))
      (pss_one (ps_ret (pe_disp (pps_cons pe_str (pv 1) (pps_cons pe_str (pe_callTy call_list_of rfl mli (by decide +kernel) (pa_cons (pv 0) pa_nil)) (pps_cons pe_str pe_int (pps_cons pe_str pe_int pps_nil)))) (by rfl) (by rfl) (fun z => by cases z) (by decide)))), ?_⟩
    have keep0 : ∀ {H' : Hp} {g : Addr} {o : HO}, (∀ b o, H b = some o → H' b = some o) → H g = none → ∀ b u, H b = some u → upd H' g o b = some u := fun {H' g o} s hg b u e => by
      rw [upd_ne (ne_of_none e hg)]
      exact s b u e
    refine ⟨_, rfl, a, rfl, ⟨_, hS⟩, fun g hg => ?_⟩
    refine lc_list (K := K) (a := a) (xs := ns.map V.int) (fun i H' => (∀ b o, H b = some o → H' b = some o) ∧ ∃ gs : List Int, gs.length ≤ i ∧ H' g = some (.lst (gs.map V.int)))
      ⟨fun b o e => new_same hg b o e, [], Nat.le_refl _, upd_same⟩ (fun i H' _ ⟨s, _⟩ => Same.seq s hS) ?_ ?_
    · rintro i x H' hx ⟨s5, gs, hgl, hg'⟩
      obtain ⟨z, rfl⟩ : ∃ z : Int, x = V.int z := by
        obtain ⟨z, hz, e⟩ := List.mem_map.mp (List.mem_of_getElem? hx)
        exact ⟨z, e.symm⟩
      have hi : i < ns.length := by
        have := (List.getElem?_eq_some_iff.mp hx).1
        rw [List.length_map] at this
        exact this
      refine ⟨rfl, _, rfl, 10, 18, rfl, rfl, ⟨by decide, by decide, by decide⟩, _, _, rfl, rfl, _, rfl, ?_⟩
      refine ite2 (fun _ => ?_) (fun _ => ?_)
      · refine ⟨_, rfl, 10, 18, rfl, rfl, ⟨by decide, by decide, by decide⟩, _, _, rfl, rfl, _, hg', small1000 (by rw [List.length_map]; omega), keep0 s5 hg, gs ++ [z - 10 ^ (18 : Int).toNat], by rw [List.length_append]; show gs.length + 1 ≤ i + 1; omega, ?_⟩
        rw [upd_same, List.map_append]
        rfl
      · exact ⟨s5, gs, by omega, hg'⟩
    · rintro H1 ⟨s1, gs, hgl, hg1⟩ d hd
      refine ⟨_, rfl, _, rfl, a, _, rfl, .inl (Same.seq (new_same hd) (Same.seq s1 hS)), fun c hc => ?_⟩
      have ndc : c ≠ d := fun e => by rw [e, upd_same] at hc; cases hc
      have hd2 : (upd (upd H1 d (.dK [])) c (.lst (ns.map V.int))) d = some (.dK []) := by rw [upd_ne ndc.symm, upd_same]
      refine ⟨hd2, dk g c 0 0, rfl, (by show 4 ≤ 15; decide), ?_⟩
      rw [merge_dk]
      have ngd : g ≠ d := fun e => by rw [← e, hg1] at hd; cases hd
      have hg2 : upd H1 d (.dK []) g = some (.lst (gs.map V.int)) := by rw [upd_ne ngd]; exact hg1
      have ngc : g ≠ c := fun e => by rw [← e, hg2] at hc; cases hc
      have H1d : H d = none := by
        cases e : H d with
        | none => rfl
        | some u => rw [s1 d u e] at hd; cases hd
      have H1c : H c = none := by
        cases e : H c with
        | none => rfl
        | some u => rw [new_same hd c u (s1 c u e)] at hc; cases hc
      refine k d g c _ ⟨⟨gs, 0, 0, upd_same, by rw [upd_ne ngd, upd_ne ngc]; exact hg2, by omega, by omega⟩, by rw [upd_ne ndc, upd_same], ndc, ngc.symm⟩ (fun b o e => ?_) H1d hg H1c
      rw [upd_ne (ne_of_none e H1d), upd_ne (ne_of_none e H1c), upd_ne (ne_of_none e H1d)]
      exact s1 b o e
end
end Lw

set_option Elab.async false
set_option linter.all false
set_option maxRecDepth 100000
set_option maxHeartbeats 4000000
/-! a law's own body, run by the caller that the row names: what is around it is known there -/
namespace Ge
open PySem PySem.Spec PyProof.Rows L2 Gn
/-- what is known where a law's own body runs -/
structure Bed (K : PySem.W.Frag) (mg : Str → Option Value) (base : Heap) (A : Around) : Prop where
  kin : K.In base
  glob : base.Ns mainGlobals mg
  sys : ∃ o, base.get? sysModules = some o
  gd : A.guards = some []
section
variable {P : Program} {w : World} {K : PySem.W.Frag} {mg : Str → Option Value} {base : Heap}
/-- one call of a def of the text, by its body, at one place -/
theorem call_here {x qual : Str} {st : Stmt} {f : Addr} {fd : FuncData} {N ps : List Str} {k : Nat} {A : Around} {outer : List Env} {s : Shared} {H : Hp} {vs : List V} {us : List Value} {Q : VK}
    (F : Fun K x qual st f fd) (S : FnScope N ps (defScope st)) (hr : Room (k + 1) A) (e0 : Env0 P w K mg base A outer s H) (hb : BindsTo s fd ⟨us, []⟩ (ps.zip us)) (hl : vs.length = ps.length) (r : Vals vs us)
    (body : ∀ cdv : Value, Room k (A.deeper (envOfC qual (defScope st) s.heap.objs.size f cdv)) →
      ∃ t, PSs (cxOf CX0 P w K mg base N qual (defScope st) f cdv A outer s H E0).nox (defBody st) t ∧ t { nx := fun _ H' => Q .non H', rt := Q } (start N vs) H) :
    codeAny (model P w) A (.call (.ref f) ⟨us, []⟩) (CR CX0 outer P w H s Q E0) s := by
  obtain ⟨oc, od, kV, doc, pm, an, cdv, ct, osl, rfl, lk, hcd⟩ := F.ex
  have old : ∀ b o, base.get? b = some o → s.heap.get? b = some o := fun b o e => (e0.bs b o e).1
  have KX : K.In s.heap := e0.mod.kin.keeps old
  obtain ⟨t, ht, hq⟩ := body cdv (hr.deeper _)
  refine codeAny_call_function hr.depth (KX _ _ lk) rfl S.co S.gen rfl (PySem.W.codeRec_of KX hcd) (hb _ _ _ _ ?_)
  refine wpAny_newFunctionEnv_cells S.kind (fun ⟨n, v⟩ hy => ?_) (fun env he s1 z => ?_)
  · cases S.par n (List.of_mem_zip hy).1 with
    | inl q => exact .inl q
    | inr q => exact .inr ⟨q, PySem.W.cellsFrom_some _ _ _ (.inl q)⟩
  · subst he
    refine ⟨(e0.mod.nolimit.keeps old).keeps z.toInCall.keep, codeAny_func ?_⟩
    have I : Inv (cxOf CX0 P w K mg base N qual (defScope st) f cdv A outer s H E0) [] (start N vs) H s1 := inv_start S hr.hd e0 hl r z
    refine wpAny_mono (ht.nox.run [] s1 (start N vs) H _ I hq) (fun fl s' hs => ?_) (fun e s' hs => hs)
    match fl, hs with
    | .ret u, ⟨v, σ', H', J, rv, q⟩ => exact ⟨v, H', J.os, J.bare, J.base, J.hok, rv, q⟩
    | .next, ⟨σ', H', J, q⟩ => exact ⟨.non, H', J.os, J.bare, J.base, J.hok, rfl, q⟩
    | .brk, ⟨_, _, _, q⟩ => exact q.elim
    | .cont, ⟨_, _, _, q⟩ => exact q.elim
end
/-- nothing is tracked, or the script's list alone, as a thing that is only read -/
def Hs (a : Addr) (o : Obj) (xs : List V) : Hp := fun b => if b = a then some (.frz o (.lst xs)) else none
theorem hs_at {a : Addr} {o : Obj} {xs : List V} : Hs a o xs a = some (.frz o (.lst xs)) := if_pos rfl
theorem hs_no {a b : Addr} {o : Obj} {xs : List V} (h : b ≠ a) : Hs a o xs b = none := if_neg h
def H0 : Hp := fun _ => none
section
variable {P : Program} {w : World} {K : PySem.W.Frag} {mg mb : Str → Option Value} {s₁ : Shared} {a : Addr} {vs : List Value} {ns : List Int} {st : Stmt} {N : List Str} {x : Str} {k : Nat} {fa : Addr} {fd : FuncData}
/-- the state that the row's call begins with -/
theorem env_of {H : Hp} (KX : K.In s₁.heap) (hns : s₁.heap.Ns mainGlobals mg) (hb : s₁.heap.Ns builtinsNs mb) (hbb : ∀ x : Str, x ≠ "__name__" → mb x = bootBuiltins x) (hlim : s₁.heap.NoLimit) (hsee : ∃ mm, s₁.heap.Ns sysModules mm) (hg : s₁.gens = #[])
    (ha : s₁.heap.get? a = some { cls := .type "list", data := .seq vs.toArray }) (only : ∀ b, H b ≠ none → b = a) (hka : H a ≠ none → K.lookup a = none) (hok : HOk P w H s₁.heap) :
    Env0 P w K mg (hidT s₁.heap H) callerA [] s₁ H ∧ Bed K mg (hidT s₁.heap H) callerA := by
  have free : ∀ {b : Addr}, b ≠ a → H b = none := fun {b} n => by
    cases e : H b with
    | none => rfl
    | some u => exact absurd (only b (by rw [e]; simp)) n
  have keepNs : ∀ {b : Addr} {m : Str → Option Value}, s₁.heap.Ns b m → (hidT s₁.heap H).Ns b m := fun {b m} h => by
    obtain ⟨o, es, ep, e, dd, r⟩ := h
    refine ⟨o, es, ep, hidT_get e (free fun z => ?_), dd, r⟩
    subst z
    rw [ha] at e
    cases e
    cases dd
  have kIn : K.In (hidT s₁.heap H) := fun b o e => hidT_get (KX b o e) (by
    cases q : H b with
    | none => rfl
    | some u =>
      have z := only b (by rw [q]; simp)
      subst z
      rw [hka (by rw [q]; simp)] at e
      cases e)
  obtain ⟨mc, c1, c2⟩ := hlim
  obtain ⟨mm, o, es, ep, e1, e2, e3⟩ := hsee
  have sysf : H sysModules = none := free fun z => by
    subst z
    rw [ha] at e1
    cases e1
    cases e2
  refine ⟨⟨rfl, ⟨kIn, keepNs hns, ⟨mb, keepNs hb, hbb⟩, ⟨mc, keepNs c1, c2⟩⟩, fun b o e => of_hidT e, Nat.le_of_eq (hidT_size _ _), trivial, fun b z => absurd (show b ∈ ([] : List Addr) from z) (by simp), hok, .of_eq hg⟩, kIn, keepNs hns, ⟨o, hidT_get e1 sysf⟩, rfl⟩
/-- the law's call gives True, if its body does wherever it may run -/
theorem law_true (KX : K.In s₁.heap) (hns : s₁.heap.Ns mainGlobals mg) (hb : s₁.heap.Ns builtinsNs mb) (hbb : ∀ x : Str, x ≠ "__name__" → mb x = bootBuiltins x) (hlim : s₁.heap.NoLimit) (hsee : ∃ mm, s₁.heap.Ns sysModules mm) (hg : s₁.gens = #[])
    (ha : s₁.heap.get? a = some { cls := .type "list", data := .seq vs.toArray }) (hi : IntsAre vs ns) (hl : ns.length ≤ sizeLine) (hr : Room (k + 1) callerA)
    (F : Fun K "law" "law" st fa fd) (S : FnScope N [x] (defScope st)) (hbind : ∀ (s : Shared) (u : Value), BindsTo s fd ⟨[u], []⟩ [(x, u)])
    (body : ∀ (base : Heap) (A : Around) (s : Shared) (H : Hp) (cdv : Value), Bed K mg base A → Room k (A.deeper (envOfC "law" (defScope st) s.heap.objs.size fa cdv)) → SqL K H a (ns.map V.int) →
      ∃ t, PSs (cxOf CX0 P w K mg base N "law" (defScope st) fa cdv A [] s H E0).nox (defBody st) t ∧ t { nx := fun _ _ => False, rt := fun v _ => v = .bl true } (start N [.ref a]) H) :
    codeAny (model P w) callerA (.call (.ref fa) ⟨[.ref a], []⟩) (fun r s' => r = .ok (.ret (.bool true)) ∧ OldK s₁.heap s'.heap ∧ s'.os = s₁.os ∧ AllBare s'.gens) s₁ := by
  have rv := vals_ints hi
  have lenV := hi.length
  have go : ∀ H : Hp, (∀ b, H b = none ∨ ∃ o xs, H b = some (.frz o (.lst xs))) → SqL K H a (ns.map V.int) → Env0 P w K mg (hidT s₁.heap H) callerA [] s₁ H ∧ Bed K mg (hidT s₁.heap H) callerA →
      codeAny (model P w) callerA (.call (.ref fa) ⟨[.ref a], []⟩) (fun r s' => r = .ok (.ret (.bool true)) ∧ OldK s₁.heap s'.heap ∧ s'.os = s₁.os ∧ AllBare s'.gens) s₁ := by
    rintro H hO hS ⟨e0, B⟩
    have hok := e0.hok
    refine codeAny_mono (call_here (Q := fun v _ => v = .bl true) (vs := [.ref a]) (us := [.ref a]) F S hr e0 (hbind s₁ (.ref a)) rfl (.cons rfl .nil) fun cdv hr' => ?_) fun r s' h => ?_
    · obtain ⟨t, h1, h2⟩ := body (hidT s₁.heap H) callerA s₁ H cdv B hr' hS
      refine ⟨t, ⟨fun pins s0 σ H1 D I z => ?_⟩, ?_⟩
      · exact h1.run pins s0 σ H1 D I z
      · exact (show t { nx := fun _ _ => V.non = V.bl true, rt := fun v _ => v = V.bl true } (start N [.ref a]) H from by
          have e : (fun (_ : L2.St) (_ : Hp) => V.non = V.bl true) = fun _ _ => False := by funext _ _; simp
          rw [e]; exact h2)
    · match r, h with
      | .error e, h => exact False.elim h
      | .ok .next, h => exact False.elim h
      | .ok .brk, h => exact False.elim h
      | .ok .cont, h => exact False.elim h
      | .ok (.ret u), ⟨v, H', os, bare, un, hok', r', q⟩ =>
        subst q
        obtain rfl : u = Value.bool true := r'
        refine ⟨rfl, OldK.of_keep fun b o e => ?_, os, bare⟩
        rcases hO b with z | ⟨ob, xs, z⟩
        · exact un.keep b o e z (by intro m; exact absurd (show b ∈ ([] : List Addr) from m) (by simp)) (by simp)
        · obtain ⟨e1, _⟩ := hok b _ z
          obtain ⟨e2, _⟩ := hok' b _ (un.frzs b ob _ z)
          rw [e] at e1
          cases e1
          exact e2
  cases hk : K.lookup a with
  | some o =>
    have e := KX a o hk
    rw [ha] at e
    cases e
    refine go H0 (fun _ => .inl rfl) (.inr ⟨_, vs.toArray, _, hk, rfl, rfl, rfl, ?_, ?_⟩) (env_of KX hns hb hbb hlim hsee hg ha (fun b z => absurd rfl z) (fun z => absurd rfl z) fun b u z => nomatch (show (none : Option HO) = some u from z))
    · rw [List.size_toArray, lenV]
      exact hl
    · simpa using rv
  | none =>
    refine go (Hs a { cls := .type "list", data := .seq vs.toArray } (ns.map V.int)) (fun b => ?_) (.inl (.inr ⟨_, hs_at⟩)) (env_of KX hns hb hbb hlim hsee hg ha (fun b z => ?_) (fun _ => hk) fun b u z => ?_)
    · by_cases n : b = a
      · subst n
        exact .inr ⟨_, _, hs_at⟩
      · exact .inl (hs_no n)
    · by_cases n : b = a
      · exact n
      · exact absurd (hs_no n) z
    · by_cases n : b = a
      · subst n
        cases hs_at.symm.trans z
        exact ⟨ha, by rw [List.length_map]; exact hl, vs, _, rv, ha⟩
      · cases (hs_no n).symm.trans z
end
open PySem.W in
/-- the goal that the head leaves -/
theorem walk_law {l : PySem.W.OpenLaw} {n k : Nat} {q : Program} {loose : List Str} {XP : (Str → Option Value) → Heap → Prop} {YP : World → Heap → Prop} {d : DefRec} {K : Params → PySem.W.Frag} {x : Str} {st : Stmt} {N : List Str}
    (hn : l.most = some n) (hn2 : n ≤ sizeLine) (hdf : d.params.defaults = []) (hr : Room (k + 1) callerA) (hi : importsNone q = true) (S : FnScope N [x] (defScope st))
    (hY : ∀ (w : World) (h : Heap), YP w h → (K w.params).In h)
    (F : ∀ (w : World) (mg : Str → Option Value) (fa : Addr) (h : Heap), (K w.params).In h → h.Ns mainGlobals mg → mg d.name = some (.ref fa) →
      ∃ fd : FuncData, Fun (K w.params) "law" "law" st fa fd ∧ (∀ (s : Shared) (u : Value), BindsTo s fd ⟨[u], []⟩ [(x, u)]) ∧
        ∀ (base : Heap) (A : Around) (s : Shared) (H : Hp) (cdv : Value) (a : Addr) (ns : List Int), ns.length ≤ n → Bed (K w.params) mg base A → Room k (A.deeper (envOfC "law" (defScope st) s.heap.objs.size fa cdv)) → SqL (K w.params) H a (ns.map V.int) →
          ∃ t, PSs (cxOf CX0 l.prog w (K w.params) mg base N "law" (defScope st) fa cdv A [] s H E0).nox (defBody st) t ∧ t { nx := fun _ _ => False, rt := fun v _ => v = .bl true } (start N [.ref a]) H) :
    PySem.W.WalkO q loose XP YP l.row.toRowW d [] (fun f vs => PySem.call f vs) := by
  refine Att.attach_call hn hdf fun w s₀ s₁ mg mb fa o pm cd doc a vs ns G Y ho hd hcd hmg hobj hints hlen hg => ?_
  have KX := hY w _ Y
  obtain ⟨fd, F1, F2, F3⟩ := F w mg fa _ KX G.T.g hmg
  obtain ⟨mm, z, _⟩ := (G.T.seer hi).mods
  exact law_true KX G.T.g G.T.b G.T.builtins G.T.nolimit ⟨mm, z⟩ hg hobj hints (Nat.le_trans hlen hn2) hr F1 S F2 fun base A s H cdv B hr' hS => F3 base A s H cdv a ns hlen B hr' hS
end Ge

set_option Elab.async false
set_option linter.all false
set_option maxRecDepth 100000
set_option maxHeartbeats 4000000
/-! data that stand in the heap, dicts too; what repr says of them -/
namespace Gr
open PySem PySem.Spec PyProof.Rows L2 Gn
def keyD : Key → PyData
  | .inl i => .int i
  | .inr x => .str x
mutual
inductive Dr (H : Hp) : V → PyData → Prop
  | non : Dr H .non .none
  | bl (b : Bool) : Dr H (.bl b) (.bool b)
  | int (i : Int) : Dr H (.int i) (.int i)
  | str (x : Str) : Dr H (.str x) (.str x)
  | lst {a : Addr} {xs : List V} {ds : List PyData} : H a = some (.lst xs) → DrAll H xs ds → Dr H (.ref a) (.list ds)
  | tup {a : Addr} {xs : List V} {ds : List PyData} : H a = some (.tup xs) → DrAll H xs ds → Dr H (.ref a) (.tuple ds)
  | dct {a : Addr} {kvs : List (Key × V)} {ds : List (PyData × PyData)} : H a = some (.dK kvs) → DrKv H kvs ds → Dr H (.ref a) (.dict ds)
inductive DrAll (H : Hp) : List V → List PyData → Prop
  | nil : DrAll H [] []
  | cons {v : V} {vs : List V} {d : PyData} {ds : List PyData} : Dr H v d → DrAll H vs ds → DrAll H (v :: vs) (d :: ds)
inductive DrKv (H : Hp) : List (Key × V) → List (PyData × PyData) → Prop
  | nil : DrKv H [] []
  | cons {k : Key} {v : V} {kvs : List (Key × V)} {d : PyData} {ds : List (PyData × PyData)} : Dr H v d → DrKv H kvs ds → DrKv H ((k, v) :: kvs) ((keyD k, d) :: ds)
end
section
variable {H H' : Hp}
mutual
theorem Dr.mono (s : ∀ a o, H a = some o → H' a = some o) : ∀ (d : PyData) (v : V), Dr H v d → Dr H' v d
  | .none, _, h => by cases h; exact .non
  | .bool b, _, h => by cases h; exact .bl b
  | .int i, _, h => by cases h; exact .int i
  | .str x, _, h => by cases h; exact .str x
  | .list ds, _, h => by
    cases h with
    | lst e r => exact .lst (s _ _ e) (DrAll.mono s ds _ r)
  | .tuple ds, _, h => by
    cases h with
    | tup e r => exact .tup (s _ _ e) (DrAll.mono s ds _ r)
  | .dict ds, _, h => by
    cases h with
    | dct e r => exact .dct (s _ _ e) (DrKv.mono s ds _ r)
theorem DrAll.mono (s : ∀ a o, H a = some o → H' a = some o) : ∀ (ds : List PyData) (vs : List V), DrAll H vs ds → DrAll H' vs ds
  | [], _, h => by cases h; exact .nil
  | d :: ds, _, h => by
    cases h with
    | cons e r => exact .cons (Dr.mono s d _ e) (DrAll.mono s ds _ r)
theorem DrKv.mono (s : ∀ a o, H a = some o → H' a = some o) : ∀ (ds : List (PyData × PyData)) (vs : List (Key × V)), DrKv H vs ds → DrKv H' vs ds
  | [], _, h => by cases h; exact .nil
  | (k, d) :: ds, _, h => by
    cases h with
    | cons e r => exact .cons (Dr.mono s d _ e) (DrKv.mono s ds _ r)
end
theorem DrAll.snoc : ∀ {vs : List V} {ds : List PyData} {v : V} {d : PyData}, DrAll H vs ds → Dr H v d → DrAll H (vs ++ [v]) (ds ++ [d])
  | [], _, _, _, .nil, h => .cons h .nil
  | _ :: _, _, _, _, .cons e r, h => .cons e (DrAll.snoc r h)
theorem DrAll.length : ∀ {vs : List V} {ds : List PyData}, DrAll H vs ds → vs.length = ds.length
  | _, _, .nil => rfl
  | _, _, .cons _ r => by rw [List.length_cons, List.length_cons, DrAll.length r]
end
section
variable {X : Cx} {pins : List (Addr × Obj)} {σ : L2.St} {H : Hp} {s : Shared}
theorem rel_key {k : Key} {u : Value} (h : keyIs k u = true) {s : Heap} : Reads s u (keyD k) [] := by
  rcases keyIs_shape h with ⟨i, t, rfl, rfl⟩ | ⟨x, t, rfl, rfl⟩
  · exact .int i t
  · exact .str x t
theorem keys_read {h : Heap} {P : Program} {w : World} : ∀ (ds : List (PyData × PyData)) (kvs : List (Key × V)) (vs : List (Key × Value)) (es : List DictEntry), DrKv H kvs ds → KV kvs vs → Pairs (mixKind P w) es vs →
    ∃ as, ReadsAll h (es.map (·.key)) (ds.map (·.1)) as ∧ sysModules ∉ as
  | [], _, _, _, e, r, p => by
    cases e
    cases r
    cases p
    exact ⟨_, ReadsAll.nil, by simp⟩
  | (k, d) :: ds, _, _, _, e, r, p => by
    cases e with
    | cons h1 h2 =>
      cases r with
      | cons r1 r2 =>
        cases p with
        | cons p1 p2 p3 =>
          obtain ⟨bs, q2, n2⟩ := keys_read (h := h) ds _ _ _ h2 r2 p3
          obtain ⟨r3, _⟩ := r1
          rw [← r3] at p1
          exact ⟨_, ReadsAll.cons (rel_key p1) q2, fun m => n2 m⟩
theorem not_sys (I : Inv X pins σ H s) (hs : ∃ o, X.base.get? sysModules = some o) {a : Addr} {o : HO} (h : H a = some o) : sysModules ≠ a := fun e => by
  obtain ⟨ob, hob⟩ := hs
  have n := (I.bs _ _ hob).2
  rw [e, h] at n
  cases n
mutual
theorem Dr.reads (I : Inv X pins σ H s) (hs : ∃ o, X.base.get? sysModules = some o) : ∀ (d : PyData) (v : V) (u : Value), Dr H v d → RelV v u → ∃ as, Reads s.heap u d as ∧ sysModules ∉ as
  | .none, _, _, h, r => by
    cases h
    cases r
    exact ⟨_, Reads.none, by simp⟩
  | .bool b, _, _, h, r => by
    cases h
    cases r
    exact ⟨_, Reads.bool b, by simp⟩
  | .int i, _, _, h, r => by
    cases h
    obtain ⟨t, rfl⟩ := r
    exact ⟨_, Reads.int i t, by simp⟩
  | .str x, _, _, h, r => by
    cases h
    obtain ⟨t, rfl⟩ := r
    exact ⟨_, Reads.str x t, by simp⟩
  | .list ds, _, _, h, r => by
    cases h with
    | lst e ha =>
      cases r
      obtain ⟨its, rv, ⟨o, n, ho, hc, _, hd⟩, _⟩ := I.list (SqL.of e)
      obtain ⟨as, hr, hn⟩ := DrAll.reads I hs ds _ its ha rv
      exact ⟨_, Reads.list ho hc hd hr, fun m => by
        rcases List.mem_cons.mp m with z | z
        · exact not_sys I hs e z
        · exact hn z⟩
  | .tuple ds, _, _, h, r => by
    cases h with
    | tup e ha =>
      cases r
      obtain ⟨its, rv, ⟨o, ho, hc, n, hd⟩, _⟩ := I.tuple (SqT.of e)
      obtain ⟨as, hr, hn⟩ := DrAll.reads I hs ds _ its ha rv
      exact ⟨_, Reads.tuple ho hc hd hr, hn⟩
  | .dict ds, _, _, h, r => by
    cases h with
    | @dct a kvs _ e ha =>
      cases r
      obtain ⟨_, _, vs, kv, o, es, ep, ho, hx, hdt, _, ps, _⟩ := (show ObjOk X.prog X.w H s.heap a (.dK kvs) from I.hok a _ e)
      obtain ⟨as, hr, hn⟩ := DrKv.reads I hs ds kvs vs es.toList ha kv ps
      obtain ⟨bs, q1, q2⟩ := keys_read (h := s.heap) ds kvs vs es.toList ha kv ps
      exact ⟨_, Reads.dict ho hx.1 hdt q1 hr, fun m => by
        rcases List.mem_append.mp m with z | z
        · rcases List.mem_cons.mp z with z | z
          · exact not_sys I hs e z
          · exact q2 z
        · exact hn z⟩
theorem DrAll.reads (I : Inv X pins σ H s) (hs : ∃ o, X.base.get? sysModules = some o) : ∀ (ds : List PyData) (vs : List V) (us : List Value), DrAll H vs ds → Vals vs us → ∃ as, ReadsAll s.heap us ds as ∧ sysModules ∉ as
  | [], _, _, h, r => by
    cases h
    cases r
    exact ⟨_, ReadsAll.nil, by simp⟩
  | d :: ds, _, _, h, r => by
    cases h with
    | cons h1 h2 =>
      cases r with
      | cons r1 r2 =>
        obtain ⟨as, q1, n1⟩ := Dr.reads I hs d _ _ h1 r1
        obtain ⟨bs, q2, n2⟩ := DrAll.reads I hs ds _ _ h2 r2
        exact ⟨_, ReadsAll.cons q1 q2, fun m => (List.mem_append.mp m).elim n1 n2⟩
theorem DrKv.reads (I : Inv X pins σ H s) (hs : ∃ o, X.base.get? sysModules = some o) : ∀ (ds : List (PyData × PyData)) (kvs : List (Key × V)) (vs : List (Key × Value)) (es : List DictEntry), DrKv H kvs ds → KV kvs vs → Pairs (mixKind X.prog X.w) es vs →
    ∃ as, ReadsAll s.heap (es.map (·.val)) (ds.map (·.2)) as ∧ sysModules ∉ as
  | [], _, _, _, h, r, p => by
    cases h
    cases r
    cases p
    exact ⟨_, ReadsAll.nil, by simp⟩
  | (k, d) :: ds, _, _, _, h, r, p => by
    cases h with
    | cons h1 h2 =>
      cases r with
      | cons r1 r2 =>
        cases p with
        | cons p1 p2 p3 =>
          obtain ⟨as, q1, n1⟩ := Dr.reads I hs d _ _ h1 r1.2
          obtain ⟨bs, q2, n2⟩ := DrKv.reads I hs ds _ _ _ h2 r2 p3
          rw [← p2] at q1
          exact ⟨_, ReadsAll.cons q1 q2, fun m => (List.mem_append.mp m).elim n1 n2⟩
end
end
/-- repr(v), v any data -/
def rRepr : List V → Hp → VK → Prop := fun xs H Q => ∃ v d, xs = [v] ∧ Dr H v d ∧ d.showable = true ∧ d.depth ≤ 60 ∧ d.shown.length ≤ sizeLine ∧ Q (.str d.shown) H
theorem call_repr {X : Cx} (hg : X.A.guards = some []) (hu : X.A.units + 64 < cLine) (hs : ∃ o, X.base.get? sysModules = some o) : CallR X (.builtin "repr") rRepr := by
  intro pins s σ H xs us Q I r h
  obtain ⟨v, d, rfl, hd, sh, dp, sz, q⟩ := h
  obtain ⟨u, rfl, ru⟩ := vals1 r
  have fin : ∀ h' tk uk, (∀ b o, s.heap.get? b = some o → h'.get? b = some o) → EP X pins σ Q (.str d.shown uk) { s with heap := h', toks := tk } := fun h' tk uk k => ⟨.str d.shown, H, I.kept k, ⟨uk, rfl⟩, q⟩
  obtain ⟨as, hr, hn⟩ := Dr.reads I hs d v u hd ru
  cases hr with
  | none => exact PySem.P.repr_of_none (by have e := fin s.heap (s.toks + 1) s.toks (fun _ _ e => e); simpa only [PyData.shown] using e)
  | bool b => exact PySem.P.repr_of_bool (by have e := fin s.heap (s.toks + 1) s.toks (fun _ _ e => e); simpa only [PyData.shown] using e)
  | int i t => exact PySem.P.repr_of_int (by simpa [PyData.showable] using sh) (by have e := fin s.heap (s.toks + 1) s.toks (fun _ _ e => e); simpa only [PyData.shown] using e)
  | str x t => exact PySem.P.repr_of_str (by have e := fin s.heap (s.toks + 1) s.toks (fun _ _ e => e); simpa only [PyData.shown] using e) (by simpa only [PyData.shown] using sz)
  | list h1 h2 h3 h4 => exact repr_of_reads' (Reads.list h1 h2 h3 h4) sh (fun _ => hn) hg (by omega) (fun _ _ e => e) (fun h' u tk k => fin h' tk u k) sz
  | tuple h1 h2 h3 h4 => exact repr_of_reads' (Reads.tuple h1 h2 h3 h4) sh (fun _ => hn) hg (by omega) (fun _ _ e => e) (fun h' u tk k => fin h' tk u k) sz
  | dict h1 h2 h3 h4 h5 => exact repr_of_reads' (Reads.dict h1 h2 h3 h4 h5) sh (fun _ => hn) hg (by omega) (fun _ _ e => e) (fun h' u tk k => fin h' tk u k) sz
end Gr

set_option Elab.async false
set_option linter.all false
set_option maxRecDepth 100000
set_option maxHeartbeats 4000000
/-! more rules and words -/
namespace Gk
open PySem PySem.Spec PyProof.Rows L2 Gn Gr
section
variable {X : Cx} {CX : CXT} {k : Nat} {f : Addr} {fd : FuncData} {ps ks : List Str} {sp : Sp} {E : XK} {x : Str} {p pos : Pos} {kws : List Keyword} {tk : TA} {g : List Value → List Value → List Value} {gV : List V → List V → List V}
/-- f(k = v, ..) -/
theorem pe_kw (F : FnOk X.prog X.w X.K X.mg X.base CX k f fd ps sp) (hr : Room k X.A) (hg : Gl X x) (hm : X.mg x = some (.ref f)) (hk : PySem.W.keepIn X.K (.ref f) = true) (hb : KBinds X.K fd ps ks g gV) (hx : Passes CX X E) (hkw : PK X kws tk)
    (hall : (backToKw pos (keywordEach kws X.env)).all (·.1.isSome) = true := by rfl) (hks : (backToKw pos (keywordEach kws X.env)).filterMap (·.1) = ks := by rfl) (hdb : (x == ("__debug__" : Str)) = false := by decide)
    (hpl : ((backTo pos (starEach [] X.env)).any (·.1) || (backToKw pos (keywordEach kws X.env)).any (·.1.isNone)) = false := by rfl) :
    PE X (.Call (.Name x p) [] kws pos) (tCallK sp gV E tNil tk) := by
  refine ⟨fun pins s σ H Q I h => ?_⟩
  refine wpAny_Call_Name_kw (ld_glob I hg hm ?_ hdb)
  refine PySem.W.callWith_KW0 (h₀ := X.base) I.ok.mod.kin hk hall ?_ hpl
  refine thn (hkw.run pos pins s σ H _ I h) fun ws s2 ⟨zs, H2, I2, rz, q2⟩ => ⟨I2.kIn, ?_⟩
  rw [hks]
  exact run_fnk (us := []) (vs := []) F hr hb hx I2 .nil rz q2
/-- one parameter, given by its name or its place -/
theorem kb_one {K : PySem.W.Frag} {y : Str} (b : ∀ (s : Shared) (w : Value), BindsTo s fd ⟨[], [(y, w)]⟩ [(y, w)]) (b' : ∀ (s : Shared) (w : Value), BindsTo s fd ⟨[w], []⟩ [(y, w)]) : KBinds K fd [y] [y] (fun us ws => us ++ ws) (fun vs zs => vs ++ zs) := by
  refine ⟨fun s us ws _ hl => ?_, fun r q => Vals.append r q⟩
  match us, ws, hl with
  | [], [w], _ => exact b s w
  | [w], [], _ => exact b' s w
  | [], [], hl => exact absurd hl (by simp)
  | [], _ :: _ :: _, hl => exact absurd hl (by simp)
  | [_], _ :: _, hl => exact absurd hl (by simp)
  | _ :: _ :: _, _, hl => exact absurd hl (by simp)
end
/-- no test in a comprehension -/
theorem yes_of {σ : L2.St} {H : Hp} {A B : Hp → Prop} (h : A H) : tYes σ H (fun b H3 => if b = true then A H3 else B H3) := by
  show if true = true then A H else B H
  rw [if_pos rfl]
  exact h
/-! ## texts of signs below 128 -/
def Asc (n : Nat) (x : Str) : Prop := x.length ≤ n ∧ ∀ c ∈ x.cps.toList, c < 128
theorem len_cps (x : Str) : x.cps.toList.length = x.length := by simp [Str.length]
theorem cps_app (x y : Str) : (x ++ y).cps.toList = x.cps.toList ++ y.cps.toList := by
  show (x.cps ++ y.cps).toList = _
  simp
theorem Asc.app {n m : Nat} {x y : Str} (h : Asc n x) (k : Asc m y) : Asc (n + m) (x ++ y) := by
  refine ⟨by rw [strLen_append]; have := h.1; have := k.1; omega, fun c hc => ?_⟩
  rw [cps_app] at hc
  exact (List.mem_append.mp hc).elim (h.2 c) (k.2 c)
theorem Asc.mono {n m : Nat} {x : Str} (h : Asc n x) (k : n ≤ m) : Asc m x := ⟨Nat.le_trans h.1 k, h.2⟩
theorem Asc.one {c : Nat} (h : c < 128) : Asc 1 (⟨#[c]⟩ : Str) := ⟨Nat.le_refl _, fun b hb => by
  have : b = c := by simpa using hb
  omega⟩
theorem Asc.cut {n : Nat} {x : Str} (h : Asc n x) (lo hi : Option Int) : Asc n (cutS x lo hi) := by
  have e : (cutS x lo hi).cps.toList = (x.cps.toList.drop (HT.sIx x.length 0 lo)).take (HT.sIx x.length x.length hi - HT.sIx x.length 0 lo) := by
    unfold cutS
    simp
  refine ⟨?_, fun c hc => ?_⟩
  · rw [← len_cps, e, List.length_take, List.length_drop, len_cps]
    have := h.1
    omega
  · rw [e] at hc
    exact h.2 c (List.mem_of_mem_drop (List.mem_of_mem_take hc))
theorem Asc.ok {n : Nat} {x : Str} (h : Asc n x) : PyData.strOk x = true := by
  unfold PyData.strOk
  rw [Array.all_eq_true']
  intro c hc
  have := h.2 c (by simpa using hc)
  simp only [decide_eq_true_eq]
  omega
theorem Asc.shown {n : Nat} {x : Str} (h : Asc n x) : (reprText x).length ≤ 10 * n + 2 := by
  have := PySem.StrLaws.reprText_len x fun c hc => Nat.lt_of_lt_of_le (h.2 c hc) (by decide)
  have := h.1
  omega
/-! ## what is new since -/
def Nw (H H' : Hp) : Hp := fun a => match H a with | none => H' a | some _ => none
section
variable {H H' H2 : Hp} {a : Addr} {o : HO}
theorem nw_of (h : Nw H H' a = some o) : H a = none ∧ H' a = some o := by
  unfold Nw at h
  cases e : H a with
  | none => rw [e] at h; exact ⟨rfl, h⟩
  | some u => rw [e] at h; cases h
theorem nw_to (h : H a = none) (k : H' a = some o) : Nw H H' a = some o := by
  unfold Nw
  rw [h]
  exact k
theorem nw_sub : ∀ a o, Nw H H' a = some o → H' a = some o := fun a o h => (nw_of h).2
end
/-! ## numbers as texts -/
theorem shown_int {i : Int} (h : i.natAbs < 10 ^ 20) : (PyData.int i).showable = true ∧ (PyData.int i).shown.length ≤ 21 := by
  constructor
  · simp only [PyData.showable, decide_eq_true_eq]
    by_cases z : i.natAbs = 0
    · rw [z]; decide
    · refine (Nat.log2_lt z).mpr (Nat.lt_trans h ?_)
      decide +kernel
  · simp only [PyData.shown]
    show (Str.ofString (toString i)).length ≤ 21
    rw [PySem.ofString_length]
    exact int_text_length_le10 (by decide) h
/-! ## how much a value's text may hold -/
def Ok (n : Nat) (x : PyData) : Prop := x.showable = true ∧ x.depth ≤ n ∧ x.shown.length ≤ 200 * 4 ^ n
theorem pow_pos4 (n : Nat) : 1 ≤ 4 ^ n := Nat.pow_pos (by decide)
theorem pow_le4 {n m : Nat} (h : n ≤ m) : 4 ^ n ≤ 4 ^ m := Nat.pow_le_pow_right (by decide) h
theorem pow_s4 (n : Nat) : 4 ^ (n + 1) = 4 * 4 ^ n := by rw [Nat.pow_succ, Nat.mul_comm]
theorem Ok.mono {n m : Nat} {x : PyData} (h : Ok n x) (k : n ≤ m) : Ok m x :=
  ⟨h.1, Nat.le_trans h.2.1 k, Nat.le_trans h.2.2 (Nat.mul_le_mul_left _ (pow_le4 k))⟩
theorem Ok.flat {n : Nat} {x : PyData} (h1 : x.showable = true) (h2 : x.depth = 0) (h3 : x.shown.length ≤ 200) : Ok n x := by
  have := pow_pos4 n
  exact ⟨h1, by omega, by omega⟩
theorem ok_str {n : Nat} {x : Str} (h : Asc 19 x) : Ok n (.str x) := by
  have := h.shown
  refine Ok.flat (by simp only [PyData.showable]) (by simp only [PyData.depth]) ?_
  simp only [PyData.shown]
  omega
theorem ok_int {n : Nat} {i : Int} (h : i.natAbs < 10 ^ 20) : Ok n (.int i) := by
  obtain ⟨a, b⟩ := shown_int h
  exact Ok.flat a (by simp only [PyData.depth]) (by omega)
theorem ok_all {n : Nat} : ∀ {ds : List PyData}, (∀ x ∈ ds, Ok n x) → PyData.showableAll ds = true ∧ PyData.depthAll ds ≤ n ∧ (PyData.shownAll ds).length = ds.length ∧ ((PyData.shownAll ds).map (·.length)).sum ≤ ds.length * (200 * 4 ^ n)
  | [], _ => by
    refine ⟨by simp only [PyData.showableAll], by simp only [PyData.depthAll]; omega, by simp only [PyData.shownAll]; rfl, by simp only [PyData.shownAll]; simp⟩
  | x :: r, h => by
    obtain ⟨a1, a2, a3⟩ := h x (List.mem_cons_self ..)
    obtain ⟨b1, b2, b3, b4⟩ := ok_all (ds := r) fun y hy => h y (List.mem_cons_of_mem _ hy)
    refine ⟨?_, ?_, ?_, ?_⟩
    · simp only [PyData.showableAll, a1, b1, Bool.and_self]
    · simp only [PyData.depthAll]
      omega
    · simp only [PyData.shownAll, List.length_cons, b3]
    · simp only [PyData.shownAll, List.map_cons, List.sum_cons, List.length_cons]
      rw [Nat.succ_mul]
      omega
theorem two_mul {k n : Nat} (h : k ≤ 2) : k * (200 * 4 ^ n) ≤ 2 * (200 * 4 ^ n) := Nat.mul_le_mul_right _ h
theorem ok_list {n : Nat} {ds : List PyData} (h : ∀ x ∈ ds, Ok n x) (h2 : ds.length ≤ 2) : Ok (n + 1) (.list ds) := by
  obtain ⟨b1, b2, b3, b4⟩ := ok_all h
  have := listText_len_le (PyData.shownAll ds)
  have := two_mul (n := n) h2
  have := pow_pos4 n
  refine ⟨by simp only [PyData.showable, b1], by simp only [PyData.depth]; omega, ?_⟩
  simp only [PyData.shown]
  rw [pow_s4]
  omega
theorem ok_tuple {n : Nat} {ds : List PyData} (h : ∀ x ∈ ds, Ok n x) (h2 : ds.length ≤ 2) : Ok (n + 1) (.tuple ds) := by
  obtain ⟨b1, b2, b3, b4⟩ := ok_all h
  have := tupleText_len_le (PyData.shownAll ds)
  have := two_mul (n := n) h2
  have := pow_pos4 n
  refine ⟨by simp only [PyData.showable, b1], by simp only [PyData.depth]; omega, ?_⟩
  simp only [PyData.shown]
  rw [pow_s4]
  omega
theorem ok_kvs {n : Nat} : ∀ {ds : List (PyData × PyData)}, (∀ p ∈ ds, (∃ x, p.1 = .str x ∧ Asc 19 x) ∧ Ok n p.2) → PyData.showableKv ds = true ∧ PyData.depthKv ds ≤ n ∧ (PyData.shownKv ds).length = ds.length ∧ ((PyData.shownKv ds).map (·.length)).sum ≤ ds.length * (194 + 200 * 4 ^ n)
  | [], _ => by
    refine ⟨by simp only [PyData.showableKv], by simp only [PyData.depthKv]; omega, by simp only [PyData.shownKv]; rfl, by simp only [PyData.shownKv]; simp⟩
  | (kx, x) :: r, h => by
    obtain ⟨⟨y, e, hy⟩, a1, a2, a3⟩ := h (kx, x) (List.mem_cons_self ..)
    obtain ⟨b1, b2, b3, b4⟩ := ok_kvs (ds := r) fun y hy => h y (List.mem_cons_of_mem _ hy)
    have e : kx = .str y := e
    subst e
    have a1 : x.showable = true := a1
    have a2 : x.depth ≤ n := a2
    have a3 : x.shown.length ≤ 200 * 4 ^ n := a3
    have hy' := hy.shown
    refine ⟨?_, ?_, ?_, ?_⟩
    · simp only [PyData.showableKv, PyData.showable, a1, b1, Bool.and_self]
    · simp only [PyData.depthKv, PyData.depth]
      omega
    · simp only [PyData.shownKv, List.length_cons, b3]
    · simp only [PyData.shownKv, List.map_cons, List.sum_cons, List.length_cons, PyData.shown]
      rw [strLen_append, strLen_append, Nat.succ_mul]
      have e2 : ((": " : String) : Str).length = 2 := rfl
      omega
theorem ok_dict {n : Nat} {ds : List (PyData × PyData)} (h : ∀ p ∈ ds, (∃ x, p.1 = .str x ∧ Asc 19 x) ∧ Ok n p.2) (h2 : ds.length ≤ 2) : Ok (n + 1) (.dict ds) := by
  obtain ⟨b1, b2, b3, b4⟩ := ok_kvs h
  have := dictText_len_le (PyData.shownKv ds)
  have : ds.length * (194 + 200 * 4 ^ n) ≤ 2 * (194 + 200 * 4 ^ n) := Nat.mul_le_mul_right _ h2
  have := pow_pos4 n
  refine ⟨by simp only [PyData.showable, b1], by simp only [PyData.depth]; omega, ?_⟩
  simp only [PyData.shown]
  rw [pow_s4]
  omega
/-! ## keys '0', '1', .. -/
def tagS (n : Nat) : Str := ((toString (n : Int) : String) : Str)
def tags : Nat → List V → List (Key × V)
  | _, [] => []
  | n, v :: r => ((Sum.inr (tagS n) : Key), v) :: tags (n + 1) r
def tagD : Nat → List PyData → List (PyData × PyData)
  | _, [] => []
  | n, d :: r => (.str (tagS n), d) :: tagD (n + 1) r
theorem tags_snoc : ∀ (vs : List V) (n : Nat) (v : V), tags n (vs ++ [v]) = tags n vs ++ [((Sum.inr (tagS (n + vs.length)) : Key), v)]
  | [], n, v => rfl
  | w :: r, n, v => by
    have e : n + 1 + r.length = n + (w :: r).length := by rw [List.length_cons]; omega
    show (_, w) :: tags (n + 1) (r ++ [v]) = (_, w) :: (tags (n + 1) r ++ _)
    rw [tags_snoc r (n + 1) v, e]
theorem tags_dr {H : Hp} : ∀ {vs : List V} {ds : List PyData} (n : Nat), DrAll H vs ds → DrKv H (tags n vs) (tagD n ds)
  | _, _, _, .nil => .nil
  | _, _, n, .cons e r => .cons e (tags_dr (n + 1) r)
theorem tagD_len : ∀ (ds : List PyData) (n : Nat), (tagD n ds).length = ds.length
  | [], _ => rfl
  | _ :: r, n => by show (tagD (n + 1) r).length + 1 = r.length + 1; rw [tagD_len r]
theorem tag_asc {n : Nat} (h : n < 10) : Asc 19 (tagS n) := by
  have : n = 0 ∨ n = 1 ∨ n = 2 ∨ n = 3 ∨ n = 4 ∨ n = 5 ∨ n = 6 ∨ n = 7 ∨ n = 8 ∨ n = 9 := by omega
  rcases this with rfl | rfl | rfl | rfl | rfl | rfl | rfl | rfl | rfl | rfl <;> exact ⟨by decide +kernel, by decide +kernel⟩
theorem tagD_ok {m : Nat} : ∀ {ds : List PyData} (n : Nat), n + ds.length ≤ 9 → (∀ x ∈ ds, Ok m x) → ∀ p ∈ tagD n ds, (∃ x, p.1 = .str x ∧ Asc 19 x) ∧ Ok m p.2
  | [], _, _, _, p, hp => by cases hp
  | d :: r, n, hn, h, p, hp => by
    rw [List.length_cons] at hn
    rcases List.mem_cons.mp hp with e | hp
    · subst e
      exact ⟨⟨_, rfl, tag_asc (by omega)⟩, h d (List.mem_cons_self ..)⟩
    · exact tagD_ok (n + 1) (by omega) (fun x hx => h x (List.mem_cons_of_mem _ hx)) p hp
theorem tags_merge {vs : List V} (h : vs.length ≤ 2) : mergeK [] (tags 0 vs) = tags 0 vs := by
  match vs, h with
  | [], _ => rfl
  | [a], _ => rfl
  | [a, b], _ =>
    have n01 : ¬ (Sum.inr (tagS 0) : Key) = Sum.inr (tagS 1) := by decide +kernel
    show putK (putK [] (Sum.inr (tagS 0) : Key) a) (Sum.inr (tagS 1) : Key) b = [((Sum.inr (tagS 0) : Key), a), ((Sum.inr (tagS 1) : Key), b)]
    have e1 : putK [] (Sum.inr (tagS 0) : Key) a = [((Sum.inr (tagS 0) : Key), a)] := rfl
    rw [e1]
    exact putK_new b ((valV_neg n01).trans valV_nil)
/-- .. and a text is made of signs below 128 -/
def OkT (n : Nat) (x : PyData) : Prop := Ok n x ∧ ∀ s, x = .str s → Asc 19 s
theorem okT_of {n : Nat} {x : PyData} (h : Ok n x) (k : ∀ s, x ≠ .str s) : OkT n x := ⟨h, fun s e => absurd e (k s)⟩
theorem okT_str {n : Nat} {x : Str} (h : Asc 19 x) : OkT n (.str x) := ⟨ok_str h, fun s e => by cases e; exact h⟩
/-! ## the type of a value -/
def Ext (H H' : Hp) : Prop := ∀ a o, H a = some o → H' a = some o
theorem Ext.refl {H : Hp} : Ext H H := fun _ _ e => e
theorem Ext.trans {H H' H2 : Hp} (h : Ext H H') (k : Ext H' H2) : Ext H H2 := fun a o e => k a o (h a o e)
theorem Ext.new {H : Hp} {p : Addr} {o : HO} (h : H p = none) : Ext H (upd H p o) := fun a u e => new_same h a u e
inductive TyT (H : Hp) : V → String → Prop
  | non : TyT H .non "NoneType"
  | bl (b : Bool) : TyT H (.bl b) "bool"
  | int (i : Int) : TyT H (.int i) "int"
  | str (x : Str) : TyT H (.str x) "str"
  | lst {a : Addr} {xs : List V} : H a = some (.lst xs) → TyT H (.ref a) "list"
  | tup {a : Addr} {xs : List V} : H a = some (.tup xs) → TyT H (.ref a) "tuple"
  | dct {a : Addr} {kvs : List (Key × V)} : H a = some (.dK kvs) → TyT H (.ref a) "dict"
theorem TyT.x {K : PySem.W.Frag} {H : Hp} {v : V} {T : String} (h : TyT H v T) : TyX K H v (.type T) := by
  cases h with
  | non => exact .base .non
  | bl b => exact .base (.bl b)
  | int i => exact .base (.int i)
  | str x => exact .base (.str x)
  | lst e => exact .base (.lst e)
  | tup e => exact .base (.tup e)
  | dct e => exact .base (.dK e)
theorem TyT.ext {H H' : Hp} {v : V} {T : String} (h : TyT H v T) (k : Ext H H') : TyT H' v T := by
  cases h with
  | non => exact .non
  | bl b => exact .bl b
  | int i => exact .int i
  | str x => exact .str x
  | lst e => exact .lst (k _ _ e)
  | tup e => exact .tup (k _ _ e)
  | dct e => exact .dct (k _ _ e)
theorem dr_ty {H : Hp} {v : V} {x : PyData} (h : Dr H v x) : (∃ s, v = .str s ∧ x = .str s) ∨ (∃ i, v = .int i) ∨ (TyT H v "NoneType" ∨ TyT H v "bool" ∨ TyT H v "list" ∨ TyT H v "tuple" ∨ TyT H v "dict") := by
  cases h with
  | non => exact .inr (.inr (.inl .non))
  | bl b => exact .inr (.inr (.inr (.inl (.bl b))))
  | int i => exact .inr (.inl ⟨i, rfl⟩)
  | str x => exact .inl ⟨x, rfl, rfl⟩
  | lst e _ => exact .inr (.inr (.inr (.inr (.inl (.lst e)))))
  | tup e _ => exact .inr (.inr (.inr (.inr (.inr (.inl (.tup e))))))
  | dct e _ => exact .inr (.inr (.inr (.inr (.inr (.inr (.dct e))))))
/-- isinstance of a value whose type is told -/
theorem isi_ty {K : PySem.W.Frag} {H : Hp} {v : V} {T U : String} {r : Bool} {Q : VK} (h : TyT H v T) (k : kitB T U = some r) (q : Q (.bl r) H) : rIsi K [v, .ty U] H Q :=
  ⟨v, .ty U, .type T, .type U, r, rfl, .ty U, h.x, kit_ty k, q⟩
/-! ## what a name is, what an amount is -/
def letters : Str := "abcdefghijklmnopqrstuvwxyz"
def isL (c : Nat) : Bool := decide (c ∈ letters.cps.toList)
def nameOk (x : Str) : Bool := decide (1 ≤ x.length) && (decide (x.length ≤ 8) && x.cps.toList.all isL)
def amtOk (i : Int) : Bool := decide (1 ≤ i) && decide (i ≤ 1000000000)
def NameV (H : Hp) (v : V) (r : Bool) : Prop := (∃ x, v = .str x ∧ Asc 19 x ∧ r = nameOk x) ∨ (r = false ∧ (TyT H v "NoneType" ∨ TyT H v "bool" ∨ TyT H v "int" ∨ TyT H v "list" ∨ TyT H v "tuple" ∨ TyT H v "dict"))
def AmtV (H : Hp) (v : V) (r : Bool) : Prop := (∃ i, v = .int i ∧ r = amtOk i) ∨ (r = false ∧ (TyT H v "NoneType" ∨ TyT H v "bool" ∨ TyT H v "str" ∨ TyT H v "list" ∨ TyT H v "tuple" ∨ TyT H v "dict"))
def spName : Sp := fun vs H Q _ => ∃ v r, vs = [v] ∧ NameV H v r ∧ ∀ H', Ext H H' → Q (.bl r) H'
def spAmt : Sp := fun vs H Q _ => ∃ v r, vs = [v] ∧ AmtV H v r ∧ ∀ H', Ext H H' → Q (.bl r) H'
theorem NameV.ext {H H' : Hp} {v : V} {r : Bool} (h : NameV H v r) (k : Ext H H') : NameV H' v r := by
  rcases h with h | ⟨e, h⟩
  · exact .inl h
  · refine .inr ⟨e, ?_⟩
    rcases h with h | h | h | h | h | h
    · exact .inl (h.ext k)
    · exact .inr (.inl (h.ext k))
    · exact .inr (.inr (.inl (h.ext k)))
    · exact .inr (.inr (.inr (.inl (h.ext k))))
    · exact .inr (.inr (.inr (.inr (.inl (h.ext k)))))
    · exact .inr (.inr (.inr (.inr (.inr (h.ext k)))))
theorem AmtV.ext {H H' : Hp} {v : V} {r : Bool} (h : AmtV H v r) (k : Ext H H') : AmtV H' v r := by
  rcases h with h | ⟨e, h⟩
  · exact .inl h
  · refine .inr ⟨e, ?_⟩
    rcases h with h | h | h | h | h | h
    · exact .inl (h.ext k)
    · exact .inr (.inl (h.ext k))
    · exact .inr (.inr (.inl (h.ext k)))
    · exact .inr (.inr (.inr (.inl (h.ext k))))
    · exact .inr (.inr (.inr (.inr (.inl (h.ext k)))))
    · exact .inr (.inr (.inr (.inr (.inr (h.ext k)))))
theorem dr_judged {H : Hp} {v : V} {x : PyData} {n : Nat} (h : Dr H v x) (k : OkT n x) : (∃ r, NameV H v r) ∧ ∃ r, AmtV H v r := by
  rcases dr_ty h with ⟨s, rfl, rfl⟩ | ⟨i, rfl⟩ | h | h | h | h | h
  · exact ⟨⟨_, .inl ⟨s, rfl, k.2 s rfl, rfl⟩⟩, ⟨false, .inr ⟨rfl, .inr (.inr (.inl (.str s)))⟩⟩⟩
  · exact ⟨⟨false, .inr ⟨rfl, .inr (.inr (.inl (.int i)))⟩⟩, ⟨_, .inl ⟨i, rfl, rfl⟩⟩⟩
  · exact ⟨⟨false, .inr ⟨rfl, .inl h⟩⟩, ⟨false, .inr ⟨rfl, .inl h⟩⟩⟩
  · exact ⟨⟨false, .inr ⟨rfl, .inr (.inl h)⟩⟩, ⟨false, .inr ⟨rfl, .inr (.inl h)⟩⟩⟩
  · exact ⟨⟨false, .inr ⟨rfl, .inr (.inr (.inr (.inl h)))⟩⟩, ⟨false, .inr ⟨rfl, .inr (.inr (.inr (.inl h)))⟩⟩⟩
  · exact ⟨⟨false, .inr ⟨rfl, .inr (.inr (.inr (.inr (.inl h))))⟩⟩, ⟨false, .inr ⟨rfl, .inr (.inr (.inr (.inr (.inl h))))⟩⟩⟩
  · exact ⟨⟨false, .inr ⟨rfl, .inr (.inr (.inr (.inr (.inr h))))⟩⟩, ⟨false, .inr ⟨rfl, .inr (.inr (.inr (.inr (.inr h))))⟩⟩⟩
end Gk

set_option Elab.async false
set_option linter.all false
set_option maxRecDepth 100000
set_option maxHeartbeats 4000000
/-! rules for objects: static methods, keywords of a method, == and != by an own __eq__, tuple(dict) -/
namespace Go
open PySem PySem.Spec PyProof.Rows L2 Gn Gr Gk
section
variable {X : Cx} {CX : CXT} {k n : Nat} {C f g p : Addr} {mc : Value} {fd : FuncData} {ps ks : List Str} {sp : Sp} {E : XK} {o e : Expr} {es : List Expr} {kws : List Keyword} {m : Str} {pos apos : Pos} {ta : TE} {t tk : TA} {pl : Sem Bool} {gg : List Value → List Value → List Value} {gV : List V → List V → List V}
/-! ### a static method, through its class -/
structure SMet (K : PySem.W.Frag) (C : Addr) (mc : Value) (m : Str) (p g : Addr) : Prop where
  at_ : PySem.W.findCls K (.ref C) mc m = some (.get (.builtin "staticmethod.__get__") (.ref p) .none (.ref C))
  rc : ∃ rest, PySem.W.recIn K p "staticmethod" = some (.ref g :: rest)
theorem getsm_ok {pins : List (Addr × Obj)} {σ : L2.St} {H : Hp} {s : Shared} {A : Around} {E : Value → Shared → Prop} {Q : Value × List Value → Shared → Prop} (I : Inv X pins σ H s) (r : ClX.CRead X.K C mc) (c : SMet X.K C mc m p g)
    (h : ∀ s', Inv X pins σ H s' → Q (.ref g, []) s') : wpAny (model X.prog X.w) A (getMethod (.ref C) m pl) Q E s := by
  obtain ⟨rest, hp⟩ := c.rc
  refine PySem.W.method_cls I.kIn r.ga (PySem.W.cls_bind I.kIn r.rd c.at_ (wpAny_call (PySem.W.sm_get (s := { s with toks := s.toks + 1 }) I.kIn hp (PySem.W.handed_on rfl ?_))))
  exact h _ (I.tok _)
def tSMeth (C : Addr) (sp : Sp) (E : XK) (ta : TE) (t : TA) : TE := fun σ H Q => ta σ H fun x H1 => x = .ref C ∧ t σ H1 fun vs H2 => sp vs H2 Q E
theorem pe_smeth (he : PE X o ta) (r : ClX.CRead X.K C mc) (c : SMet X.K C mc m p g) (hk : PySem.W.keepIn X.K (.ref g) = true) (F : FnOk X.prog X.w X.K X.mg X.base CX k g fd ps sp) (hr : Room k X.A) (hb : Binds X.K fd ps []) (hx : Passes CX X E) (ha : PA X (e :: es) t)
    (hst : starEach (e :: es) X.env = (false, eval e X.env) :: starEach es X.env := by rfl) (hpl : (backTo pos (starEach es X.env)).any (·.1) = false := by rfl)
    (ht : eval (.Call (.Attribute o m apos) (e :: es) [] pos) X.env = (do
      let ov ← eval o X.env
      standAt apos.atName
      let (f, first) ← holding [ov] (getMethod ov m pl)
      callWith pos f first (backTo pos (starEach (e :: es) X.env)) (backToKw pos (keywordEach [] X.env))) := by rfl) :
    PE X (.Call (.Attribute o m apos) (e :: es) [] pos) (tSMeth C sp E ta t) := by
  refine ⟨fun pins s σ H Q I h => ?_⟩
  refine PySem.W.methodCall_KW (pl := pl) (thn (he.run pins s σ H _ I h) fun u s1 ⟨x, H1, I1, rx, ex, q⟩ => ?_) ht
  subst ex
  obtain rfl : u = Value.ref C := rx
  refine getsm_ok I1 r c fun s2 I2 => ?_
  refine PySem.W.callWith_K (first := []) (h₀ := X.base) I2.ok.mod.kin hk (thn (ha.run pos pins s2 σ H1 _ I2 q) fun us s3 ⟨vs, H2, I3, rv, q2⟩ => ⟨I3.kIn, ?_⟩) hst hpl
  exact run_fn (us := us) (vs := vs) (dvs := []) F hr hb .nil hx I3 rv (by rw [List.append_nil]; exact q2)
def tSMethK (C : Addr) (sp : Sp) (gV : List V → List V → List V) (E : XK) (ta : TE) (tk : TA) : TE := fun σ H Q => ta σ H fun x H1 => x = .ref C ∧ tk σ H1 fun zs H2 => sp (gV [] zs) H2 Q E
theorem pe_smethK (he : PE X o ta) (r : ClX.CRead X.K C mc) (c : SMet X.K C mc m p g) (hk : PySem.W.keepIn X.K (.ref g) = true) (F : FnOk X.prog X.w X.K X.mg X.base CX k g fd ps sp) (hr : Room k X.A) (hb : KBinds X.K fd ps ks gg gV) (hx : Passes CX X E) (hkw : PK X kws tk)
    (hall : (backToKw pos (keywordEach kws X.env)).all (·.1.isSome) = true := by rfl) (hks : (backToKw pos (keywordEach kws X.env)).filterMap (·.1) = ks := by rfl)
    (hpl : ((backTo pos (starEach [] X.env)).any (·.1) || (backToKw pos (keywordEach kws X.env)).any (·.1.isNone)) = false := by rfl)
    (ht : eval (.Call (.Attribute o m apos) [] kws pos) X.env = (do
      let ov ← eval o X.env
      standAt apos.atName
      let (f, first) ← holding [ov] (getMethod ov m pl)
      callWith pos f first (backTo pos (starEach [] X.env)) (backToKw pos (keywordEach kws X.env))) := by rfl) :
    PE X (.Call (.Attribute o m apos) [] kws pos) (tSMethK C sp gV E ta tk) := by
  refine ⟨fun pins s σ H Q I h => ?_⟩
  refine PySem.W.methodCall_KW (pl := pl) (thn (he.run pins s σ H _ I h) fun u s1 ⟨x, H1, I1, rx, ex, q⟩ => ?_) ht
  subst ex
  obtain rfl : u = Value.ref C := rx
  refine getsm_ok I1 r c fun s2 I2 => ?_
  refine PySem.W.callWith_KW0 (first := []) (h₀ := X.base) I2.ok.mod.kin hk hall ?_ hpl
  refine thn (hkw.run pos pins s2 σ H1 _ I2 q) fun ws s3 ⟨zs, H2, I3, rz, q2⟩ => ⟨I3.kIn, ?_⟩
  rw [hks]
  exact run_fnk (us := []) (vs := []) F hr hb hx I3 .nil rz q2
/-! ### o.m(k = v) -/
def tMethK (C : Addr) (m : Str) (sp : Sp) (gV : List V → List V → List V) (E : XK) (ta : TE) (tk : TA) : TE := fun σ H Q => ta σ H fun x H1 => ∃ a dx fs, x = .ref a ∧ H1 a = some (.ins C dx fs) ∧ fs.lookup m = none ∧ tk σ H1 fun zs H2 => sp (gV [x] zs) H2 Q E
theorem pe_methK (he : PE X o ta) (c : Cls X.K C) (hm : Meth X.K C m f) (F : FnOk X.prog X.w X.K X.mg X.base CX k f fd ps sp) (hr : Room k X.A) (hb : KBinds X.K fd ps ks gg gV) (hx : Passes CX X E) (hkw : PK X kws tk)
    (hall : (backToKw pos (keywordEach kws X.env)).all (·.1.isSome) = true := by rfl) (hks : (backToKw pos (keywordEach kws X.env)).filterMap (·.1) = ks := by rfl)
    (hpl : ((backTo pos (starEach [] X.env)).any (·.1) || (backToKw pos (keywordEach kws X.env)).any (·.1.isNone)) = false := by rfl)
    (ht : eval (.Call (.Attribute o m apos) [] kws pos) X.env = (do
      let ov ← eval o X.env
      standAt apos.atName
      let (f, first) ← holding [ov] (getMethod ov m pl)
      callWith pos f first (backTo pos (starEach [] X.env)) (backToKw pos (keywordEach kws X.env))) := by rfl) :
    PE X (.Call (.Attribute o m apos) [] kws pos) (tMethK C m sp gV E ta tk) := by
  refine ⟨fun pins s σ H Q I h => ?_⟩
  refine PySem.W.methodCall_KW (pl := pl) (thn (he.run pins s σ H _ I h) fun u s1 ⟨x, H1, I1, rx, a, dx, fs, ex, ea, l, q⟩ => ?_) ht
  subst ex
  obtain rfl : u = Value.ref a := rx
  refine getmeth_ok I1 ea c hm l ?_
  refine PySem.W.callWith_KW0 (first := [.ref a]) (h₀ := X.base) I1.ok.mod.kin hm.kp hall ?_ hpl
  refine thn (hkw.run pos pins s1 σ H1 _ I1 q) fun ws s3 ⟨zs, H2, I3, rz, q2⟩ => ⟨I3.kIn, ?_⟩
  rw [hks]
  exact run_fnk (us := [.ref a]) (vs := [.ref a]) F hr hb hx I3 (.cons rfl .nil) rz q2
/-! ### == and != by an own __eq__ -/
/-- the own __eq__ at f of the class at C; no __ne__ besides object's -/
structure OwnE (K : PySem.W.Frag) (C f : Addr) : Prop where
  eq : PySem.W.findIn K (.ref C) "__eq__" = some (some (.ref f))
  fn : PySem.W.isFn K (.ref f) = true
  cls : ∃ nm q N bs hdct sn sub ab col dd k0 k1 k2 k3 k5 newId, K.lookup C = some (excClassObj nm q C N bs [.type "object"] hdct sn sub ab col dd k0 k1 k2 k3 k5 newId) ∧ PySem.W.nsOkIn K N = true ∧ PySem.W.nsIn K N "__eq__" = some (some (.ref f)) ∧ PySem.W.nsIn K N "__ne__" = some none
  ob : ∃ of : Obj, K.lookup f = some of ∧ of.cls = .type "function"
/-- two instances of the class; the own == is asked -/
def rOwn (C : Addr) (sp : Sp) (E : XK) (neg : Bool) : R2 := fun x y H Q => ∃ a b dx dy fs gs, x = .ref a ∧ y = .ref b ∧ H a = some (.ins C dx fs) ∧ H b = some (.ins C dy gs) ∧ sp [.ref a, .ref b] H (fun v H' => ∃ r, v = .bl r ∧ Q (.bl (if neg then !r else r)) H') E
theorem op_eqO (F : FnOk X.prog X.w X.K X.mg X.base CX n f fd ps sp) (hr : Room n X.A) (w : OwnE X.K C f) (hb : Binds X.K fd ps []) (hx : Passes CX X E) : OpR X (compareOp .Eq) (rOwn C sp E false) := by
  intro pins s σ H x y v u Q I rx ry h
  obtain ⟨a, b, dx, dy, fs, gs, rfl, rfl, ha, hb', hs⟩ := h
  cases rx
  cases ry
  obtain ⟨mA, O1, _⟩ := ins_get I.hok ha
  obtain ⟨mB, O2, _⟩ := ins_get I.hok hb'
  obtain ⟨od, J, _⟩ := O1.look
  obtain ⟨od', J', _⟩ := O2.look
  obtain ⟨m, hF⟩ := I.fr
  show wpAny (model X.prog X.w) X.A (richCompare .Eq (.ref a) (.ref b)) (EP X pins σ Q) X.xe s
  refine PySem.W.cmp_K (op := .Eq) (tb := .ref C) hr.units0 hF I.ok.mod.kin J J'.type (by simp [PySem.W.notFirst]) w.eq w.fn ?_
  refine thn (run_fn (us := [.ref a, .ref b]) (vs := [.ref a, .ref b]) (dvs := []) F hr hb .nil hx I (.cons rfl (.cons rfl .nil)) (by rw [List.append_nil]; exact hs)) fun r s' hq => ?_
  obtain ⟨z, H', I', rz, c, rfl, q⟩ := hq
  cases rz
  exact ⟨.bl c, H', I', rfl, q⟩
theorem ns_has {K : PySem.W.Frag} {h : Heap} {N : Addr} {m : Str → Option Value} {x : Str} {v : Value} (X : K.In h) (G : h.Ns N m) (e : PySem.W.nsIn K N x = some (some v)) : m x = some v := by
  obtain ⟨o, es, ep, ho, hd, _, hf⟩ := G
  rw [← hf]
  unfold PySem.W.nsIn at e
  cases q : K.lookup N with
  | none => rw [q] at e; cases e
  | some ob =>
    have z := X _ _ q
    rw [ho] at z
    cases z
    rw [q] at e
    obtain ⟨c, dd, dt, sl⟩ := o
    have hd : dt = .dict es ep := hd
    subst hd
    simp only at e
    unfold nsFind findBy
    rw [← Array.find?_toList]
    split at e
    · rename_i en he
      rw [he]
      cases e
      rfl
    · split at e <;> cases e
theorem eq_obj : ∃ y : Option Value, typeLookup (.type "object") "__eq__" = pure y := ⟨_, PySem.F.slot_object_eq.lookup⟩
theorem op_neO (F : FnOk X.prog X.w X.K X.mg X.base CX n f fd ps sp) (hr : Room (n + 1) X.A) (w : OwnE X.K C f) (hb : Binds X.K fd ps []) (hx : ∀ (pins : List (Addr × Obj)) (σ : L2.St) (H : Hp) (s : Shared) (e : Value) (s' : Shared), Inv X pins σ H s → CX X.stack H s E e s' → X.xe e s') : OpR X (compareOp .NotEq) (rOwn C sp E true) := by
  intro pins s σ H x y v u Q I rx ry h
  obtain ⟨a, b, dx, dy, fs, gs, rfl, rfl, ha, hb', hs⟩ := h
  cases rx
  cases ry
  obtain ⟨mA, O1, _⟩ := ins_get I.hok ha
  obtain ⟨mB, O2, _⟩ := ins_get I.hok hb'
  obtain ⟨nm, q, N, bs, hdct, sn, sub, ab, col, dd, k0, k1, k2, k3, k5, newId, hC, hN, he, hn⟩ := w.cls
  obtain ⟨of, ho, hoc⟩ := w.ob
  obtain ⟨yv, hy⟩ := eq_obj
  have G : s.heap.Ns N (s.heap.nsMap N) := .of_isNs (PySem.W.isNs_of_in I.kIn hN)
  have hl : ([Value.ref a, Value.ref b] ++ []).length = ps.length := by
    have := F.len _ _ _ _ hs
    simpa using this
  obtain ⟨_, _, _, ea, _⟩ := (show ObjOk X.prog X.w H s.heap a (.ins C dx fs) from I.hok a _ ha)
  obtain ⟨_, _, _, eb, _⟩ := (show ObjOk X.prog X.w H s.heap b (.ins C dy gs) from I.hok b _ hb')
  have W : s.heap.OwnEqNoNe a C f "object" [.type "object"] :=
    ⟨_, of, nm, q, N, bs, hdct, sn, sub, ab, col, dd, k0, k1, k2, k3, k5, newId, s.heap.nsMap N, yv, ea, rfl, I.kIn _ _ hC, G, ns_has I.kIn G he, I.kIn _ _ ho, hoc, PySem.F.cmp_object.mro, hy, PySem.W.ns_none_of I.kIn G hn⟩
  have hbind : BindsTo s fd ⟨[.ref a, .ref b], []⟩ (ps.zip [.ref a, .ref b]) := hb s [.ref a, .ref b] I.kIn hl
  have run := F.run X.A.in1 X.stack s H ⟨[.ref a, .ref b], []⟩ [.ref a, .ref b] [.ref a, .ref b] _ E (hr.in1) I.env0.in1 hbind (.cons rfl (.cons rfl .nil)) hs
  obtain ⟨hp, g, d, tk, os⟩ := s
  refine compareOp_ne_ownEq PySem.F.cmp_object W eb rfl (by have := hr.units; omega) (wpAny_call (codeAny_mono run fun r s' hq => ?_))
  cases r with
  | error e => exact hx pins σ H _ e s' I hq
  | ok fl =>
    cases fl with
    | ret u =>
      obtain ⟨z, H', I', rz, c, rfl, q⟩ := I.after hq
      cases rz
      exact ⟨c, rfl, .bl (!c), H', I', rfl, q⟩
    | next => exact False.elim hq
    | brk => exact False.elim hq
    | cont => exact False.elim hq
end
end Go

set_option Elab.async false
set_option linter.all false
set_option maxRecDepth 100000
set_option maxHeartbeats 4000000
/-! forests as data: rows, their text, what is a forest -/
namespace Gf
open PySem PySem.Spec PyProof.Rows L2 TL Gn Gr Gk
abbrev FRow := Str × Option Str
def parV : Option Str → V
  | none => .non
  | some m => .str m
def kvOf (r : FRow) : Key × V := (Sum.inr r.1, parV r.2)
def wordsOf : FRow → List Str
  | (n, none) => ["account", n]
  | (n, some m) => ["account", n, "in", m]
def lineOf (r : FRow) : Str := Txt.join " " (wordsOf r)
def textOf (rs : List FRow) : Str := Txt.join "\n" (rs.map lineOf ++ [Str.empty])
def fNames (rs : List FRow) : List Str := rs.map (·.1)
/-- the row may stand behind these names -/
def RowOk (E : List Str) (r : FRow) : Prop := nameOk r.1 = true ∧ r.1 ∉ E ∧ ∀ m, r.2 = some m → m ∈ E
def GoodF : List Str → List FRow → Prop
  | _, [] => True
  | E, r :: rs => RowOk E r ∧ GoodF (E ++ [r.1]) rs
theorem good_at : ∀ {rs : List FRow} {E : List Str} {i : Nat} {r : FRow}, GoodF E rs → rs[i]? = some r → RowOk (E ++ fNames (rs.take i)) r
  | [], _, _, _, _, h => by simp at h
  | x :: rs, E, 0, r, g, h => by
    simp only [List.getElem?_cons_zero, Option.some.injEq] at h
    subst h
    simpa [fNames] using g.1
  | x :: rs, E, i + 1, r, g, h => by
    have q := good_at g.2 (show rs[i]? = some r by simpa using h)
    simpa [fNames, List.append_assoc] using q
theorem good_snoc : ∀ {rs : List FRow} {E : List Str} {r : FRow}, GoodF E rs → RowOk (E ++ fNames rs) r → GoodF E (rs ++ [r])
  | [], E, r, g, h => ⟨by simpa [fNames] using h, trivial⟩
  | x :: rs, E, r, g, h => ⟨g.1, good_snoc g.2 (by simpa [fNames, List.append_assoc] using h)⟩
theorem names_take (rs : List FRow) (i : Nat) : fNames (rs.take i) = (fNames rs).take i := by unfold fNames; rw [List.map_take]
theorem good_mem {rs : List FRow} (g : GoodF [] rs) {r : FRow} (h : r ∈ rs) : nameOk r.1 = true ∧ ∀ m, r.2 = some m → m ∈ fNames rs ∧ nameOk m = true := by
  obtain ⟨i, hi⟩ := List.mem_iff_getElem?.mp h
  have q := good_at g hi
  rw [List.nil_append] at q
  have nm : ∀ m, m ∈ fNames rs → nameOk m = true := by
    intro m hm
    obtain ⟨z, hz, rfl⟩ := List.mem_map.mp hm
    obtain ⟨j, hj⟩ := List.mem_iff_getElem?.mp hz
    exact (good_at g hj).1
  refine ⟨q.1, fun m hm => ?_⟩
  have z := q.2.2 m hm
  rw [names_take] at z
  have z2 := List.mem_of_mem_take z
  exact ⟨z2, nm m z2⟩
theorem good_nodup : ∀ {rs : List FRow} {E : List Str}, GoodF E rs → (fNames rs).Nodup ∧ ∀ n ∈ fNames rs, n ∉ E
  | [], _, _ => by simp [fNames]
  | x :: rs, E, g => by
    obtain ⟨a, b⟩ := good_nodup g.2
    constructor
    · show (x.1 :: fNames rs).Nodup
      refine List.nodup_cons.mpr ⟨fun h => ?_, a⟩
      exact b _ h (by simp)
    · intro n hn
      rcases List.mem_cons.mp (show n ∈ x.1 :: fNames rs from hn) with rfl | h
      · exact g.1.2.1
      · exact fun z => b n h (by simp [z])
/-! names -/
theorem name_len {x : Str} (h : nameOk x = true) : 1 ≤ x.length ∧ x.length ≤ 8 := by
  unfold nameOk at h
  simp only [Bool.and_eq_true, decide_eq_true_eq] at h
  exact ⟨h.1, h.2.1⟩
theorem letters_lo : ∀ c ∈ letters.cps.toList, 96 < c ∧ c < 123 := by decide +kernel
theorem name_cps {x : Str} (h : nameOk x = true) : ∀ c ∈ x.cps.toList, 96 < c ∧ c < 123 := by
  unfold nameOk at h
  simp only [Bool.and_eq_true, decide_eq_true_eq] at h
  intro c hc
  have := List.all_eq_true.mp h.2.2 c hc
  exact letters_lo c (by simpa [isL] using this)
theorem name_asc {x : Str} (h : nameOk x = true) : Asc 8 x := ⟨(name_len h).2, fun c hc => by have := name_cps h c hc; omega⟩
theorem name_asc19 {x : Str} (h : nameOk x = true) : Asc 19 x := (name_asc h).mono (by decide)
/-! lines and texts -/
theorem tl_def (x : Str) : tl x = x.cps.toList := rfl
theorem sp_tl : tl (" " : Str) = [32] := by decide +kernel
theorem nl_tl : tl ("\n" : Str) = [10] := by decide +kernel
theorem e_tl : tl Str.empty = [] := rfl
theorem e_eq : (("" : String) : Str) = Str.empty := ext_tl (by decide +kernel)
theorem acc_tl : tl ("account" : Str) = [97, 99, 99, 111, 117, 110, 116] := by decide +kernel
theorem in_tl : tl ("in" : Str) = [105, 110] := by decide +kernel
theorem accs_tl : tl ("account " : Str) = [97, 99, 99, 111, 117, 110, 116, 32] := by decide +kernel
theorem ins_tl : tl (" in " : Str) = [32, 105, 110, 32] := by decide +kernel
def lineL : FRow → List Nat
  | (n, none) => tl ("account " : Str) ++ tl n
  | (n, some m) => tl ("account " : Str) ++ (tl n ++ (tl (" in " : Str) ++ tl m))
theorem tl_line (r : FRow) : tl (lineOf r) = lineL r := by
  obtain ⟨n, q⟩ := r
  unfold lineOf
  rw [join_eq, tl_join, sp_tl]
  cases q with
  | none =>
    show tl ("account" : Str) ++ ([32] ++ tl n) = tl ("account " : Str) ++ tl n
    rw [acc_tl, accs_tl]
    rfl
  | some m =>
    show tl ("account" : Str) ++ ([32] ++ (tl n ++ ([32] ++ (tl ("in" : Str) ++ ([32] ++ tl m))))) = tl ("account " : Str) ++ (tl n ++ (tl (" in " : Str) ++ tl m))
    rw [acc_tl, accs_tl, in_tl, ins_tl]
    rfl
theorem joinL_end (S : List Nat) : ∀ ls : List (List Nat), joinL S (ls ++ [[]]) = (ls.map (· ++ S)).flatten
  | [] => rfl
  | [p] => by
    show p ++ (S ++ []) = _
    simp
  | p :: q :: r => by
    have e := joinL_end S (q :: r)
    show p ++ (S ++ joinL S (q :: r ++ [[]])) = _
    rw [e]
    simp
theorem tl_text (rs : List FRow) : tl (textOf rs) = (rs.map fun r => lineL r ++ [10]).flatten := by
  unfold textOf
  rw [join_eq, tl_join, nl_tl, List.map_append, List.map_map]
  show joinL [10] (List.map (tl ∘ lineOf) rs ++ [[]]) = _
  rw [joinL_end, List.map_map]
  congr 1
  refine List.map_congr_left fun r _ => ?_
  show tl (lineOf r) ++ [10] = _
  rw [tl_line]
theorem text_nil : textOf [] = Str.empty := ext_tl (by rw [tl_text]; rfl)
theorem text_snoc (rs : List FRow) (r : FRow) : textOf (rs ++ [r]) = textOf rs ++ (⟨(lineL r ++ [10]).toArray⟩ : Str) := by
  refine ext_tl ?_
  rw [tl_append, tl_text, tl_text, tl_mk]
  simp
theorem word_ns {r : FRow} (h1 : nameOk r.1 = true) (h2 : ∀ m, r.2 = some m → nameOk m = true) : ∀ p ∈ wordsOf r, 32 ∉ tl p ∧ 10 ∉ tl p := by
  obtain ⟨n, q⟩ := r
  have nn : ∀ {x : Str}, nameOk x = true → 32 ∉ tl x ∧ 10 ∉ tl x := fun {x} h => ⟨fun z => by have := name_cps h _ z; omega, fun z => by have := name_cps h _ z; omega⟩
  have ha : 32 ∉ tl ("account" : Str) ∧ 10 ∉ tl ("account" : Str) := by rw [acc_tl]; decide
  have hi : 32 ∉ tl ("in" : Str) ∧ 10 ∉ tl ("in" : Str) := by rw [in_tl]; decide
  cases q with
  | none =>
    intro p hp
    simp only [wordsOf, List.mem_cons, List.not_mem_nil, or_false] at hp
    rcases hp with rfl | rfl
    · exact ha
    · exact nn h1
  | some m =>
    intro p hp
    simp only [wordsOf, List.mem_cons, List.not_mem_nil, or_false] at hp
    rcases hp with rfl | rfl | rfl | rfl
    · exact ha
    · exact nn h1
    · exact hi
    · exact nn (h2 _ rfl)
theorem wordsOf_ne (r : FRow) : wordsOf r ≠ [] := by
  obtain ⟨n, q⟩ := r
  cases q <;> simp [wordsOf]
theorem split_line {r : FRow} (h1 : nameOk r.1 = true) (h2 : ∀ m, r.2 = some m → nameOk m = true) : Txt.split (lineOf r) " " = wordsOf r :=
  split_join sp_tl (by decide +kernel) (wordsOf_ne r) fun p hp => (word_ns h1 h2 p hp).1
theorem line_nn {r : FRow} (h1 : nameOk r.1 = true) (h2 : ∀ m, r.2 = some m → nameOk m = true) : 10 ∉ tl (lineOf r) := by
  obtain ⟨n, q⟩ := r
  rw [tl_line]
  have w := word_ns h1 h2
  have a1 : 10 ∉ tl ("account " : Str) := by rw [accs_tl]; decide
  have a2 : 10 ∉ tl (" in " : Str) := by rw [ins_tl]; decide
  cases q with
  | none =>
    have wn := (w n (by simp [wordsOf])).2
    intro z
    rcases List.mem_append.mp (show 10 ∈ tl ("account " : Str) ++ tl n from z) with z | z
    · exact a1 z
    · exact wn z
  | some m =>
    have wn := (w n (by simp [wordsOf])).2
    have wm := (w m (by simp [wordsOf])).2
    intro z
    rcases List.mem_append.mp (show 10 ∈ tl ("account " : Str) ++ (tl n ++ (tl (" in " : Str) ++ tl m)) from z) with z | z
    · exact a1 z
    rcases List.mem_append.mp z with z | z
    · exact wn z
    rcases List.mem_append.mp z with z | z
    · exact a2 z
    · exact wm z
theorem split_text {rs : List FRow} (g : GoodF [] rs) : Txt.split (textOf rs) "\n" = rs.map lineOf ++ [Str.empty] := by
  refine split_join nl_tl (by decide +kernel) (by simp) fun p hp => ?_
  rcases List.mem_append.mp hp with h | h
  · obtain ⟨r, hr, rfl⟩ := List.mem_map.mp h
    obtain ⟨a, b⟩ := good_mem g hr
    exact line_nn a fun m hm => (b m hm).2
  · rw [List.mem_singleton.mp h]
    exact List.not_mem_nil
theorem line_len {r : FRow} (h1 : nameOk r.1 = true) (h2 : ∀ m, r.2 = some m → nameOk m = true) : (lineOf r).length ≤ 30 := by
  obtain ⟨n, q⟩ := r
  have l1 := (name_len h1).2
  have e : (lineOf (n, q)).length = (lineL (n, q)).length := by rw [← tl_line, tl_def, len_cps]
  rw [e]
  have ln : (tl n).length = n.length := len_cps n
  have la : (tl ("account " : Str)).length = 8 := by rw [accs_tl]; rfl
  have li : (tl (" in " : Str)).length = 4 := by rw [ins_tl]; rfl
  have l1 : n.length ≤ 8 := l1
  cases q with
  | none =>
    show (tl ("account " : Str) ++ tl n).length ≤ 30
    rw [List.length_append]
    omega
  | some m =>
    have l2 := (name_len (h2 m rfl)).2
    have lm : (tl m).length = m.length := len_cps m
    show (tl ("account " : Str) ++ (tl n ++ (tl (" in " : Str) ++ tl m))).length ≤ 30
    simp only [List.length_append]
    omega
/-- what a line of these words says -/
def readRow : List Str → Option FRow
  | [a, n] => if a = ("account" : Str) then some (n, none) else none
  | [a, n, i, m] => if a = ("account" : Str) ∧ i = ("in" : Str) then some (n, some m) else none
  | _ => none
theorem read_words (r : FRow) : readRow (wordsOf r) = some r := by
  obtain ⟨n, q⟩ := r
  cases q <;> simp [wordsOf, readRow]
/-- one text, one list of rows -/
theorem text_inj {rs rs' : List FRow} (g : GoodF [] rs) (g' : GoodF [] rs') (h : textOf rs = textOf rs') : rs = rs' := by
  have e := split_text g
  rw [h, split_text g'] at e
  have e2 : rs'.map lineOf = rs.map lineOf := List.append_cancel_right e
  have key : ∀ {rs : List FRow}, (∀ r ∈ rs, nameOk r.1 = true ∧ ∀ m, r.2 = some m → nameOk m = true) → (rs.map lineOf).map (fun l => readRow (Txt.split l " ")) = rs.map some := by
    intro rs hg
    rw [List.map_map]
    refine List.map_congr_left fun r hr => ?_
    obtain ⟨a, b⟩ := hg r hr
    show readRow (Txt.split (lineOf r) " ") = some r
    rw [split_line a b, read_words]
  have gg : ∀ {rs : List FRow}, GoodF [] rs → ∀ r ∈ rs, nameOk r.1 = true ∧ ∀ m, r.2 = some m → nameOk m = true := fun g r hr => ⟨(good_mem g hr).1, fun m hm => ((good_mem g hr).2 m hm).2⟩
  have k1 := key (gg g)
  have k2 := key (gg g')
  rw [e2, k1] at k2
  exact List.map_inj_right (fun _ _ e => Option.some.inj e) |>.mp k2
end Gf

set_option Elab.async false
set_option linter.all false
set_option maxRecDepth 100000
set_option maxHeartbeats 4000000
/-! tuple(dict), .. -/
namespace Gt
open PySem PySem.Spec PyProof.Rows L2 Gn Gr Gk Go
section
variable {prog : Program} {w : World} {A : Around} {E : Value → Shared → Prop} {s : Shared} {T : String} {r d : Addr} {n : Nat} {P : Nat → Value → Prop} {OK : Heap → Prop}
theorem collect_kdl {Q : List Value → Shared → Prop} (K : PySem.W.KdlSrc prog w T r d n P OK) (hh : A.handled = none) (hok : OK s.heap) (hn : n ≤ sizeLine)
    (hQ : ∀ (h' : Heap) (tk : Nat) (acc : Array Value), (∀ b o, s.heap.get? b = some o → h'.get? b = some o) → ItemsOf P acc n → Q acc.toList { s with heap := h', toks := tk }) :
    wpAny (model prog w) A (collect (.ref r)) Q E s := by
  unfold collect
  refine wpAny_bind (wpAny_runValue (codeAny_builtin F.entry_proto_collect ?_))
  rw [Around.under_plainId F.plain_proto_collect _]
  show wpAny _ A.in1 (newList [] >>= fun l => again (.builtin "list.__iadd__" ⟨[l, .ref r], []⟩)) _ _ s
  refine wpAny_bind (wpAny_newObj_type ?_)
  refine wpAny_pure ⟨plainId_quiet F.plain_list_iadd _, codeAny_builtin F.entry_list_iadd ?_⟩
  rw [Around.under_plainId F.plain_list_iadd _]
  show wpAny _ A.in1 (Builtin.List.listExtendWith (.ref s.heap.objs.size) (.ref r) (.ref s.heap.objs.size)) _ _ _
  have hS : (s.heap.push { cls := .type "list", data := .seq ([] : List Value).toArray }).get? s.heap.objs.size = some { cls := .type "list", data := .seq #[] 0 } := Heap.get?_push_size _ rfl
  have hlt := K.there _ hok
  refine wpAny_mono (PySem.W.kdl_extend (A := A) (R := fun rr s' => rr = .ok (.ret (.ref s.heap.objs.size)) ∧ ∃ (h' : Heap) (tk : Nat) (acc : Array Value) (c' : Nat), s' = { s with heap := h', toks := tk } ∧
      (∀ b o, s.heap.get? b = some o → h'.get? b = some o) ∧ h'.get? s.heap.objs.size = some { cls := .type "list", dict := none, data := .seq acc c', slots := #[] } ∧ ItemsOf P acc n)
    (s := { s with heap := s.heap.push { cls := .type "list", data := .seq ([] : List Value).toArray } }) K hh (K.keep _ _ hok fun b _ o e => Heap.get?_push_of_some _ e) s.heap.objs.size (Nat.ne_of_gt hlt.1) (Nat.ne_of_gt hlt.2) _ 0 hS
    (fun h' tk acc c' hk e hi => ⟨rfl, h', tk, acc, c', rfl, fun b o q => hk b o (Nat.ne_of_lt (Heap.lt_size q)) (Heap.get?_push_of_some _ q), e, hi⟩) hn) (fun fin s' h => ?_) (fun e s' h => ?_)
  · cases fin with
    | done f =>
      obtain ⟨e, h', tk, acc, c', rfl, hk, hS', hi⟩ := h
      cases e
      show wpAny _ A (load s.heap.objs.size >>= _) _ _ _
      exact wpAny_bind (wpAny_load hS' (wpAny_pure (hQ h' tk acc hk hi)))
    | again c' =>
      refine ⟨h.1, codeAny_mono h.2 fun rr s'' hr' => ?_⟩
      obtain ⟨rfl, h', tk, acc, c', rfl, hk, hS', hi⟩ := hr'
      show wpAny _ A (load s.heap.objs.size >>= _) _ _ _
      exact wpAny_bind (wpAny_load hS' (wpAny_pure (hQ h' tk acc hk hi)))
  · exact absurd h.1 (by simp)
theorem code_tuple_new_dict {Q₁ : Value → Shared → Prop} (K : PySem.W.KdlSrc prog w "dict" r d n P OK) (hh : A.handled = none) (hok : OK s.heap) (hn : n ≤ sizeLine)
    (h : ∀ (h' : Heap) (tk : Nat) (acc : Array Value), (∀ b o, s.heap.get? b = some o → h'.get? b = some o) → ItemsOf P acc n →
      Q₁ (.ref h'.objs.size) { s with heap := h'.push { cls := .type "tuple", data := .seq acc }, toks := tk }) :
    codeAny (model prog w) A (.call (.builtin "tuple.__new__") ⟨[.type "tuple", .ref r], []⟩) (wants Q₁ E) s := by
  refine codeAny_of_tree ?_
  show wpAny _ A.in1 (do checkBuiltinCall "tuple.__new__" ⟨[.type "tuple", .ref r], []⟩; again (.builtin "tuple.__new__" ⟨[.type "tuple", .ref r], []⟩)) _ _ s
  refine wpAny_bind (wpAny_of_eq (F.newCall_tuple_1 _) (wpAny_pure ⟨plainId_quiet F.plain_tuple_new _, codeAny_builtin F.entry_tuple_new ?_⟩))
  rw [Around.under_plainId F.plain_tuple_new _]
  have hsub := sub_tuple_self
  have hinit := init_tuple_lookup
  have hmh := madeHere_tuple
  have hTI : s.TypeIs (.ref r) "dict" := K.type _ hok
  have hh1 : A.in1.handled = none := hh
  wp_walk using wpAny_typeOf hTI, collect_kdl (A := A.in1) K hh1 hok hn
  intro h' tk acc hk hacc
  show wpAny _ _ (Builtin.Tuple.tupleExact acc.toList.toArray >>= fun v => ret v) _ _ _
  unfold Builtin.Tuple.tupleExact
  refine wpAny_bind (wpAny_newObj_type ?_ (by show acc.toList.toArray.size ≤ sizeLine; simp only [Array.toArray_toList]; rw [hacc.1]; exact hn))
  refine wpAny_pure ?_
  have e : acc.toList.toArray = acc := by simp
  rw [e]
  exact h h' tk acc hk hacc
theorem call_tuple_dict {Q : Value → Shared → Prop} (K : PySem.W.KdlSrc prog w "dict" r d n P OK) (hh : A.handled = none) (hok : OK s.heap) (hn : n ≤ sizeLine)
    (hQ : ∀ (h' : Heap) (tk : Nat) (acc : Array Value), (∀ b o, s.heap.get? b = some o → h'.get? b = some o) → ItemsOf P acc n →
      Q (.ref h'.objs.size) { s with heap := h'.push { cls := .type "tuple", data := .seq acc }, toks := tk }) :
    wpAny (model prog w) A (call (.type "tuple") [.ref r]) Q E s := by
  refine callType_codes (Q₁ := fun obj s₁ => s₁.TypeIs obj "tuple" ∧ Q obj s₁) F.called_tuple (F.typeCall_tuple_1 _) F.entry_object_init
    (code_tuple_new_dict (A := A.in1) K hh hok hn fun h' tk acc hk hacc => ⟨⟨_, Heap.get?_push_size _ rfl, rfl⟩, hQ h' tk acc hk hacc⟩) fun obj s₁ h₁ => ?_
  exact ⟨h₁.1, F.args_object_init_2 obj _, object_init_meets F.called_tuple.init.lookup F.called_tuple.made (by decide) prog w A.in1 _ s₁ ⟨h₁.1, rfl, h₁.2⟩⟩
end
/-- tuple(dict): a new tuple of its keys -/
def rTupD : List V → Hp → VK → Prop := fun xs H Q => ∃ p kvs, xs = [.ref p] ∧ H p = some (.dK kvs) ∧ ∀ q, H q = none → Q (.ref q) (upd H q (.tup (kvs.map fun kv => kV kv.1)))
theorem call_tuple_dK {X : Cx} (hc : X.calm = true) : CallR X (.type "tuple") rTupD := by
  intro pins s σ H xs us Q I r h
  obtain ⟨p, kvs, e, hk, q⟩ := h
  subst e
  obtain ⟨u, eu, rx⟩ := vals1 r
  subst eu
  obtain rfl : u = Value.ref p := rx
  obtain ⟨z, lo, vs, rk, hd⟩ := (show ObjOk X.prog X.w H s.heap p (.dK kvs) from I.hok p _ hk)
  obtain ⟨ep, hat⟩ := hd.dictAt
  have hl : kvs.length = vs.length := Paired.length rk
  refine call_tuple_dict (PySem.W.kdl_dict (knd := mixKind X.prog X.w) (kvs := vs) (ep := ep) lo) (I.ok.hd hc) hat (by rw [← hl]; exact z) fun h' tk acc hkeep hacc => ?_
  have I1 : Inv X pins σ H { s with heap := h' } := I.kept (t' := s.toks) hkeep
  have rr : Vals (kvs.map fun kv => kV kv.1) acc.toList := by
    have el : acc.toList.length = acc.size := by simp
    refine vals_of_at (by rw [List.length_map, el, hacc.1, hl]) fun j x w h1 h2 => ?_
    obtain ⟨k, y, hky, hi⟩ := hacc.2 j w (by rw [← Array.getElem?_toList]; exact h2)
    have e1 : (kvs.map (·.1))[j]? = some k := by
      rw [KV.keys rk, List.getElem?_map, hky] <;> rfl
    have e2 : (kvs.map fun kv => kV kv.1)[j]? = some (kV k) := by
      have e3 : (kvs.map fun kv => kV kv.1) = (kvs.map (·.1)).map kV := by rw [List.map_map] <;> rfl
      rw [e3, List.getElem?_map, e1] <;> rfl
    rw [e2] at h1
    cases h1
    exact keyIs_rel hi
  have I2 : Inv X pins σ (upd H h'.objs.size (.tup (kvs.map fun kv => kV kv.1))) { s with heap := h'.push { cls := .type "tuple", data := .seq acc }, toks := tk } :=
    I1.laid (t' := tk) (fun b o e => Heap.get?_push_of_some _ e) (Nat.le_refl _) (show ObjOk X.prog X.w _ _ _ (.tup (kvs.map fun kv => kV kv.1)) from ⟨by rw [List.length_map]; exact z, acc.toList, rr, by
      have := IsTup.new h' acc
      simpa using this⟩)
  exact ⟨.ref h'.objs.size, _, I2, rfl, q _ (I1.hok.fresh (Nat.le_refl _))⟩
/-- {k: v for ..} over a walk -/
theorem dc_it {J : It} {n : Nat} {G : Hp → Prop} {Y : Nat → Hp → V → Hp → Prop} (w : Walk J n G Y) {g : TG} {tt : TT} {tk tv : TE} {vs : List Nat} {σ : L2.St} {H1 : Hp} {D : Addr} {Qd : Hp → Prop} (Pv : Nat → Hp → Prop) (h0 : Pv 0 (upd H1 D (.dK []))) (hG : ∀ i H, i ≤ n → Pv i H → G H)
    (hs : ∀ i x H H', i < n → Pv i H → Y i H x H' → g x (wipe σ vs) H' fun σ2 H2 => wipe σ2 vs = wipe σ vs ∧ tt σ2 H2 fun b H3 =>
      if b = true then tk σ2 H3 fun y H4 => tv σ2 H4 fun z H5 => ∃ kvs k, y = kV k ∧ H5 D = some (.dK kvs) ∧ kvs.length < sizeLine ∧ Pv (i + 1) (upd H5 D (.dK (putK kvs k z))) else Pv (i + 1) H3) (hd : ∀ H, Pv n H → Qd H) :
    ∃ W : Nat → Nat → Hp → Prop, (∃ m, W 0 m (upd H1 D (.dK []))) ∧ ∀ i m H, W i m H →
      (J.stop i H ∧ Qd H) ∨ (J.go i H ∧ ∃ Nx : Hp → Prop, (∀ H', Nx H' → ∃ m', m' < m ∧ W (i + 1) m' H') ∧ ∀ x H', J.yld i H x H' → g x (wipe σ vs) H' fun σ2 H2 => wipe σ2 vs = wipe σ vs ∧ tt σ2 H2 fun b H3 =>
        if b = true then tk σ2 H3 fun y H4 => tv σ2 H4 fun z H5 => ∃ kvs k, y = kV k ∧ H5 D = some (.dK kvs) ∧ kvs.length < sizeLine ∧ Nx (upd H5 D (.dK (putK kvs k z))) else Nx H3) := by
  refine ⟨fun i m H => m = n - i ∧ i ≤ n ∧ Pv i H, ⟨n, by simp, Nat.zero_le _, h0⟩, ?_⟩
  rintro i m H ⟨rfl, hi, p⟩
  have q := hG i H hi p
  by_cases hlt : i < n
  · exact .inr ⟨w.goes i H hlt q, Pv (i + 1), fun H' p' => ⟨n - (i + 1), by omega, rfl, hlt, p'⟩, fun x H' y => hs i x H H' hlt p (w.yields i H x H' hlt q y)⟩
  · have e : i = n := by omega
    subst e
    exact .inl ⟨w.stops H q, hd H p⟩
end Gt

set_option Elab.async false
set_option linter.all false
set_option maxRecDepth 100000
set_option maxHeartbeats 4000000
/-! names and words, for any law -/
namespace Lw
open L2 hiding Ext
open PySem PySem.Spec PyProof.Rows Gn Gr Gk Go Gt Gf
theorem iteS {c A B : Prop} [Decidable c] (hc : c) (h : A) : if decide c = true then A else B := by
  rw [if_pos (decide_eq_true hc)]
  exact h
theorem iteN {c A B : Prop} [Decidable c] (hc : ¬ c) (h : B) : if decide c = true then A else B := by
  rw [if_neg (by rw [decide_eq_false hc]; exact Bool.false_ne_true)]
  exact h
theorem take_succ_map {α β : Type} {l : List α} {i : Nat} {c : α} (f : α → β) (h : l[i]? = some c) : (l.take (i + 1)).map f = (l.take i).map f ++ [f c] := by
  rw [List.take_add_one, h, List.map_append]
  rfl
theorem cps_at {z : Str} {i : Nat} {c : Nat} (h : z.cps[i]? = some c) : z.cps.toList[i]? = some c := by simpa using h
theorem cps_len (z : Str) : z.cps.toList.length = z.cps.size := by simp
theorem strs_flat (E : List Str) : (E.map V.str).all flatV = true := by
  rw [List.all_map]
  exact List.all_eq_true.mpr fun _ _ => rfl
theorem inV_strs (x : Str) (E : List Str) : inV (.str x) (E.map V.str) = decide (x ∈ E) := by
  unfold inV
  rw [List.any_map]
  induction E with
  | nil => simp
  | cons y r ih =>
    rw [List.any_cons, ih]
    show ((y == x) || _) = _
    by_cases e : y = x
    · subst e; simp
    · have e' : ¬ x = y := fun z => e z.symm
      simp [e, e']
theorem strlen (a b : Str) : (a ++ b).length = a.length + b.length := strLen_append a b
theorem sum_le {α : Type} (f : α → Nat) {b : Nat} : ∀ l : List α, (∀ x ∈ l, f x ≤ b) → (l.map f).sum ≤ l.length * b
  | [], _ => by simp
  | x :: r, h => by
    have h1 := h x (List.mem_cons_self ..)
    have h2 := sum_le f r fun y hy => h y (List.mem_cons_of_mem _ hy)
    rw [List.map_cons, List.sum_cons, List.length_cons, Nat.succ_mul]
    omega
/-! ### names -/
def lettersOnly (x : Str) : Prop := ∀ c ∈ x.cps.toList, c ∈ letters.cps.toList
theorem nameOk_of {x : Str} (h1 : 1 ≤ x.length) (h2 : x.length ≤ 8) (h : lettersOnly x) : nameOk x = true := by
  unfold nameOk
  rw [decide_eq_true h1, decide_eq_true h2, Bool.true_and, Bool.true_and]
  exact List.all_eq_true.mpr fun c hc => by simpa [isL] using h c hc
theorem lo_of {x : Str} (h : nameOk x = true) : lettersOnly x := by
  unfold nameOk at h
  simp only [Bool.and_eq_true, decide_eq_true_eq] at h
  intro c hc
  simpa [isL] using List.all_eq_true.mp h.2.2 c hc
theorem lo_app {x y : Str} (h : lettersOnly x) (k : lettersOnly y) : lettersOnly (x ++ y) := by
  intro c hc
  rw [cps_app] at hc
  exact (List.mem_append.mp hc).elim (h c) (k c)
theorem lo_cut {x : Str} (h : lettersOnly x) (lo hi : Option Int) : lettersOnly (cutS x lo hi) := by
  intro c hc
  unfold cutS at hc
  exact h c (List.mem_of_mem_drop (List.mem_of_mem_take (by simpa using hc)))
theorem cut6 (x : Str) : (cutS x none (some 6)).length ≤ 6 := by
  rw [← len_cps]
  unfold cutS
  show (List.take _ _).toArray.toList.length ≤ 6
  rw [List.toList_toArray, List.length_take]
  have : HT.sIx x.length x.length (some ((6 : Nat) : Int)) = min 6 x.length := HT.sIx_nat _ _ _
  have this : HT.sIx x.length x.length (some 6) = min 6 x.length := this
  rw [this]
  omega
theorem z_len : ("z" : Str).length = 1 := by decide +kernel
theorem z_lo : lettersOnly ("z" : Str) := by unfold lettersOnly; decide +kernel
def cand (x : Str) (c : Nat) : Str := cutS x none (some 6) ++ "z" ++ oneS' c
  where oneS' (c : Nat) : Str := ⟨#[c]⟩
theorem one_len (c : Nat) : (cand.oneS' c).length = 1 := rfl
theorem one_lo {c : Nat} (h : c ∈ letters.cps.toList) : lettersOnly (cand.oneS' c) := by
  intro b hb
  have : b = c := by simpa [cand.oneS'] using hb
  rw [this]
  exact h
theorem cand_ok {x : Str} (h : lettersOnly x) {c : Nat} (hc : c ∈ letters.cps.toList) : nameOk (cand x c) = true := by
  have h6 := cut6 x
  refine nameOk_of ?_ ?_ (lo_app (lo_app (lo_cut h _ _) z_lo) (one_lo hc))
  · unfold cand
    rw [strlen, strlen, z_len, one_len]
    omega
  · unfold cand
    rw [strlen, strlen, z_len, one_len]
    omega
theorem cand_inj {x : Str} {c c' : Nat} (h : cand x c = cand x c') : c = c' := by
  have e : (cand x c).cps.toList = (cand x c').cps.toList := by rw [h]
  unfold cand at e
  rw [cps_app, cps_app, cps_app, cps_app] at e
  have e2 := List.append_cancel_left e
  simpa [cand.oneS'] using e2
def cands (x : Str) : List Str := letters.cps.toList.map (cand x)
theorem nodup_map {α β : Type} {f : α → β} (hf : ∀ a b, f a = f b → a = b) : ∀ {l : List α}, l.Nodup → (l.map f).Nodup
  | [], _ => by simp
  | a :: r, h => by
    obtain ⟨h1, h2⟩ := List.nodup_cons.mp h
    refine List.nodup_cons.mpr ⟨fun z => ?_, nodup_map hf h2⟩
    obtain ⟨b, hb, e⟩ := List.mem_map.mp z
    exact h1 (hf _ _ e ▸ hb)
theorem cands_nodup (x : Str) : (cands x).Nodup := nodup_map (fun _ _ h => cand_inj h) (by decide +kernel)
theorem cands_len (x : Str) : (cands x).length = 26 := by
  unfold cands
  rw [List.length_map]
  decide +kernel
theorem pigeon : ∀ {ws fs : List Str}, ws.Nodup → (∀ x ∈ ws, x ∈ fs) → ws.length ≤ fs.length
  | [], _, _, _ => Nat.zero_le _
  | x :: ws, fs, hn, hs => by
    obtain ⟨n1, n2⟩ := List.nodup_cons.mp hn
    have hx := hs x (List.mem_cons_self ..)
    have q := pigeon (fs := fs.erase x) n2 fun y hy => (List.mem_erase_of_ne (fun e => n1 (by rw [← e]; exact hy))).mpr (hs y (List.mem_cons_of_mem _ hy))
    have := List.length_erase_of_mem hx
    have := List.length_pos_of_mem hx
    rw [List.length_cons]
    omega
theorem fresh_cand (x : Str) {fs : List Str} (h : fs.length ≤ 8) : ∃ w r, (cands x).filter (fun y => !decide (y ∈ fs)) = w :: r ∧ w ∈ cands x ∧ w ∉ fs := by
  cases e : (cands x).filter (fun y => !decide (y ∈ fs)) with
  | nil =>
    exfalso
    have := pigeon (cands_nodup x) (fs := fs) fun y hy => by
      by_cases m : y ∈ fs
      · exact m
      · have : y ∈ (cands x).filter (fun y => !decide (y ∈ fs)) := List.mem_filter.mpr ⟨hy, by simp [m]⟩
        rw [e] at this
        cases this
    rw [cands_len] at this
    omega
  | cons w r =>
    have hw : w ∈ (cands x).filter (fun y => !decide (y ∈ fs)) := by rw [e]; exact List.mem_cons_self ..
    obtain ⟨a, b⟩ := List.mem_filter.mp hw
    exact ⟨w, r, rfl, a, by simpa using b⟩
theorem join_len (ys : List Str) : (Txt.join Str.empty ys).cps.toList = (ys.map fun y => y.cps.toList).flatten := by
  show TL.tl _ = _
  rw [TL.join_eq, TL.tl_join, e_tl]
  have : ∀ ls : List (List Nat), TL.joinL [] ls = ls.flatten := by
    intro ls
    induction ls with
    | nil => rfl
    | cons p r ih =>
      cases r with
      | nil => show p = _; simp
      | cons q r =>
        show p ++ ([] ++ TL.joinL [] (q :: r)) = _
        rw [ih]
        simp
  rw [this]
theorem join_signs (cs : List Nat) : (Txt.join Str.empty (cs.map cand.oneS')).cps.toList = cs := by
  rw [join_len, List.map_map]
  induction cs with
  | nil => rfl
  | cons c r ih =>
    rw [List.map_cons, List.flatten_cons, ih]
    rfl
def ownText : Str := "account in join ask deposit release send lose copy withdraw arrive spent ideal total over"
def owns : List Str := Txt.split ownText " "
theorem owns_ok : ∀ w ∈ owns, nameOk w = true := by decide +kernel
theorem owns_len : owns.length = 15 := by decide +kernel
theorem filter_take {α : Type} {l : List α} {i : Nat} {c : α} (p : α → Bool) (h : l[i]? = some c) : (l.take (i + 1)).filter p = (l.take i).filter p ++ (if p c = true then [c] else []) := by
  rw [List.take_add_one, h, List.filter_append]
  show _ ++ List.filter p [c] = _
  cases e : p c <;> simp [e]
theorem sizes1128 : ∀ x ∈ ([.int 1, .int 1, .int 2, .int 8] : List V), ∃ j : Int, x = .int j ∧ 1 ≤ j ∧ j ≤ 8 := by
  intro x hx
  simp only [List.mem_cons, List.not_mem_nil, or_false] at hx
  rcases hx with rfl | rfl | rfl | rfl <;> exact ⟨_, rfl, by decide, by decide⟩
end Lw

set_option Elab.async false
set_option linter.all false
set_option maxRecDepth 100000
set_option maxHeartbeats 4000000
namespace Lw
open L2 hiding Ext
open PySem PySem.Spec PyProof.Rows Gn Gr Gk Go Gt Gf
section
variable {P : Program} {w : World} {K : PySem.W.Frag} {mg : Str → Option Value} {base : Heap}
/-- the built-in names, and the module's numbers and letters -/
structure Names (mg : Str → Option Value) : Prop where
  isi : mg "isinstance" = none
  str : mg "str" = none
  int : mg "int" = none
  bool : mg "bool" = none
  list : mg "list" = none
  tuple : mg "tuple" = none
  dict : mg "dict" = none
  len : mg "len" = none
  all : mg "all" = none
  enum : mg "enumerate" = none
  range : mg "range" = none
  min : mg "min" = none
  zip : mg "zip" = none
  repr : mg "repr" = none
  letters : ∃ t, mg "LETTERS" = some (.str letters t)
  longest : ∃ t, mg "LONGEST" = some (.int 8 t)
theorem scName : FnScope ["value", "letter"] ["value"] (defScope sName) := ⟨rfl, rfl, rfl, by decide +kernel, rfl, by decide +kernel, by decide +kernel⟩
theorem ok_name {f : Addr} {fd : FuncData} (F : Fun K "is_name" "is_name" sName f fd) (T : Names mg) : FnOk P w K mg base CX0 1 f fd ["value"] spName := by
  refine F.ok scName (fun vs H Q E h => ?_) (fun cdv A outer s H vs Q E hr h => ?_)
  · obtain ⟨v, r, rfl, _⟩ := h
    rfl
  · obtain ⟨v, r, rfl, hv, k⟩ := h
    have hu := hu_of hr
    have nd := scName.nd
    obtain ⟨t1, hL⟩ := T.letters
    obtain ⟨t2, hM⟩ := T.longest
    refine ⟨_, pss_cons (ps_if (pt_not (pt_val (pe_callB call_isi rfl T.isi (by decide +kernel) (pa_cons (pv 0) (pa_cons (pe_bltn (v := .ty "str") rfl T.str (by decide +kernel) rfl) pa_nil))))) (pss_one (ps_ret pe_bl)) pss_nil)
      (pss_cons (ps_if (PW.pt (pw_or (pt_cmpR op_lt (pe_callB call_len_str rfl T.len PySem.boot_len (pa_cons (pv 0) pa_nil)) pe_int (nomark _)) (pw_or1 (pt_cmpR op_gt (pe_callB call_len_str rfl T.len PySem.boot_len (pa_cons (pv 0) pa_nil)) (pe_glob (v := .int 8) rfl hM ⟨_, rfl⟩) (nomark _))))) (pss_one (ps_ret pe_bl)) pss_nil)
      (pss_one (ps_ret (pe_callB (cr_all rfl) rfl T.all (by decide +kernel) (pa_cons (pe_lc (own := [("letter", 1)]) (g := gName 1) (tt := tYes) rfl nd (pi_str (pv 0)) (blkOk_by (N := ["value", "letter"]) (sc := defScope sName) (by decide +kernel))
        (fun _ _ _ _ _ => pg_name (i := 1) nd rfl (.inl rfl)) (fun _ _ _ _ _ => pts_nil) (fun _ _ _ _ _ => pe_cmpR op_in_sign (pv 1) (pe_glob (v := .str letters) rfl hL ⟨_, rfl⟩) rfl)) pa_nil))))), ?_⟩
    rcases hv with ⟨x, rfl, hx, rfl⟩ | ⟨rfl, hv⟩
    · refine ⟨_, rfl, _, _, _, _, true, rfl, .ty _, (TyT.str x).x, kit_ty (by decide +kernel), true, rfl, iteF ?_⟩
      have hx1 := hx.1
      refine ⟨_, rfl, x, rfl, by rw [sizeLine_eq]; omega, _, _, rfl, rfl, _, rfl, ?_⟩
      unfold nameOk at k
      refine ite2 (fun e => ?_) (fun n1 => ?_)
      · refine iteT ?_
        have e : (x.length : Int) < 1 := of_decide_eq_true e
        rw [show decide (1 ≤ x.length) = false from decide_eq_false (by omega), Bool.false_and] at k
        exact k H Ext.refl
      · have n1 : ¬ (x.length : Int) < 1 := of_decide_eq_false (Bool.eq_false_iff.mpr n1)
        rw [show decide (1 ≤ x.length) = true from decide_eq_true (by omega), Bool.true_and] at k
        refine ⟨_, rfl, x, rfl, by rw [sizeLine_eq]; omega, _, _, rfl, rfl, _, rfl, ?_⟩
        refine ite2 (fun e => ?_) (fun n2 => ?_)
        · have e : (8 : Int) < x.length := of_decide_eq_true e
          rw [show decide (x.length ≤ 8) = false from decide_eq_false (by omega), Bool.false_and] at k
          exact k H Ext.refl
        · have n2 : ¬ (8 : Int) < x.length := of_decide_eq_false (Bool.eq_false_iff.mpr n2)
          rw [show decide (x.length ≤ 8) = true from decide_eq_true (by omega), Bool.true_and] at k
          refine ⟨_, rfl, x, rfl, fun D hD => ?_⟩
          refine lc_it walk_str (fun i H' => H' D = some (.lst (((x.cps.toList.take i).map isL).map V.bl)) ∧ Ext H H') ⟨upd_same, Ext.new hD⟩ (fun _ _ _ _ => trivial) ?_ ?_
          · rintro i y H1 H2 hi ⟨hd, he⟩ ⟨rfl, c, hc, rfl⟩
            refine ⟨rfl, yes_of ?_⟩
            refine ⟨_, rfl, c, _, rfl, rfl, _, hd, ?_, ?_, fun a o e => ?_⟩
            · have := len_cps x
              rw [List.length_map, List.length_map, List.length_take]
              exact small1000 (by omega)
            · rw [upd_same, take_succ_map isL (cps_at hc), List.map_append]
              rfl
            · rw [upd_ne (ne_of_none e hD)]
              exact he a o e
          · rintro H1 ⟨hd, he⟩
            refine ⟨D, _, rfl, SqL.of hd, ?_⟩
            rw [← cps_len, List.take_length, List.all_map]
            exact k H1 he
    · rcases hv with h | h | h | h | h | h <;> exact ⟨_, rfl, _, _, _, _, false, rfl, .ty _, h.x, kit_ty (by decide +kernel), false, rfl, iteT (k H Ext.refl)⟩
/-! ### is_row, of a row that may stand there -/
def RowAt (H : Hp) (v : V) (r : FRow) : Prop := ∃ p, v = V.ref p ∧ H p = some (.tup [.str r.1, parV r.2])
def RowsAt (H : Hp) (vs : List V) (rs : List FRow) : Prop := vs.length = rs.length ∧ ∀ (i : Nat) (r : FRow), rs[i]? = some r → ∃ p, vs[i]? = some (V.ref p) ∧ H p = some (.tup [.str r.1, parV r.2])
theorem RowsAt.ext {H H' : Hp} {vs : List V} {rs : List FRow} (h : RowsAt H vs rs) (k : Ext H H') : RowsAt H' vs rs :=
  ⟨h.1, fun i r hr => by obtain ⟨p, a, b⟩ := h.2 i r hr; exact ⟨p, a, k _ _ b⟩⟩
def spRow : Sp := fun vs H Q _ => ∃ (v : V) (e : Addr) (r : FRow) (E : List Str), vs = [v, .ref e] ∧ RowAt H v r ∧ H e = some (.lst (E.map V.str)) ∧ RowOk E r ∧ ∀ H', Ext H H' → Q (.bl true) H'
theorem scRow : FnScope ["value", "earlier", "name", "parent"] ["value", "earlier"] (defScope sRow) := ⟨rfl, rfl, rfl, by decide +kernel, rfl, by decide +kernel, by decide +kernel⟩
theorem ok_row {f fN : Addr} {fd fdN : FuncData} (F : Fun K "is_row" "is_row" sRow f fd) (T : Names mg) (GN : FnOk P w K mg base CX0 1 fN fdN ["value"] spName) (bN : Binds K fdN ["value"] []) (kN : PySem.W.keepIn K (.ref fN) = true) (mN : mg "is_name" = some (.ref fN)) :
    FnOk P w K mg base CX0 2 f fd ["value", "earlier"] spRow := by
  refine F.ok scRow (fun vs H Q E h => ?_) (fun cdv A outer s H vs Q E hr h => ?_)
  · obtain ⟨v, e, r, E, rfl, _⟩ := h
    rfl
  · obtain ⟨v, e, r, E, rfl, ⟨p, rfl, hp⟩, he, ⟨r1, r2, r3⟩, k⟩ := h
    have hu := hu_of hr
    have nd := scRow.nd
    refine ⟨_, pss_cons (ps_if (PW.pt (pw_or (pt_not (pt_val (pe_callB call_isi rfl T.isi (by decide +kernel) (pa_cons (pv 0) (pa_cons (pe_bltn (v := .ty "tuple") rfl T.tuple (by decide +kernel) rfl) pa_nil))))) (pw_or1 (pt_cmpR op_ne (pe_callB call_len_seq rfl T.len PySem.boot_len (pa_cons (pv 0) pa_nil)) pe_int (nomark _))))) (pss_one (ps_ret pe_bl)) pss_nil)
      (pss_cons (ps_asg (pv 0) (by exact (pg_tup rfl (pgs_cons (pg_name (i := 2) nd rfl (.inl rfl)) (pgs_cons (pg_name (i := 3) nd rfl (.inl rfl)) pgs_nil)))))
      (pss_cons (ps_if (PW.pt (pw_or (pt_not (pt_val (pe_call GN hr rfl mN kN bN .nil pass0 (pa_cons (pv 2) pa_nil)))) (pw_or1 (pt_cmpR op_in_seq (pv 2) (pv 1) rfl)))) (pss_one (ps_ret pe_bl)) pss_nil)
      (pss_one (ps_ret (pe_or (pe_cmpR op_isN (pv 3) pe_non (nomark _)) (pe_one (pe_cmpR op_in_seq (pv 3) (pv 1) rfl))))))), ?_⟩
    refine ⟨_, rfl, _, _, _, _, true, rfl, .ty _, (TyT.tup hp).x, kit_ty (by decide +kernel), true, rfl, iteF ?_⟩
    refine ⟨_, rfl, p, _, rfl, .inr (SqT.of hp), rfl, _, rfl, iteNS rfl ?_⟩
    refine ⟨_, rfl, p, _, rfl, SqT.of hp, rfl, _, _, rfl, _, _, rfl, rfl, ?_⟩
    refine ⟨_, rfl, _, _, rfl, .inl ⟨r.1, rfl, name_asc19 r1, rfl⟩, fun H1 k1 => ?_⟩
    rw [r1]
    refine ⟨true, rfl, iteF ?_⟩
    refine ⟨_, rfl, _, rfl, e, _, rfl, .inl (SqL.of (k1 _ _ he)), rfl, strs_flat E, _, rfl, ?_⟩
    rw [inV_strs, decide_eq_false r2]
    refine iteF ?_
    refine ⟨_, rfl, rfl, ?_⟩
    cases e2 : r.2 with
    | none =>
      refine ⟨true, rfl, iteT ?_⟩
      exact k _ k1
    | some m =>
      refine ⟨false, rfl, iteF ?_⟩
      refine ⟨_, rfl, _, rfl, e, _, rfl, .inl (SqL.of (k1 _ _ he)), rfl, strs_flat E, ?_⟩
      show Q (.bl (inV (.str m) (E.map V.str))) H1
      rw [inV_strs, decide_eq_true (r3 m e2)]
      exact k _ k1
/-! ### first_wrong, of rows of a forest -/
def spWrong (K : PySem.W.Frag) : Sp := fun vs H Q _ => ∃ (l : Addr) (xs : List V) (rs : List FRow), vs = [.ref l] ∧ SqL K H l xs ∧ (∀ H', Ext H H' → SqL K H' l xs) ∧ RowsAt H xs rs ∧ GoodF [] rs ∧ rs.length ≤ 1000 ∧ ∀ H', Ext H H' → Q (.int rs.length) H'
theorem scWrong : FnScope ["rows", "earlier", "at", "row"] ["rows"] (defScope sWrong) := ⟨rfl, rfl, rfl, by decide +kernel, rfl, by decide +kernel, by decide +kernel⟩
theorem ok_wrong {f fR : Addr} {fd fdR : FuncData} (F : Fun K "first_wrong" "first_wrong" sWrong f fd) (T : Names mg) (GR : FnOk P w K mg base CX0 2 fR fdR ["value", "earlier"] spRow) (bR : Binds K fdR ["value", "earlier"] []) (kR : PySem.W.keepIn K (.ref fR) = true) (mR : mg "is_row" = some (.ref fR)) :
    FnOk P w K mg base CX0 3 f fd ["rows"] (spWrong K) := by
  refine F.ok scWrong (fun vs H Q E h => ?_) (fun cdv A outer s H vs Q E hr h => ?_)
  · obtain ⟨l, xs, rs, rfl, _⟩ := h
    rfl
  · obtain ⟨l, xs, rs, rfl, hl, hlk, hR, hg, hn, k⟩ := h
    have hu := hu_of hr
    have nd := scWrong.nd
    refine ⟨_, pss_cons (ps_set (i := 1) nd rfl (.inl rfl) (pe_lst pa_nil))
      (pss_cons (ps_for PassesOwn.never rfl (pi_enum rfl T.enum (pa_cons (pv 0) pa_nil)) (by exact (pg_tup rfl (pgs_cons (pg_name (i := 2) nd rfl (.inl rfl)) (pgs_cons (pg_name (i := 3) nd rfl (.inl rfl)) pgs_nil))))
        (pss_cons (ps_if (pt_not (pt_val (pe_call GR hr rfl mR kR bR .nil pass0 (pa_cons (pv 3) (pa_cons (pv 1) pa_nil))))) (pss_one (ps_ret (pv 2))) pss_nil)
        (pss_one (ps_expr (pe_bm PySem.F.plainAttrs_list PySem.F.slot_list_append PySem.F.type_list_append mt_append (pv 1) (pa_cons (pe_ix ix_tup (pv 3) pe_int (fun _ _ => rfl)) pa_nil))))))
      (pss_one (ps_ret (pe_callB call_len_seq rfl T.len PySem.boot_len (pa_cons (pv 0) pa_nil))))), ?_⟩
    refine ⟨Nat.zero_le _, fun e he => ?_⟩
    refine ⟨_, rfl, l, xs, rfl, hlk _ (Ext.new he), ?_⟩
    refine for_it walk_enum (fun i σ H' => ∃ (v2 v3 : Option V), σ = [some (.ref l), some (.ref e), v2, v3] ∧ H' e = some (.lst ((fNames (rs.take i)).map V.str)) ∧ Ext H H') ⟨none, none, rfl, upd_same, Ext.new he⟩ (fun i σ H' _ ⟨_, _, _, _, k1⟩ => hlk _ k1) ?_ ?_
    · rintro i x σ H1 H2 hi ⟨v2, v3, rfl, e1, k1⟩ ⟨t, a, b, rfl, ht, rfl, ea, eb⟩
      have ea : some (V.int (i : Nat)) = some a := ea
      cases ea
      have hir : i < rs.length := by have := hR.1; omega
      obtain ⟨p, h1, h2⟩ := hR.2 i _ (List.getElem?_eq_getElem hir)
      have eb : xs[i]? = some b := eb
      rw [h1] at eb
      cases eb
      have ok := good_at hg (List.getElem?_eq_getElem hir)
      rw [List.nil_append] at ok
      have k2 : Ext H (upd H1 t (.tup [.int (i : Nat), .ref p])) := k1.trans (Ext.new ht)
      have e2 : (upd H1 t (.tup [.int (i : Nat), .ref p])) e = some (.lst ((fNames (rs.take i)).map V.str)) := new_same ht _ _ e1
      refine ⟨t, _, rfl, SqT.of upd_same, rfl, _, _, rfl, _, _, rfl, rfl, ?_⟩
      refine ⟨_, rfl, _, rfl, _, e, rs[i], fNames (rs.take i), rfl, ⟨p, rfl, k2 _ _ h2⟩, e2, ok, fun H3 k3 => ?_⟩
      refine ⟨true, rfl, iteF ?_⟩
      have e3 := k3 _ _ e2
      refine ⟨_, rfl, .inl ⟨rfl, _, SqL.of e3⟩, _, rfl, p, _, _, _, rfl, rfl, SqT.of ((k2.trans k3) _ _ h2), rfl, e, _, _, rfl, rfl, e3, ?_, ?_⟩
      · rw [sizeLine_eq, List.length_map, fNames, List.length_map, List.length_take]
        omega
      · refine ⟨_, _, rfl, ?_, fun a o ha => ?_⟩
        · rw [upd_same, names_take, names_take]
          show _ = some (HO.lst (((fNames rs).take (i + 1)).map V.str))
          rw [List.map_take, List.map_take, List.take_add_one]
          have : (List.map V.str (fNames rs))[i]? = some (V.str rs[i].1) := by
            rw [List.getElem?_map, fNames, List.getElem?_map, List.getElem?_eq_getElem hir]
            rfl
          rw [this]
          rfl
        · rw [upd_ne (ne_of_none ha he)]
          exact k3 _ _ (k2 _ _ ha)
    · rintro σ H1 ⟨v2, v3, rfl, e1, k1⟩
      refine ⟨_, rfl, l, xs, rfl, .inl (hlk _ k1), ?_⟩
      rw [hR.1]
      exact k _ k1
end
end Lw

set_option Elab.async false
set_option linter.all false
set_option maxRecDepth 100000
set_option maxHeartbeats 4000000
namespace Lw
open L2 hiding Ext
open PySem PySem.Spec PyProof.Rows Gn Gr Gk Go Gt Gf
/-- what of the text the class Forest has -/
structure FC (K : PySem.W.Frag) (mg : Str → Option Value) (C fI : Addr) (mc : Value) : Prop where
  cl : Cls K C
  make : Mk K C fI
  nP : NoAttr K C "_parents"
  cr : ClX.CRead K C mc
  most : ∃ u, ClX.CVal K C mc "MOST" (.int 8) u
  ha : PySem.W.findIn K (.ref C) "__class__" = some (some (.builtin "object.__class__"))
  hn : PySem.W.specialIn K (.builtin "object.__class__") "__get__" = some (some (.builtin "getset_descriptor.__get__"))
  htk : PySem.W.takesIn K (.builtin "object.__class__") = some true
  hm : PySem.W.mroIn K C (.type "object") = some true
  self : PySem.W.kitOne K (.ref C) (.ref C) = some true
  g : mg "Forest" = some (.ref C)
def kvs (rs : List FRow) : List (Key × V) := rs.map kvOf
def FoAt (C : Addr) (H : Hp) (a : Addr) (rs : List FRow) : Prop := ∃ dx q, H a = some (.ins C dx [("_parents", .ref q)]) ∧ H q = some (.dK (kvs rs))
theorem FoAt.ext {C a : Addr} {H H' : Hp} {rs : List FRow} (h : FoAt C H a rs) (k : Ext H H') : FoAt C H' a rs := by
  obtain ⟨dx, q, h1, h2⟩ := h
  exact ⟨dx, q, k _ _ h1, k _ _ h2⟩
def Good (rs : List FRow) : Prop := 1 ≤ rs.length ∧ rs.length ≤ 8 ∧ GoodF [] rs
theorem kvs_none {rs : List FRow} {n : Str} (h : n ∉ fNames rs) : valV (kvs rs) (Sum.inr n : Key) = none := by
  induction rs with
  | nil => rfl
  | cons r t ih =>
    have h1 : ¬ r.1 = n := fun e => h (by simp [fNames, e])
    have h2 : n ∉ fNames t := fun e => h (List.mem_cons_of_mem _ e)
    show valV ((Sum.inr r.1, parV r.2) :: kvs t) (Sum.inr n : Key) = none
    rw [valV_neg (fun e => h1 (Sum.inr.inj e))]
    exact ih h2
theorem kvs_some : ∀ {rs : List FRow} {r : FRow}, (fNames rs).Nodup → r ∈ rs → valV (kvs rs) (Sum.inr r.1 : Key) = some (parV r.2)
  | [], _, _, h => by cases h
  | x :: t, r, hn, h => by
    have hn' : (x.1 :: fNames t).Nodup := hn
    obtain ⟨n1, n2⟩ := List.nodup_cons.mp hn'
    show valV ((Sum.inr x.1, parV x.2) :: kvs t) (Sum.inr r.1 : Key) = _
    rcases List.mem_cons.mp h with rfl | h
    · exact valV_pos rfl
    · have ne : ¬ x.1 = r.1 := fun e => n1 (by rw [e]; exact List.mem_map.mpr ⟨r, h, rfl⟩)
      rw [valV_neg (fun e => ne (Sum.inr.inj e))]
      exact kvs_some n2 h
section
variable {P : Program} {w : World} {K : PySem.W.Frag} {mg : Str → Option Value} {base : Heap} {C fI : Addr} {mc : Value}
theorem FC.ty (T : FC K mg C fI mc) {H : Hp} {a dx : Addr} {fs : List (Str × V)} (h : H a = some (.ins C dx fs)) : TyX K H (.ref a) (.ref C) := .base (.ins h T.cl T.ha T.hn T.htk T.hm)
/-! ### Forest.__init__ -/
def spInit (C : Addr) : Sp := fun vs H Q _ => ∃ (x l dx : Addr) (xs : List V) (rs : List FRow), vs = [.ref x, .ref l] ∧ H x = some (.ins C dx []) ∧ H l = some (.lst xs) ∧ RowsAt H xs rs ∧ Good rs ∧
  ∀ H' D, (∀ a o, a ≠ x → H a = some o → H' a = some o) → H' x = some (.ins C dx [("_parents", .ref D)]) → H' D = some (.dK (kvs rs)) → Q .non H'
theorem scInit : FnScope ["self", "rows", "name", "parent"] ["self", "rows"] (defScope sInit) := ⟨rfl, rfl, rfl, by decide +kernel, rfl, by decide +kernel, by decide +kernel⟩
theorem ok_init {f fW : Addr} {fd fdW : FuncData} (F : Fun K "__init__" "Forest.__init__" sInit f fd) (T : Names mg) (Z : FC K mg C fI mc) (GW : FnOk P w K mg base CX0 3 fW fdW ["rows"] (spWrong K)) (bW : Binds K fdW ["rows"] []) (kW : PySem.W.keepIn K (.ref fW) = true) (mW : mg "first_wrong" = some (.ref fW)) :
    FnOk P w K mg base CX0 4 f fd ["self", "rows"] (spInit C) := by
  refine F.ok scInit (fun vs H Q E h => ?_) (fun cdv A outer s H vs Q E hr h => ?_)
  · obtain ⟨x, l, dx, xs, rs, rfl, _⟩ := h
    rfl
  · obtain ⟨x, l, dx, xs, rs, rfl, hx, hl, hR, ⟨g1, g8, hg⟩, k⟩ := h
    have hu := hu_of hr
    have nd := scInit.nd
    obtain ⟨um, hM⟩ := Z.most
    refine ⟨_, pss_cons (ps_if (pt_not (pt_val (pe_callB call_isiT rfl T.isi (by decide +kernel) (pa_cons (pv 1) (pa_cons (pe_tup (pa_cons (pe_bltn (v := .ty "list") rfl T.list (by decide +kernel) rfl) (pa_cons (pe_bltn (v := .ty "tuple") rfl T.tuple (by decide +kernel) rfl) pa_nil))) pa_nil))))) pss_never pss_nil)
      (pss_cons (ps_if (PW.pt (pw_or (pt_cmpR op_lt (pe_callB call_len_seq rfl T.len PySem.boot_len (pa_cons (pv 1) pa_nil)) pe_int (nomark _)) (pw_or1 (pt_cmpR op_gt (pe_callB call_len_seq rfl T.len PySem.boot_len (pa_cons (pv 1) pa_nil)) (ClX.pe_cval (pe_glob (v := .ref C) rfl Z.g rfl)) (nomark _))))) pss_never pss_nil)
      (pss_cons (ps_if (pt_cmpR op_lt (pe_call GW hr rfl mW kW bW .nil pass0 (pa_cons (pv 1) pa_nil)) (pe_callB call_len_seq rfl T.len PySem.boot_len (pa_cons (pv 1) pa_nil)) (nomark _)) pss_never pss_nil)
      (pss_one (ps_fld (pv 0) (pe_dc (own := [("name", 2), ("parent", 3)]) (g := gTup K 2 (gCons (gName 2) (gCons (gName 3) gNil))) (tt := tYes) rfl nd (pi_list (pv 1)) (blkOk_by (N := ["self", "rows", "name", "parent"]) (sc := defScope sInit) (by decide +kernel))
        (fun _ _ _ _ _ => by exact (pg_tup rfl (pgs_cons (pg_name (i := 2) nd rfl (.inl rfl)) (pgs_cons (pg_name (i := 3) nd rfl (.inl rfl)) pgs_nil)))) (fun _ _ _ _ _ => pts_nil) (fun _ _ _ _ _ => pv 2) (fun _ _ _ _ _ => pv 3)) rfl)))), ?_⟩
    have hlen : xs.length = rs.length := hR.1
    refine ⟨_, rfl, by show 2 ≤ sizeLine; decide, fun tp htp => ?_⟩
    have hx1 := new_same (o := .tup [.ty "list", .ty "tuple"]) htp _ _ hx
    have hl1 := new_same (o := .tup [.ty "list", .ty "tuple"]) htp _ _ hl
    have k1 : Ext H (upd H tp (.tup [.ty "list", .ty "tuple"])) := Ext.new htp
    have ht1 : (upd H tp (.tup [.ty "list", .ty "tuple"])) tp = some (.tup [.ty "list", .ty "tuple"]) := upd_same
    generalize upd H tp (.tup [.ty "list", .ty "tuple"]) = H1 at hx1 hl1 k1 ht1 ⊢
    refine ⟨_, tp, _, _, [.type "list", .type "tuple"], true, rfl, ht1, .cons (.ty _) (.cons (.ty _) .nil), (TyT.lst hl1).x, kitAny_cons (b := true) (kit_ty (by decide +kernel)) (fun z => by cases z) (fun _ => rfl), true, rfl, iteF ?_⟩
    refine ⟨_, rfl, l, _, rfl, .inl (SqL.of hl1), _, _, rfl, rfl, _, rfl, iteN (by omega) ?_⟩
    refine ⟨_, rfl, l, _, rfl, .inl (SqL.of hl1), C, mc, _, um, rfl, Z.cr, hM, _, _, rfl, rfl, _, rfl, iteN (by omega) ?_⟩
    refine ⟨_, rfl, l, xs, rs, rfl, SqL.of hl1, fun H' k' => SqL.of (k' _ _ hl1), hR.ext k1, hg, by omega, fun H2 k2 => ?_⟩
    have hl2 := k2 _ _ hl1
    have hx2 := k2 _ _ hx1
    refine ⟨_, rfl, l, _, rfl, .inl (SqL.of hl2), _, _, rfl, rfl, _, rfl, iteN (by omega) ?_⟩
    refine ⟨_, rfl, l, rfl, ⟨_, SqL.of hl2⟩, fun D hD => ?_⟩
    refine dc_it walk_list (fun i H' => H' D = some (.dK (kvs (rs.take i))) ∧ Ext H2 H') ⟨upd_same, Ext.new hD⟩ (fun i H' _ ⟨_, e⟩ => SqL.of (e _ _ hl2)) ?_ ?_
    · rintro i y H3 H4 hi ⟨d3, k3⟩ ⟨rfl, hy⟩
      have hir : i < rs.length := by omega
      obtain ⟨p, h1, h2⟩ := hR.2 i _ (List.getElem?_eq_getElem hir)
      rw [h1] at hy
      cases hy
      have ok := good_at hg (List.getElem?_eq_getElem hir)
      rw [List.nil_append] at ok
      refine ⟨p, _, rfl, SqT.of (k3 _ _ (k2 _ _ (k1 _ _ h2))), rfl, _, _, rfl, _, _, rfl, rfl, rfl, yes_of ?_⟩
      refine ⟨_, rfl, _, rfl, kvs (rs.take i), (Sum.inr rs[i].1 : Key), rfl, d3, ?_, ?_, fun a o ha => ?_⟩
      · rw [sizeLine_eq, kvs, List.length_map, List.length_take]
        omega
      · rw [upd_same, putK_new _ (kvs_none ok.2.1)]
        show _ = some (HO.dK ((rs.take (i + 1)).map kvOf))
        rw [take_succ_map kvOf (List.getElem?_eq_getElem hir)]
        rfl
      · rw [upd_ne (ne_of_none ha hD)]
        exact k3 _ _ ha
    · rintro H3 ⟨d3, k3⟩
      rw [hlen, List.take_length] at d3
      refine ⟨_, rfl, x, C, dx, [], rfl, k3 _ _ hx2, Z.cl, Z.nP, by decide, ?_⟩
      refine k _ D (fun a o na ha => ?_) upd_same ?_
      · rw [upd_ne na]
        exact k3 _ _ (k2 _ _ (k1 _ _ ha))
      · rw [upd_ne (ne_of_none hx2 hD).symm]
        exact d3
theorem keys_strs (rs : List FRow) : ((kvs rs).map fun kv => kV kv.1) = (fNames rs).map V.str := by
  unfold kvs fNames
  rw [List.map_map, List.map_map]
  rfl
/-! ### names -/
def spNames (C : Addr) : Sp := fun vs H Q _ => ∃ (a : Addr) (rs : List FRow), vs = [.ref a] ∧ FoAt C H a rs ∧ ∀ H' t, Ext H H' → H t = none → H' t = some (.tup ((fNames rs).map V.str)) → Q (.ref t) H'
theorem scNames : FnScope ["self"] ["self"] (defScope sNames) := ⟨rfl, rfl, rfl, by decide +kernel, rfl, by decide +kernel, by decide +kernel⟩
theorem ok_names {f : Addr} {fd : FuncData} (F : Fun K "names" "Forest.names" sNames f fd) (T : Names mg) (Z : FC K mg C fI mc) : FnOk P w K mg base CX0 1 f fd ["self"] (spNames C) := by
  refine F.ok scNames (fun vs H Q E h => ?_) (fun cdv A outer s H vs Q E hr h => ?_)
  · obtain ⟨a, rs, rfl, _⟩ := h
    rfl
  · obtain ⟨a, rs, rfl, ⟨dx, q, h1, h2⟩, k⟩ := h
    refine ⟨_, pss_one (ps_ret (pe_callTy (call_tuple_dK rfl) rfl T.tuple (by decide +kernel) (pa_cons (pe_fld (pv 0) rfl) pa_nil))), ?_⟩
    refine ⟨_, rfl, a, C, dx, _, _, rfl, h1, Z.cl, Z.nP, rfl, q, _, rfl, h2, fun t ht => ?_⟩
    rw [keys_strs]
    exact k _ t (Ext.new ht) ht upd_same
end
end Lw

set_option Elab.async false
set_option linter.all false
set_option maxRecDepth 100000
set_option maxHeartbeats 4000000
namespace Lw
open L2 hiding Ext
open PySem PySem.Spec PyProof.Rows Gn Gr Gk Go Gt Gf
section
variable {P : Program} {w : World} {K : PySem.W.Frag} {mg : Str → Option Value} {base : Heap}
/-- the two defs that draw, as they stand -/
structure Draw (P : Program) (w : World) (K : PySem.W.Frag) (mg : Str → Option Value) (base : Heap) (ns : List Int) (fT fP : Addr) (fdT fdP : FuncData) : Prop where
  GT : FnOk P w K mg base CX0 2 fT fdT ["_law_state", "_law_size"] (spTake ns)
  bT : Binds K fdT ["_law_state", "_law_size"] []
  kT : PySem.W.keepIn K (.ref fT) = true
  mT : mg "_law_take" = some (.ref fT)
  GP : FnOk P w K mg base CX0 3 fP fdP ["_law_state", "_law_some"] (spPick K ns)
  bP : Binds K fdP ["_law_state", "_law_some"] []
  kP : PySem.W.keepIn K (.ref fP) = true
  mP : mg "_law_pick" = some (.ref fP)
  len : mg "len" = none
  range : mg "range" = none
/-! ### _law_words -/
abbrev nWords : List Str := ["_law_state", "_law_size", "_law_own", "_law_letters", "_law_found", "_law_k", "_law_word", "_law_j", "_law_letter", "_law_other"]
def spWords (ns : List Int) : Sp := fun vs H Q _ => ∃ (d g c : Addr) (b : Nat) (z : Int), vs = [.ref d, .int z] ∧ Dw ns d g c b H ∧ b ≤ 900000000 ∧ 0 ≤ z ∧ z ≤ 9 ∧
  ∀ (l : Addr) (ws : List Str) (H' : Hp), H l = none → l ≠ d → l ≠ g → H' l = some (.lst (ws.map V.str)) → ws.length = z.toNat → ws.Nodup → (∀ x ∈ ws, nameOk x = true) → Dw ns d g c (b + 200) H' → Kp d g H H' → Q (.ref l) H'
theorem scWords : FnScope nWords ["_law_state", "_law_size"] (defScope sWords) := ⟨rfl, rfl, rfl, by decide +kernel, rfl, by decide +kernel, by decide +kernel⟩
theorem ok_words {f fT fP : Addr} {fd fdT fdP : FuncData} (ns : List Int) (F : Fun K "_law_words" "_law_words" sWords f fd) (R : Draw P w K mg base ns fT fP fdT fdP) : FnOk P w K mg base CX0 4 f fd ["_law_state", "_law_size"] (spWords ns) := by
  refine F.ok scWords (fun vs H Q E h => ?_) (fun cdv A outer s H vs Q E hr h => ?_)
  · obtain ⟨d, g, c, b, z, rfl, _⟩ := h
    rfl
  · obtain ⟨d, g, c, b, z, rfl, D, hb, z0, z8, k⟩ := h
    have hu := hu_of hr
    have nd := scWords.nd
    have hr2 : Room 2 (A.deeper (envOfC "_law_words" (defScope sWords) s.heap.objs.size f cdv)) := hr.mono (by decide)
    refine ⟨_, pss_cons (ps_set (i := 2) nd rfl (.inl rfl) (pe_split pe_str pe_str))
      (pss_cons (ps_asg (pe_tup (pa_cons pe_str (pa_cons (pe_lst pa_nil) pa_nil))) (by exact (pg_tup rfl (pgs_cons (pg_name (i := 3) nd rfl (.inr rfl)) (pgs_cons (pg_name (i := 4) nd rfl (.inr rfl)) pgs_nil)))))
      (pss_cons (ps_for PassesOwn.never rfl (pi_range1 rfl R.range (pa_cons (pv 1) pa_nil)) (pg_name (i := 5) nd rfl (.inl rfl))
        (pss_cons (ps_set (i := 6) nd rfl (.inr rfl) (pe_call R.GP hr rfl R.mP R.kP R.bP .nil pass0 (pa_cons (pv 0) (pa_cons (pv 2) pa_nil))))
        (pss_cons (ps_if (pt_cmpR op_gt (pe_call R.GT hr2 rfl R.mT R.kT R.bT .nil pass0 (pa_cons (pv 0) (pa_cons pe_int pa_nil))) pe_int (nomark _))
          (pss_one (ps_set (i := 6) nd rfl (.inr rfl) (pe_join pe_str (pe_lc (own := [("_law_j", 7)]) (g := gName 7) (tt := tYes) rfl nd (pi_range1 rfl R.range (pa_cons (pe_call R.GP hr rfl R.mP R.kP R.bP .nil pass0 (pa_cons (pv 0) (pa_cons (pe_lst (pa_cons pe_int (pa_cons pe_int (pa_cons pe_int (pa_cons pe_int pa_nil))))) pa_nil))) pa_nil)) (blkOk_by (N := nWords) (sc := defScope sWords) (by decide +kernel))
            (fun _ _ _ _ _ => pg_name (i := 7) nd rfl (.inl rfl)) (fun _ _ _ _ _ => pts_nil) (fun _ _ _ _ _ => pe_call R.GP hr rfl R.mP R.kP R.bP .nil pass0 (pa_cons (pv 0) (pa_cons (pv 3) pa_nil))))))) pss_nil)
        (pss_cons (ps_if (pt_cmpR op_in_seq (pv 6) (pv 4) rfl)
          (pss_one (ps_set (i := 6) nd rfl (.inr rfl) (pe_ix ix_list (pe_lc (own := [("_law_other", 9)]) (g := gName 9) rfl nd (pi_list
              (pe_lc (own := [("_law_letter", 8)]) (g := gName 8) (tt := tYes) rfl nd (pi_str (pv 3)) (blkOk_by (N := nWords) (sc := defScope sWords) (by decide +kernel))
                (fun _ _ _ _ _ => pg_name (i := 8) nd rfl (.inl rfl)) (fun _ _ _ _ _ => pts_nil) (fun _ _ _ _ _ => pe_op op_add_str (pe_op op_add_str (pe_slice sl_str (pv 6) po_none (po_some pe_int)) pe_str) (pv 8)))) (blkOk_by (N := nWords) (sc := defScope sWords) (by decide +kernel))
              (fun _ _ _ _ _ => pg_name (i := 9) nd rfl (.inl rfl)) (fun _ _ _ _ _ => pts_one (pt_cmpR (r := rIn K true) op_notIn_seq (pv 9) (pv 4) rfl)) (fun _ _ _ _ _ => pv 9)) pe_int (fun _ _ => rfl)))) pss_nil)
        (pss_one (ps_expr (pe_bm PySem.F.plainAttrs_list PySem.F.slot_list_append PySem.F.type_list_append mt_append (pv 4) (pa_cons (pv 6) pa_nil))))))))
      (pss_one (ps_ret (pv 4))))), ?_⟩
    have ho1 : (ownText.length : Nat) ≤ 100 := by decide +kernel
    refine ⟨⟨_, rfl⟩, ownText, _, rfl, rfl, by decide +kernel, by rw [sizeLine_eq]; omega, fun o hoN => ?_⟩
    have Do := D.new (o := .lst (owns.map V.str)) hoN
    have hno : o ≠ d := D.nd hoN
    have hgo : o ≠ g := D.ng hoN
    have ho : (upd H o (.lst (owns.map V.str))) o = some (.lst (owns.map V.str)) := upd_same
    have ko : Kp d g H (upd H o (.lst (owns.map V.str))) := Kp.new hoN
    show tSeq _ _ _ _ (upd H o (.lst (owns.map V.str)))
    generalize upd H o (.lst (owns.map V.str)) = H1 at Do ho ko ⊢
    refine ⟨Nat.zero_le _, fun l hl => ?_⟩
    have Dl := Do.new (o := .lst []) hl
    have hnl : l ≠ d := Do.nd hl
    have hgl : l ≠ g := Do.ng hl
    have hcl : l ≠ c := fun e => by rw [e, Do.cl] at hl; cases hl
    have hol : l ≠ o := (ne_of_none ho hl).symm
    have hlH : H l = none := D.free Do ko hl
    have kl : Kp d g H (upd H1 l (.lst [])) := ko.trans (Kp.new hl)
    have ho2 := new_same (o := .lst []) hl _ _ ho
    have hl2 : (upd H1 l (.lst [])) l = some (.lst (([] : List Str).map V.str)) := upd_same
    generalize upd H1 l (.lst []) = H2 at Dl kl ho2 hl2 ⊢
    refine ⟨by show 2 ≤ sizeLine; decide, fun t ht => ?_⟩
    have Dt := Dl.new (o := .tup [.str letters, .ref l]) ht
    have kt : Kp d g H (upd H2 t (.tup [.str letters, .ref l])) := kl.trans (Kp.new ht)
    have ho3 := new_same (o := .tup [.str letters, .ref l]) ht _ _ ho2
    have hl3 := new_same (o := .tup [.str letters, .ref l]) ht _ _ hl2
    refine ⟨t, _, rfl, SqT.of upd_same, rfl, _, _, rfl, _, _, rfl, rfl, ?_⟩
    show tSeq _ _ _ _ (upd H2 t (.tup [.str letters, .ref l]))
    generalize upd H2 t (.tup [.str letters, .ref l]) = H3 at Dt kt ho3 hl3 ⊢
    refine ⟨_, rfl, z, rfl, by omega, by omega, for_range (lo := 0) (n := z.toNat) (fun i σ H' => ∃ (v5 v6 : Option V) (ws : List Str), σ = [some (.ref d), some (.int z), some (.ref o), some (.str letters), some (.ref l), v5, v6, none, none, none] ∧
        H' o = some (.lst (owns.map V.str)) ∧ H' l = some (.lst (ws.map V.str)) ∧ ws.length = i ∧ ws.Nodup ∧ (∀ x ∈ ws, nameOk x = true) ∧ Dw ns d g c (b + 20 * i) H' ∧ Kp d g H H')
      ⟨none, none, [], rfl, ho3, hl3, rfl, List.nodup_nil, (fun x hx => by cases hx), Dt, kt⟩ ?_ ?_⟩
    · rintro i σ H4 hi ⟨v5, v6, ws, rfl, o4, l4, wl, wn, wok, D4, k4⟩
      refine ⟨_, rfl, _, rfl, d, g, c, _, D4, by omega, .inl ⟨o, _, rfl, o4, hno, hgo, by rw [List.length_map, owns_len]; decide, by rw [List.length_map, owns_len]; decide, fun y H5 hy D5 k5 => ?_⟩⟩
      obtain ⟨w0, hw0, rfl⟩ := List.mem_map.mp hy
      have hw0 := owns_ok w0 hw0
      refine ⟨_, rfl, d, g, c, _, 3, rfl, D5, by omega, by decide, by decide, fun r H6 r0 r1 D6 k6 => ?_⟩
      have l6 := k6 _ _ hnl hgl (k5 _ _ hnl hgl l4)
      have o6 := k6 _ _ hno hgo (k5 _ _ hno hgo o4)
      have k46 : Kp d g H H6 := (k4.trans k5).trans k6
      have fin : ∀ (wd : Str) (H' : Hp) (v5' : Option V), nameOk wd = true → wd ∉ ws → H' o = some (.lst (owns.map V.str)) → H' l = some (.lst (ws.map V.str)) → Dw ns d g c (b + 20 * i + 20) H' → Kp d g H H' →
          ∃ (v5 v6 : Option V) (ws' : List Str), [some (.ref d), some (.int z), some (.ref o), some (.str letters), some (.ref l), v5', some (.str wd), none, none, none] = [some (.ref d), some (.int z), some (.ref o), some (.str letters), some (.ref l), v5, v6, none, none, none] ∧
            (upd H' l (.lst (ws.map V.str ++ [V.str wd]))) o = some (.lst (owns.map V.str)) ∧ (upd H' l (.lst (ws.map V.str ++ [V.str wd]))) l = some (.lst (ws'.map V.str)) ∧ ws'.length = i + 1 ∧ ws'.Nodup ∧ (∀ x ∈ ws', nameOk x = true) ∧ Dw ns d g c (b + 20 * (i + 1)) (upd H' l (.lst (ws.map V.str ++ [V.str wd]))) ∧ Kp d g H (upd H' l (.lst (ws.map V.str ++ [V.str wd]))) := by
        intro wd H' v5' h1 h2 h3 h4 h5 h6
        refine ⟨_, _, ws ++ [wd], rfl, by rw [upd_ne hol.symm]; exact h3, by rw [upd_same, List.map_append]; rfl, by rw [List.length_append, wl]; rfl, ?_, fun x hx => ?_, (h5.put h4 hnl hgl hcl).mono (by omega), fun a u n1 n2 ha => ?_⟩
        · refine List.nodup_append.mpr ⟨wn, by simp, fun a ha a' ha' => ?_⟩
          rw [List.mem_singleton] at ha'
          subst ha'
          exact fun e => h2 (e ▸ ha)
        · rcases List.mem_append.mp hx with hx | hx
          · exact wok x hx
          · rw [List.mem_singleton.mp hx]
            exact h1
        · rw [upd_ne (ne_of_none ha hlH)]
          exact h6 a u n1 n2 ha
      refine ⟨_, _, rfl, rfl, _, rfl, ?_⟩
      refine ite2 (fun e => ?A) (fun e => ?B)
      case' A =>
        refine ⟨⟨_, rfl⟩, _, rfl, by show 4 ≤ sizeLine; decide, fun q hq => ?_⟩
        have D7 := D6.new (o := .lst [.int 1, .int 1, .int 2, .int 8]) hq
        refine ⟨d, g, c, _, D7, by omega, .inl ⟨q, _, rfl, upd_same, D6.nd hq, D6.ng hq, by show 0 < 4; decide, by show 4 ≤ 1000000; decide, fun y2 H8 hy2 D8 k8 => ?_⟩⟩
        obtain ⟨j, rfl, j1, j8⟩ := sizes1128 _ hy2
        have l8 := k8 _ _ hnl hgl (new_same (o := .lst [.int 1, .int 1, .int 2, .int 8]) hq _ _ l6)
        have o8 := k8 _ _ hno hgo (new_same (o := .lst [.int 1, .int 1, .int 2, .int 8]) hq _ _ o6)
        have k48 : Kp d g H H8 := (k46.trans (Kp.new hq)).trans k8
        refine ⟨j, rfl, by omega, by omega, fun L hL => ?_⟩
        have nL : L ≠ d := D8.nd hL
        have gL : L ≠ g := D8.ng hL
        have cL : L ≠ c := fun e => by rw [e, D8.cl] at hL; cases hL
        refine lc_range (lo := 0) (n := j.toNat) (fun i' H' => ∃ cs : List Nat, H' L = some (.lst ((cs.map cand.oneS').map V.str)) ∧ cs.length = i' ∧ (∀ x ∈ cs, x ∈ letters.cps.toList) ∧ Dw ns d g c (b + 20 * i + 3 + i') H' ∧ Kp d g H8 H')
          ⟨[], upd_same, rfl, (fun x hx => by cases hx), (D8.new hL).mono (by omega), Kp.new hL⟩ ?_ ?_
        · rintro i' H9 hi' ⟨cs, d9, cl, cok, D9, k9⟩
          refine ⟨rfl, yes_of ?_⟩
          refine ⟨_, rfl, _, rfl, d, g, c, _, D9, by omega, .inr ⟨_, rfl, by decide +kernel, by decide +kernel, fun y3 H10 hy3 D10 k10 => ?_⟩⟩
          have d10 := k10 _ _ nL gL d9
          refine ⟨_, d10, ?_, cs ++ [y3], ?_, by rw [List.length_append, cl]; rfl, fun x hx => ?_, (D10.put d10 nL gL cL).mono (by omega), fun a u n1 n2 ha => ?_⟩
          · rw [List.length_map, List.length_map]
            exact small1000 (by omega)
          · rw [upd_same, List.map_append, List.map_append]
            rfl
          · rcases List.mem_append.mp hx with hx | hx
            · exact cok x hx
            · rw [List.mem_singleton.mp hx]
              exact hy3
          · rw [upd_ne (ne_of_none ha hL)]
            exact k10 _ _ n1 n2 (k9 _ _ n1 n2 ha)
        rintro H9 ⟨cs, d9, cl, cok, D9, k9⟩
        have jw : nameOk (Txt.join Str.empty (cs.map cand.oneS')) = true := by
          have e9 := join_signs cs
          refine nameOk_of ?_ ?_ (fun x hx => ?_)
          · rw [← len_cps, e9]; omega
          · rw [← len_cps, e9]; omega
          · rw [e9] at hx
            exact cok x hx
        refine ⟨_, L, cs.map cand.oneS', rfl, rfl, .inl (SqL.of d9), ?_, ?_⟩
        · have e0 : ("" : Str).length = 0 := by decide +kernel
          have hs := sum_le (fun y : Str => y.length) (b := 1) (cs.map cand.oneS') fun x hx => by
            obtain ⟨x', _, rfl⟩ := List.mem_map.mp hx
            exact Nat.le_refl 1
          rw [List.length_map] at hs ⊢
          rw [e0]
          omega
        rw [e_eq]
        obtain ⟨wd, hwd, hwk⟩ : ∃ wd, wd = Txt.join Str.empty (cs.map cand.oneS') ∧ nameOk wd = true := ⟨_, rfl, jw⟩
        rw [← hwd]
        have lT := k9 _ _ hnl hgl l8
        have oT := k9 _ _ hno hgo o8
        have kT : Kp d g H H9 := k48.trans k9
        have DT : Dw ns d g c (b + 20 * i + 15) H9 := D9.mono (by omega)
        generalize H9 = HT at lT oT kT DT ⊢
      case' B =>
        obtain ⟨wd, hwd, hwk⟩ : ∃ wd, wd = w0 ∧ nameOk wd = true := ⟨_, rfl, hw0⟩
        rw [← hwd]
        have lT := l6
        have oT := o6
        have kT := k46
        have DT : Dw ns d g c (b + 20 * i + 15) H6 := D6.mono (by omega)
        generalize H6 = HT at lT oT kT DT ⊢
      all_goals
        refine ⟨_, rfl, _, rfl, l, _, rfl, .inl (SqL.of lT), rfl, strs_flat ws, _, rfl, ?_⟩
        rw [inV_strs]
        refine ite2 (fun e => ?_) (fun e => ?_)
        · have hwl := (name_len hwk).2
          refine ⟨_, rfl, letters, rfl, fun D1 hD1 => ?_⟩
          refine lc_it walk_str (fun i' H' => H' D1 = some (.lst (((letters.cps.toList.take i').map (cand wd)).map V.str)) ∧ Ext HT H') ⟨upd_same, Ext.new hD1⟩ (fun _ _ _ _ => trivial) ?_ ?_
          · rintro i' y H1' H2' hi' ⟨hd', he'⟩ ⟨rfl, c', hc', rfl⟩
            have hc2 := cps_at hc'
            refine ⟨rfl, yes_of ?_⟩
            have h6 := cut6 wd
            refine ⟨_, rfl, 6, rfl, wd, rfl, by rw [sizeLine_eq]; omega, _, _, rfl, rfl, by rw [z_len, sizeLine_eq]; omega, _, rfl, _, _, rfl, rfl, by rw [strlen, z_len, sizeLine_eq]; show _ + 1 + 1 ≤ _; omega, _, hd', ?_, ?_, fun a u ha => ?_⟩
            · have : letters.cps.toList.length = 26 := by decide +kernel
              rw [List.length_map, List.length_map, List.length_take]
              exact small1000 (by omega)
            · rw [upd_same, take_succ_map (cand wd) hc2, List.map_append]
              rfl
            · rw [upd_ne (ne_of_none ha hD1)]
              exact he' _ _ ha
          rintro H1' ⟨hd', he'⟩
          rw [← cps_len, List.take_length] at hd'
          have hd' : H1' D1 = some (.lst ((cands wd).map V.str)) := hd'
          have oT1 := he' _ _ oT
          have lT1 := he' _ _ lT
          refine ⟨D1, rfl, ⟨_, SqL.of hd'⟩, fun D2 hD2 => ?_⟩
          refine lc_it walk_list (fun i' H' => H' D2 = some (.lst ((((cands wd).take i').filter (fun y => !decide (y ∈ ws))).map V.str)) ∧ Ext H1' H') ⟨upd_same, Ext.new hD2⟩ (fun i H' _ ⟨_, e⟩ => SqL.of (e _ _ hd')) ?_ ?_
          · rintro i' y H2' H3' hi' ⟨d2, k2⟩ ⟨rfl, hy⟩
            rw [List.getElem?_map] at hy
            obtain ⟨x, hx, rfl⟩ := Option.map_eq_some_iff.mp hy
            have ef := filter_take (fun y => !decide (y ∈ ws)) hx
            refine ⟨rfl, _, rfl, _, rfl, l, _, rfl, .inl (SqL.of (k2 _ _ lT1)), rfl, strs_flat ws, ?_⟩
            show ∃ b, V.bl (!inV (.str x) (ws.map V.str)) = V.bl b ∧ _
            rw [inV_strs]
            refine ⟨_, rfl, ite2 (fun e => ?_) (fun e => ?_)⟩
            · rw [if_pos e] at ef
              refine ⟨_, rfl, _, d2, ?_, ?_, fun a u ha => ?_⟩
              · have h1 := List.length_filter_le (fun y => !decide (y ∈ ws)) ((cands wd).take i')
                rw [List.length_take, cands_len] at h1
                rw [List.length_map]
                exact small1000 (by omega)
              · rw [upd_same, ef, List.map_append]
                rfl
              · rw [upd_ne (ne_of_none ha hD2)]
                exact k2 _ _ ha
            · rw [if_neg e, List.append_nil] at ef
              exact ⟨by rw [ef]; exact d2, k2⟩
          rintro H2' ⟨d2, k2⟩
          rw [List.length_map, List.take_length] at d2
          obtain ⟨w1, rst, e1, m1, n1⟩ := fresh_cand wd (fs := ws) (by omega)
          rw [e1] at d2
          have w1ok : nameOk w1 = true := by
            obtain ⟨c', hc', rfl⟩ := List.mem_map.mp m1
            exact cand_ok (lo_of hwk) hc'
          refine ⟨D2, _, _, V.str w1, rfl, rfl, SqL.of d2, (show atI (V.str w1 :: rst.map V.str) ((0 : Nat) : Int) = some (V.str w1) from atI_nat rfl), ?_⟩
          have lT2 := k2 _ _ lT1
          refine ⟨_, rfl, .inl ⟨rfl, _, SqL.of lT2⟩, _, rfl, l, _, _, rfl, rfl, lT2, by rw [List.length_map]; exact small1000 (by omega), ?_⟩
          exact fin _ _ _ w1ok n1 (k2 _ _ oT1) lT2 ((DT.keep fun a u ha => k2 _ _ (he' _ _ ha)).mono (by omega)) (kT.trans (Kp.of fun a u ha => k2 _ _ (he' _ _ ha)))
        · have e : wd ∉ ws := fun m => e (decide_eq_true m)
          refine ⟨_, rfl, .inl ⟨rfl, _, SqL.of lT⟩, _, rfl, l, _, _, rfl, rfl, lT, by rw [List.length_map]; exact small1000 (by omega), ?_⟩
          exact fin _ _ _ hwk e oT lT (DT.mono (by omega)) kT
    · rintro σ H4 ⟨v5, v6, ws, rfl, o4, l4, wl, wn, wok, D4, k4⟩
      exact ⟨_, rfl, k l ws H4 hlH hnl hgl l4 wl wn wok (D4.mono (by omega)) k4⟩
end
theorem RowsAt.kp {ns : List Int} {d g c : Addr} {b : Nat} {H H' : Hp} {vs : List V} {rs : List FRow} (h : RowsAt H vs rs) (D : Dw ns d g c b H) (k : Kp d g H H') : RowsAt H' vs rs := by
  obtain ⟨⟨gs, l, t, hd, hg, _, _⟩, _⟩ := D
  exact ⟨h.1, fun i r hr => by
    obtain ⟨p, a, e⟩ := h.2 i r hr
    exact ⟨p, a, k _ _ (ne_of e hd (by intro z; cases z)) (ne_of e hg (by intro z; cases z)) e⟩⟩
theorem RowsAt.snoc {H : Hp} {vs : List V} {rs : List FRow} {p : Addr} {r : FRow} (h : RowsAt H vs rs) (hp : H p = some (.tup [.str r.1, parV r.2])) : RowsAt H (vs ++ [V.ref p]) (rs ++ [r]) := by
  refine ⟨by rw [List.length_append, List.length_append, h.1]; rfl, fun i x hx => ?_⟩
  by_cases e : i < rs.length
  · rw [List.getElem?_append_left e] at hx
    rw [List.getElem?_append_left (by rw [h.1]; exact e)]
    exact h.2 i x hx
  · rw [List.getElem?_append_right (by omega)] at hx
    rw [List.getElem?_append_right (by rw [h.1]; omega), h.1]
    have z : i - rs.length = 0 := by
      have := (List.getElem?_eq_some_iff.mp hx).1
      simpa using this
    rw [z] at hx ⊢
    cases hx
    exact ⟨p, rfl, hp⟩
def Good9 (rs : List FRow) : Prop := 1 ≤ rs.length ∧ rs.length ≤ 9 ∧ GoodF [] rs
section
variable {P : Program} {w : World} {K : PySem.W.Frag} {mg : Str → Option Value} {base : Heap}
/-! ### _law_forest -/
def spForest (ns : List Int) : Sp := fun vs H Q _ => ∃ (d g c : Addr) (b : Nat) (m : Int), vs = [.ref d, .int m] ∧ Dw ns d g c b H ∧ b ≤ 800000000 ∧ 1 ≤ m ∧ m ≤ 9 ∧
  ∀ (l : Addr) (xs : List V) (rs : List FRow) (H' : Hp), H l = none → l ≠ d → l ≠ g → H' l = some (.lst xs) → RowsAt H' xs rs → Good9 rs → Dw ns d g c (b + 300) H' → Kp d g H H' → Q (.ref l) H'
abbrev nForest : List Str := ["_law_state", "_law_most", "_law_stock", "_law_name", "_law_parents", "_law_row"]
theorem scForest : FnScope nForest ["_law_state", "_law_most"] (defScope sForest) := ⟨rfl, rfl, rfl, by decide +kernel, rfl, by decide +kernel, by decide +kernel⟩
theorem ok_forest {f fT fP fW : Addr} {fd fdT fdP fdW : FuncData} (ns : List Int) (F : Fun K "_law_forest" "_law_forest" sForest f fd) (R : Draw P w K mg base ns fT fP fdT fdP)
    (GW : FnOk P w K mg base CX0 4 fW fdW ["_law_state", "_law_size"] (spWords ns)) (bW : Binds K fdW ["_law_state", "_law_size"] []) (kW : PySem.W.keepIn K (.ref fW) = true) (mW : mg "_law_words" = some (.ref fW)) :
    FnOk P w K mg base CX0 5 f fd ["_law_state", "_law_most"] (spForest ns) := by
  refine F.ok scForest (fun vs H Q E h => ?_) (fun cdv A outer s H vs Q E hr h => ?_)
  · obtain ⟨d, g, c, b, m, rfl, _⟩ := h
    rfl
  · obtain ⟨d, g, c, b, m, rfl, D, hb, m1, m8, k⟩ := h
    have hu := hu_of hr
    have nd := scForest.nd
    have hr2 : Room 2 (A.deeper (envOfC "_law_forest" (defScope sForest) s.heap.objs.size f cdv)) := hr.mono (by decide)
    have hr3 : Room 3 (A.deeper (envOfC "_law_forest" (defScope sForest) s.heap.objs.size f cdv)) := hr.mono (by decide)
    refine ⟨_, pss_cons (ps_set (i := 2) nd rfl (.inl rfl) (pe_lst pa_nil))
      (pss_cons (ps_for PassesOwn.never rfl (pi_list (pe_call GW hr rfl mW kW bW .nil pass0 (pa_cons (pv 0) (pa_cons (pe_op op_add pe_int (pe_call R.GT hr2 rfl R.mT R.kT R.bT .nil pass0 (pa_cons (pv 0) (pa_cons (pv 1) pa_nil)))) pa_nil)))) (pg_name (i := 3) nd rfl (.inl rfl))
        (pss_cons (ps_set (i := 4) nd rfl (.inl rfl) (pe_op op_cat (pe_lst (pa_cons pe_non pa_nil)) (pe_lc (own := [("_law_row", 5)]) (g := gName 5) (tt := tYes) rfl nd (pi_list (pv 2)) (blkOk_by (N := nForest) (sc := defScope sForest) (by decide +kernel))
            (fun _ _ _ _ _ => pg_name (i := 5) nd rfl (.inl rfl)) (fun _ _ _ _ _ => pts_nil) (fun _ _ _ _ _ => pe_ix (r := rIxT K) ix_tup (pv 5) pe_int (fun _ _ => rfl)))))
        (pss_one (ps_expr (pe_bm PySem.F.plainAttrs_list PySem.F.slot_list_append PySem.F.type_list_append mt_append (pv 2) (pa_cons (pe_tup (pa_cons (pv 3) (pa_cons (pe_call R.GP hr3 rfl R.mP R.kP R.bP .nil pass0 (pa_cons (pv 0) (pa_cons (pv 4) pa_nil))) pa_nil))) pa_nil))))))
      (pss_one (ps_ret (pv 2)))), ?_⟩
    refine ⟨Nat.zero_le _, fun l hl => ?_⟩
    have Dl := D.new (o := .lst []) hl
    have hnl : l ≠ d := D.nd hl
    have hgl : l ≠ g := D.ng hl
    have hcl : l ≠ c := fun e => by rw [e, D.cl] at hl; cases hl
    have kl : Kp d g H (upd H l (.lst [])) := Kp.new hl
    have hl1 : (upd H l (.lst [])) l = some (.lst []) := upd_same
    show tSeq _ _ _ _ (upd H l (.lst []))
    generalize upd H l (.lst []) = H1 at Dl kl hl1 ⊢
    refine ⟨_, rfl, _, rfl, _, rfl, d, g, c, _, m, rfl, Dl, by omega, by omega, by omega, fun r H2 r0 r1 D2 k2 => ?_⟩
    refine ⟨1, r, rfl, rfl, d, g, c, _, 1 + r, rfl, D2, by omega, by omega, by omega, fun lw ws H3 lw0 lwd lwg hlw wl wn wok D3 k3 => ?_⟩
    have l3 := k3 _ _ hnl hgl (k2 _ _ hnl hgl hl1)
    have k03 : Kp d g H H3 := (kl.trans k2).trans k3
    refine ⟨lw, rfl, ⟨_, SqL.of hlw⟩, for_it walk_list (fun i σ H' => ∃ (v3 v4 : Option V) (xs : List V) (rs : List FRow), σ = [some (.ref d), some (.int m), some (.ref l), v3, v4, none] ∧ H' l = some (.lst xs) ∧ H' lw = some (.lst (ws.map V.str)) ∧
        RowsAt H' xs rs ∧ fNames rs = ws.take i ∧ GoodF [] rs ∧ Dw ns d g c (b + 1 + 200 + 2 * i) H' ∧ Kp d g H H')
      ⟨none, none, [], [], rfl, l3, hlw, ⟨rfl, fun i r h => by simp at h⟩, rfl, trivial, D3, k03⟩ (fun i σ H' _ ⟨_, _, _, _, _, _, e, _⟩ => SqL.of e) ?_ ?_⟩
    · rintro i y σ H4 H5 hi ⟨v3, v4, xs, rs, rfl, l4, lw4, R4, fn, gf, D4, k4⟩ ⟨rfl, hy⟩
      rw [List.length_map] at hi
      rw [List.getElem?_map, List.getElem?_eq_getElem hi] at hy
      cases hy
      have hrl : rs.length = i := by
        have := congrArg List.length fn
        rw [fNames, List.length_map, List.length_take] at this
        omega
      have hi8 : i ≤ 8 := by omega
      refine ⟨by show 1 ≤ sizeLine; decide, fun a ha => ?_⟩
      have Da := D4.new (o := .lst [.non]) ha
      have nda : a ≠ d := D4.nd ha
      have nga : a ≠ g := D4.ng ha
      have ka : Ext H5 (upd H5 a (.lst [.non])) := Ext.new ha
      have ha1 : (upd H5 a (.lst [.non])) a = some (.lst [.non]) := upd_same
      have l5 := ka _ _ l4
      have R5 := R4.ext ka
      refine ⟨_, rfl, l, rfl, ⟨_, SqL.of l5⟩, fun D' hD' => ?_⟩
      refine lc_it walk_list (fun i' H' => H' D' = some (.lst (((fNames rs).take i').map V.str)) ∧ Ext (upd H5 a (.lst [.non])) H') ⟨upd_same, Ext.new hD'⟩ (fun i' H' _ ⟨_, e⟩ => SqL.of (e _ _ l5)) ?_ ?_
      · rintro i' y H6 H7 hi' ⟨d6, k6⟩ ⟨rfl, hy⟩
        have hir : i' < rs.length := by have := R4.1; omega
        obtain ⟨p, h1, h2⟩ := R5.2 i' _ (List.getElem?_eq_getElem hir)
        rw [h1] at hy
        cases hy
        refine ⟨rfl, yes_of ?_⟩
        refine ⟨_, rfl, p, _, _, _, rfl, rfl, SqT.of (k6 _ _ h2), (show atI [V.str rs[i'].1, parV rs[i'].2] ((0 : Nat) : Int) = some (V.str rs[i'].1) from atI_nat rfl), _, d6, ?_, ?_, fun b' o hb' => ?_⟩
        · rw [List.length_map, List.length_take, fNames, List.length_map]
          exact small1000 (by omega)
        · rw [upd_same, List.take_add_one, List.map_append]
          have : (fNames rs)[i']? = some rs[i'].1 := by rw [fNames, List.getElem?_map, List.getElem?_eq_getElem hir]; rfl
          rw [this]
          rfl
        · rw [upd_ne (ne_of_none hb' hD')]
          exact k6 _ _ hb'
      rintro H6 ⟨d6, k6⟩
      have e0 : (fNames rs).take xs.length = fNames rs := by
        rw [R4.1]
        exact List.take_of_length_le (by rw [fNames, List.length_map]; exact Nat.le_refl _)
      rw [e0] at d6
      refine ⟨a, D', _, _, rfl, rfl, k6 _ _ ha1, d6, ?_, fun q hq => ?_⟩
      · rw [List.length_map, fNames, List.length_map, sizeLine_eq]
        show 1 + _ ≤ _
        omega
      have D6 : Dw ns d g c (b + 1 + 200 + 2 * i) H6 := Da.keep k6
      have k56 : Ext H5 H6 := ka.trans k6
      have Dq := D6.new (o := .lst ([.non] ++ (fNames rs).map V.str)) hq
      have hq1 : (upd H6 q (.lst ([.non] ++ (fNames rs).map V.str))) q = some (.lst ([.non] ++ (fNames rs).map V.str)) := upd_same
      have kq : Ext H5 (upd H6 q (.lst ([.non] ++ (fNames rs).map V.str))) := k56.trans (Ext.new hq)
      have ndq : q ≠ d := D6.nd hq
      have ngq : q ≠ g := D6.ng hq
      show tSeq _ _ _ _ (upd H6 q (.lst ([.non] ++ (fNames rs).map V.str)))
      generalize upd H6 q (.lst ([.non] ++ (fNames rs).map V.str)) = H7 at Dq hq1 kq ⊢
      refine ⟨_, rfl, .inl ⟨rfl, _, SqL.of (kq _ _ l4)⟩, _, rfl, _, rfl, _, rfl, d, g, c, _, Dq, by omega, .inl ⟨q, _, rfl, hq1, ndq, ngq, ?_, ?_, fun x H8 hx D8 k8 => ?_⟩⟩
      · show 0 < _ + 1
        omega
      · rw [List.length_append, List.length_map, fNames, List.length_map]
        show 1 + _ ≤ _
        omega
      obtain ⟨pq, rfl, hpq⟩ : ∃ pq : Option Str, x = parV pq ∧ ∀ mm, pq = some mm → mm ∈ fNames rs := by
        rcases List.mem_append.mp hx with hx | hx
        · rw [List.mem_singleton.mp hx]
          exact ⟨none, rfl, fun mm e => by cases e⟩
        · obtain ⟨mm, hm, rfl⟩ := List.mem_map.mp hx
          exact ⟨some mm, rfl, fun m' e => by cases e; exact hm⟩
      refine ⟨by show 2 ≤ sizeLine; decide, fun t ht => ?_⟩
      have R8 : RowsAt H8 xs rs := (R4.ext kq).kp Dq k8
      have R9 := RowsAt.snoc (r := (ws[i], pq)) (R8.ext (Ext.new (o := .tup [.str ws[i], parV pq]) ht)) upd_same
      have l8 := k8 _ _ hnl hgl (kq _ _ l4)
      have l9 := new_same (o := .tup [.str ws[i], parV pq]) ht _ _ l8
      have lw8 := k8 _ _ lwd lwg (kq _ _ lw4)
      have lw9 := new_same (o := .tup [.str ws[i], parV pq]) ht _ _ lw8
      have D9 := D8.new (o := .tup [.str ws[i], parV pq]) ht
      have nlw : lw ≠ l := fun e => by rw [e] at lw0; rw [k2 _ _ hnl hgl hl1] at lw0; cases lw0
      have k9 : Kp d g H (upd H8 t (.tup [.str ws[i], parV pq])) := ((k4.trans (Kp.of kq)).trans k8).trans (Kp.new ht)
      generalize upd H8 t (.tup [.str ws[i], parV pq]) = H9 at R9 l9 lw9 D9 k9 ⊢
      have xl : xs.length = rs.length := R4.1
      refine ⟨l, _, _, rfl, rfl, l9, small1000 (by omega), ?_⟩
      refine ⟨_, _, xs ++ [.ref t], rs ++ [(ws[i], pq)], rfl, upd_same, by rw [upd_ne nlw]; exact lw9, ⟨R9.1, fun j r' hj => ?_⟩, ?_, good_snoc gf ?_, (D9.put l9 hnl hgl hcl).mono (by omega), fun a' o n1 n2 ha' => ?_⟩
      · obtain ⟨p, b1, b2⟩ := R9.2 j r' hj
        refine ⟨p, b1, ?_⟩
        rw [upd_ne (ne_of b2 l9 (by intro z; cases z))]
        exact b2
      · show fNames (rs ++ [(ws[i], pq)]) = _
        rw [fNames, List.map_append, List.take_add_one, List.getElem?_eq_getElem hi]
        show fNames rs ++ [ws[i]] = _
        rw [fn]
        rfl
      · rw [List.nil_append, fn]
        refine ⟨wok _ (List.getElem_mem hi), fun hm => ?_, fun mm e => by rw [← fn]; exact hpq mm e⟩
        have hm : ws[i] ∈ ws.take i := hm
        obtain ⟨j, hj⟩ := List.mem_iff_getElem?.mp hm
        have hji : j < i := by
          have := (List.getElem?_eq_some_iff.mp hj).1
          rw [List.length_take] at this
          omega
        rw [List.getElem?_take_of_lt hji] at hj
        have hjl : j < ws.length := by omega
        rw [List.getElem?_eq_getElem hjl] at hj
        exact (List.pairwise_iff_getElem.mp wn) j i hjl hi hji (Option.some.inj hj)
      · rw [upd_ne (ne_of_none ha' hl)]
        exact k9 _ _ n1 n2 ha'
    · rintro σ H4 ⟨v3, v4, xs, rs, rfl, l4, lw4, R4, fn, gf, D4, k4⟩
      refine ⟨_, rfl, ?_⟩
      have hrl : rs.length = ws.length := by
        have := congrArg List.length fn
        rw [fNames, List.length_map, List.length_take, List.length_map] at this
        omega
      rw [List.length_map] at D4
      exact k l xs rs H4 hl hnl hgl l4 R4 ⟨by omega, by omega, gf⟩ (D4.mono (by omega)) k4
end
end Lw

set_option Elab.async false
set_option linter.all false
set_option maxRecDepth 100000
set_option maxHeartbeats 4000000
/-! readings that ask more than they need; a list or a tuple walked; dicts of numbers by names -/
namespace Gu
open L2 hiding Ext
open PySem PySem.Spec PyProof.Rows Gn Gk
theorem wT {X : Cx} {e : Expr} {t t' : TT} (h : PT X e t) (w : ∀ σ H k, t' σ H k → t σ H k) : PT X e t' :=
  ⟨fun pins s σ H Q I z => h.run pins s σ H Q I (w _ _ _ z)⟩
theorem wE {X : Cx} {e : Expr} {t t' : TE} (h : PE X e t) (w : ∀ σ H k, t' σ H k → t σ H k) : PE X e t' :=
  ⟨fun pins s σ H Q I z => h.run pins s σ H Q I (w _ _ _ z)⟩
theorem wS {X : Cx} {e : Stmt} {t t' : TS} (h : PS X e t) (w : ∀ D σ H, t' D σ H → t D σ H) : PS X e t' :=
  ⟨fun pins s σ H D I z => h.run pins s σ H D I (w _ _ _ z)⟩
theorem wI {X : Cx} {tg e : Expr} {t t' : TI} (h : PI X tg e t) (w : ∀ σ H R, t' σ H R → t σ H R) : PI X tg e t' :=
  ⟨fun pins s σ H R I z => h.run pins s σ H R I (w _ _ _ z)⟩
theorem iOr {X : Cx} {tg e : Expr} {t t' : TI} (h : PI X tg e t) (h' : PI X tg e t') : PI X tg e (fun σ H R => t σ H R ∨ t' σ H R) :=
  ⟨fun pins s σ H R I z => z.elim (h.run pins s σ H R I) (h'.run pins s σ H R I)⟩
/-- a list or a tuple -/
def ClAt (H : Hp) (a : Addr) (xs : List V) : Prop := H a = some (.lst xs) ∨ H a = some (.tup xs)
theorem ClAt.ext {H H' : Hp} {a : Addr} {xs : List V} (h : ClAt H a xs) (k : Ext H H') : ClAt H' a xs := h.elim (fun e => .inl (k _ _ e)) (fun e => .inr (k _ _ e))
theorem ClAt.sq {K : PySem.W.Frag} {H : Hp} {a : Addr} {xs : List V} (h : ClAt H a xs) : SqL K H a xs ∨ SqT K H a xs := h.elim (fun e => .inl (SqL.of e)) (fun e => .inr (SqT.of e))
theorem wW {J : It} {n : Nat} {G G' : Hp → Prop} {Y : Nat → Hp → V → Hp → Prop} (h : Walk J n G Y) (k : ∀ H, G' H → G H) : Walk J n G' Y :=
  ⟨fun i H hi g => h.goes i H hi (k H g), fun H g => h.stops H (k H g), fun i H x H' hi g y => h.yields i H x H' hi (k H g) y⟩
/-- what a walk over it gives, wherever it stands as it did -/
def iSeqV (i : Nat) : TI := fun σ H R => ∃ (a : Addr) (xs : List V), σ[i]? = some (some (.ref a)) ∧ ClAt H a xs ∧ ∀ J, Walk J xs.length (fun H' => H' a = H a) (YAt xs) → R J H
theorem pi_seqV {X : Cx} {tg e : Expr} {i : Nat} (h : PE X e (tVar i)) : PI X tg e (iSeqV i) := by
  refine wI (iOr (pi_list h) (pi_tup h)) fun σ H R ⟨a, xs, hi, hc, k⟩ => ?_
  rcases hc with hc | hc
  · exact .inl ⟨_, hi, a, rfl, ⟨_, SqL.of hc⟩, k _ (wW walk_list fun H' e => SqL.of (e.trans hc))⟩
  · exact .inr ⟨_, hi, a, rfl, ⟨_, SqT.of hc⟩, k _ (wW walk_tup fun H' e => SqT.of (e.trans hc))⟩
/-- a dict of numbers, by the names in their order -/
def dN (ns : List Str) (t : Str → Int) : List (Key × V) := ns.map fun n => ((Sum.inr n : Key), V.int (t n))
def at_ (t : Str → Int) (n : Str) (z : Int) : Str → Int := fun m => if m = n then z else t m
theorem at_same {t : Str → Int} {n : Str} {z : Int} : at_ t n z n = z := if_pos rfl
theorem at_ne {t : Str → Int} {n m : Str} {z : Int} (h : m ≠ n) : at_ t n z m = t m := if_neg h
theorem dN_get {t : Str → Int} {n : Str} : ∀ {ns : List Str}, n ∈ ns → valV (dN ns t) (Sum.inr n : Key) = some (.int (t n))
  | [], h => by cases h
  | m :: r, h => by
    show valV (((Sum.inr m : Key), V.int (t m)) :: dN r t) _ = _
    by_cases e : m = n
    · subst e; exact valV_pos rfl
    · rw [valV_neg (fun z => e (Sum.inr.inj z))]
      exact dN_get ((List.mem_cons.mp h).resolve_left fun z => e z.symm)
theorem dN_put {t : Str → Int} {n : Str} {z : Int} {ns : List Str} (h : n ∈ ns) : putK (dN ns t) (Sum.inr n : Key) (.int z) = dN ns (at_ t n z) := by
  have e : ((dN ns t).any fun kv => decide (kv.1 = (Sum.inr n : Key))) = true := by
    unfold dN
    rw [List.any_map, List.any_eq_true]
    exact ⟨n, h, by simp⟩
  unfold putK
  rw [if_pos e]
  unfold dN
  rw [List.map_map]
  refine List.map_congr_left fun m hm => ?_
  show (if (Sum.inr m : Key) = Sum.inr n then ((Sum.inr m : Key), V.int z) else ((Sum.inr m : Key), V.int (t m))) = _
  by_cases em : m = n
  · subst em
    rw [if_pos rfl, at_same]
  · rw [if_neg (fun z => em (Sum.inr.inj z)), at_ne em]
theorem dN_len {ns : List Str} {t : Str → Int} : (dN ns t).length = ns.length := by unfold dN; rw [List.length_map]
/-- a dict of numbers, by some names -/
def dB (bs : List (Str × Int)) : List (Key × V) := bs.map fun p => ((Sum.inr p.1 : Key), V.int p.2)
theorem dB_dN (ns : List Str) (t : Str → Int) : dB (ns.map fun n => (n, t n)) = dN ns t := by unfold dB dN; rw [List.map_map]; rfl
theorem dB_get : ∀ {bs : List (Str × Int)} {p : Str × Int}, (bs.map (·.1)).Nodup → p ∈ bs → valV (dB bs) (Sum.inr p.1 : Key) = some (.int p.2)
  | [], _, _, h => by cases h
  | q :: r, p, hn, h => by
    show valV (((Sum.inr q.1 : Key), V.int q.2) :: dB r) _ = _
    obtain ⟨n1, n2⟩ := List.nodup_cons.mp (show (q.1 :: r.map (·.1)).Nodup from hn)
    rcases List.mem_cons.mp h with rfl | h
    · exact valV_pos rfl
    · have ne : ¬ q.1 = p.1 := fun e => n1 (by rw [e]; exact List.mem_map.mpr ⟨p, h, rfl⟩)
      rw [valV_neg (fun z => ne (Sum.inr.inj z))]
      exact dB_get n2 h
theorem dB_none {n : Str} : ∀ {bs : List (Str × Int)}, n ∉ bs.map (·.1) → valV (dB bs) (Sum.inr n : Key) = none
  | [], _ => rfl
  | q :: r, h => by
    show valV (((Sum.inr q.1 : Key), V.int q.2) :: dB r) _ = _
    have ne : ¬ q.1 = n := fun e => h (by rw [← e]; exact List.mem_cons_self ..)
    rw [valV_neg (fun z => ne (Sum.inr.inj z))]
    exact dB_none fun m => h (List.mem_cons_of_mem _ m)
/-- pairs of a name and a number, as tuples in the heap -/
def CsAt (H : Hp) (vs : List V) (cs : List (Str × Int)) : Prop := vs.length = cs.length ∧ ∀ (i : Nat) (c : Str × Int), cs[i]? = some c → ∃ p, vs[i]? = some (V.ref p) ∧ H p = some (.tup [.str c.1, .int c.2])
theorem CsAt.ext {H H' : Hp} {vs : List V} {cs : List (Str × Int)} (h : CsAt H vs cs) (k : Ext H H') : CsAt H' vs cs :=
  ⟨h.1, fun i c hc => by obtain ⟨p, a, b⟩ := h.2 i c hc; exact ⟨p, a, k _ _ b⟩⟩
theorem CsAt.get {H : Hp} {vs : List V} {cs : List (Str × Int)} (h : CsAt H vs cs) {i : Nat} {x : V} (hx : vs[i]? = some x) : ∃ (c : Str × Int) (p : Addr), cs[i]? = some c ∧ x = .ref p ∧ H p = some (.tup [.str c.1, .int c.2]) := by
  have hi : i < cs.length := by rw [← h.1]; exact (List.getElem?_eq_some_iff.mp hx).1
  obtain ⟨p, a, b⟩ := h.2 i _ (List.getElem?_eq_getElem hi)
  rw [hx] at a
  cases a
  exact ⟨_, p, List.getElem?_eq_getElem hi, rfl, b⟩
theorem CsAt.nil {H : Hp} : CsAt H [] [] := ⟨rfl, fun i c h => by cases h⟩
theorem CsAt.snoc {H : Hp} {vs : List V} {cs : List (Str × Int)} {p : Addr} {c : Str × Int} (h : CsAt H vs cs) (hp : H p = some (.tup [.str c.1, .int c.2])) : CsAt H (vs ++ [V.ref p]) (cs ++ [c]) := by
  refine ⟨by rw [List.length_append, List.length_append, h.1]; rfl, fun i c' hc => ?_⟩
  rcases Nat.lt_or_ge i cs.length with hi | hi
  · rw [List.getElem?_append_left hi] at hc
    rw [List.getElem?_append_left (by rw [h.1]; exact hi)]
    exact h.2 i c' hc
  · rw [List.getElem?_append_right hi] at hc
    rw [List.getElem?_append_right (by rw [h.1]; exact hi), h.1]
    cases e : i - cs.length with
    | zero => rw [e] at hc; cases hc; exact ⟨p, rfl, hp⟩
    | succ k => rw [e] at hc; cases hc
theorem CsAt.kp {ns : List Int} {d g c : Addr} {b : Nat} {H H' : Hp} {vs : List V} {cs : List (Str × Int)} (h : CsAt H vs cs) (D : Dw ns d g c b H) (k : Kp d g H H') : CsAt H' vs cs := by
  obtain ⟨⟨gs, l, t, hd, hg, _, _⟩, _⟩ := D
  exact ⟨h.1, fun i r hr => by
    obtain ⟨p, a, e⟩ := h.2 i r hr
    exact ⟨p, a, k _ _ (ne_of e hd (by intro z; cases z)) (ne_of e hg (by intro z; cases z)) e⟩⟩
/-- a dict that is walked is locked meanwhile -/
theorem lock_ext {H H' : Hp} {d : Addr} {u : HO} {od : Obj} (hd : H d = some u) (k : Ext (upd H d (.frz od u)) H') : Ext H (upd H' d u) := fun a o e => by
  by_cases n : a = d
  · subst n
    rw [upd_same, ← hd, e]
  · rw [upd_ne n]
    exact k _ _ (by rw [upd_ne n]; exact e)
theorem lock_in {H : Hp} {d a : Addr} {u o : HO} {od : Obj} (n : a ≠ d) (e : H a = some o) : upd H d (.frz od u) a = some o := by rw [upd_ne n]; exact e
theorem keys_none : ∀ {kvs : List (Key × V)} {k : Key}, k ∉ kvs.map (·.1) → valV kvs k = none
  | [], _, _ => rfl
  | p :: r, k, h => by
    have h1 : ¬ p.1 = k := fun e => h (by rw [← e]; exact List.mem_cons_self ..)
    rw [valV_neg h1]
    exact keys_none fun m => h (List.mem_cons_of_mem _ m)
theorem merge_app : ∀ (more acc : List (Key × V)), ((acc ++ more).map (·.1)).Nodup → mergeK acc more = acc ++ more
  | [], acc, _ => by rw [List.append_nil]; rfl
  | p :: r, acc, h => by
    have hn : p.1 ∉ acc.map (·.1) := by
      intro m
      rw [List.map_append] at h
      exact (List.nodup_append.mp h).2.2 _ m p.1 (List.mem_cons_self ..) rfl
    show mergeK (putK acc p.1 p.2) r = _
    rw [putK_new _ (keys_none hn), merge_app r (acc ++ [(p.1, p.2)]) (by rw [List.append_assoc]; exact h), List.append_assoc]
    rfl
theorem merge_self {kvs : List (Key × V)} (h : (kvs.map (·.1)).Nodup) : mergeK [] kvs = kvs := merge_app kvs [] h
theorem nodup_inr {α : Type} (f : α → Str) : ∀ {l : List α}, (l.map f).Nodup → (l.map fun x => (Sum.inr (f x) : Key)).Nodup
  | [], _ => List.nodup_nil
  | a :: r, h => by
    obtain ⟨h1, h2⟩ := List.nodup_cons.mp (show (f a :: r.map f).Nodup from h)
    refine List.nodup_cons.mpr ⟨fun m => ?_, nodup_inr f h2⟩
    obtain ⟨b, hb, e⟩ := List.mem_map.mp m
    exact h1 (List.mem_map.mpr ⟨b, hb, Sum.inr.inj e⟩)
theorem ix_pos {n : Nat} {r : Int} (h0 : 0 ≤ r) (h1 : r < n) : seqIndex? r n = some r.toNat := (ixN_seq (by unfold ixN; rw [if_pos h0, if_pos h1])).1
end Gu

set_option Elab.async false
set_option linter.all false
set_option maxRecDepth 100000
set_option maxHeartbeats 4000000
/-! zip of two lists or of two tuples at two slots -/
namespace Gv
open L2 hiding Ext
open PySem PySem.Spec PyProof.Rows Gn Gk Gu
theorem walk_zipT {K : PySem.W.Frag} {a b : Addr} {xs ys : List V} {n : Nat} (h : n = min xs.length ys.length) : Walk (RZ.ItzT K a b) n (fun H => SqT K H a xs ∧ SqT K H b ys) (YPair (fun i => xs[i]?) fun i => ys[i]?) := by
  refine ⟨fun i H hi g => ?_, fun H g => ?_, fun i H x H' hi g y => ?_⟩
  · exact ⟨xs, ys, _, _, g.1, g.2, List.getElem?_eq_getElem (by omega), List.getElem?_eq_getElem (by omega)⟩
  · exact ⟨xs, ys, g.1, g.2, by omega⟩
  · obtain ⟨T, x1, x2, e, hT, e2, k1, k2⟩ := y
    exact ⟨T, x1, x2, e, hT, e2, k1 xs g.1, k2 ys g.2⟩
def SameK (H : Hp) (a b : Addr) (xs ys : List V) : Prop := (H a = some (.lst xs) ∧ H b = some (.lst ys)) ∨ (H a = some (.tup xs) ∧ H b = some (.tup ys))
theorem SameK.ext {H H' : Hp} {a b : Addr} {xs ys : List V} (h : SameK H a b xs ys) (k : Ext H H') : SameK H' a b xs ys := h.elim (fun e => .inl ⟨k _ _ e.1, k _ _ e.2⟩) (fun e => .inr ⟨k _ _ e.1, k _ _ e.2⟩)
theorem SameK.c1 {H : Hp} {a b : Addr} {xs ys : List V} (h : SameK H a b xs ys) : ClAt H a xs := h.elim (fun e => .inl e.1) (fun e => .inr e.1)
theorem SameK.c2 {H : Hp} {a b : Addr} {xs ys : List V} (h : SameK H a b xs ys) : ClAt H b ys := h.elim (fun e => .inl e.2) (fun e => .inr e.2)
def iZipV (i j : Nat) : TI := fun σ H R => ∃ (a b : Addr) (xs ys : List V), σ[i]? = some (some (.ref a)) ∧ σ[j]? = some (some (.ref b)) ∧ SameK H a b xs ys ∧ ∀ J, Walk J (min xs.length ys.length) (fun H' => H' a = H a ∧ H' b = H b) (YPair (fun i => xs[i]?) fun i => ys[i]?) → R J H
theorem iZip_ok {K : PySem.W.Frag} {i j : Nat} : ∀ (σ : L2.St) (H : Hp) (R : It → Hp → Prop), iZipV i j σ H R → RZ.iZipA K (tCons (tVar i) (tCons (tVar j) tNil)) σ H R := by
  rintro σ H R ⟨a, b, xs, ys, h1, h2, hc, k⟩
  rcases hc with ⟨h3, h4⟩ | ⟨h3, h4⟩
  · exact ⟨_, h1, _, h2, a, b, xs, ys, rfl, .inl ⟨SqL.of h3, SqL.of h4, k _ (wW (walk_zip rfl) fun H' e => ⟨SqL.of (e.1.trans h3), SqL.of (e.2.trans h4)⟩)⟩⟩
  · exact ⟨_, h1, _, h2, a, b, xs, ys, rfl, .inr ⟨SqT.of h3, SqT.of h4, k _ (wW (walk_zipT rfl) fun H' e => ⟨SqT.of (e.1.trans h3), SqT.of (e.2.trans h4)⟩)⟩⟩
end Gv

set_option Elab.async false
set_option linter.all false
set_option maxRecDepth 100000
set_option maxHeartbeats 4000000
/-! zip of two lists, of two tuples, or of a tuple and a list -/
namespace Gm
open L2 hiding Ext
open PySem PySem.Spec PyProof.Rows Gn Gk Gu
def ItM (K : PySem.W.Frag) (a b : Addr) : It where
  go := fun i H => ∃ xs ys x y, SqT K H a xs ∧ SqL K H b ys ∧ xs[i]? = some x ∧ ys[i]? = some y
  yld := fun i H v H' => ∃ T x y, v = V.ref T ∧ H T = none ∧ H' = upd H T (.tup [x, y]) ∧ (∀ xs, SqT K H a xs → xs[i]? = some x) ∧ ∀ ys, SqL K H b ys → ys[i]? = some y
  stop := fun i H => ∃ xs ys, SqT K H a xs ∧ SqL K H b ys ∧ i = min xs.length ys.length
def tnM (a b z TI TO i1 i2 : Addr) (i : Nat) (h : Heap) : Prop :=
  IsZip h z TI TO Value.none ∧ IsTupOf2 h TI (Value.ref i1) (Value.ref i2) ∧ (∃ x y, IsTupOf2 h TO x y) ∧ h.IsTupleIter i1 a i ∧ h.IsListIter i2 b i
theorem lt_of_get {h : Heap} {a : Addr} {o : Obj} (e : h.get? a = some o) : a < h.objs.size := Heap.lt_size e
theorem turn_zipM {P : Program} {w : World} {K : PySem.W.Frag} {elts : List Expr} {kk : Nat} {tpos : Pos} {a b z TI TO i1 i2 : Addr} (h : ZipApart z TI TO i1 i2 a b) :
    Turn P w K (Expr.Tuple elts kk tpos) (ItM K a b) [z, TI, TO, i1, i2] z (tnM a b z TI TO i1 i2) := by
  have sep : ZipSep2 z TI TO i1 i2 [i1, a] [i2, b] := by
    refine ⟨h.TIz, h.TOz, h.TITO, h.TIi1, by simp, ?_, ?_, h.TIi2, by simp, ?_, ?_, ?_, ?_⟩ <;>
      simp only [List.mem_cons, List.not_mem_nil, or_false, not_or]
    · exact ⟨h.i1z.symm, h.l1z.symm⟩
    · exact ⟨h.TOi1, h.l1TO.symm⟩
    · exact ⟨h.i2z.symm, h.l2z.symm⟩
    · exact ⟨h.TOi2, h.l2TO.symm⟩
    · exact ⟨h.i12, h.l2i1.symm⟩
    · exact ⟨h.i12.symm, h.l1i2.symm⟩
  refine ⟨by simp, ?_, ?_, ?_, ?_, ?_⟩
  · rintro i hp ⟨h1, h2, ⟨x, y, h3⟩, ⟨o4, h4, _, d4⟩, ⟨o5, h5, _, d5⟩⟩ b' hb
    simp only [List.mem_cons, List.not_mem_nil, or_false] at hb
    rcases hb with rfl | rfl | rfl | rfl | rfl
    · exact ⟨_, h1, fun v e => by cases e⟩
    · exact ⟨_, h2, fun v e => by cases e⟩
    · exact ⟨_, h3, fun v e => by cases e⟩
    · exact ⟨_, h4, fun v e => by rw [d4] at e; cases e⟩
    · exact ⟨_, h5, fun v e => by rw [d5] at e; cases e⟩
  · rintro i hp hp' ⟨h1, h2, ⟨x, y, h3⟩, ⟨o4, h4, c4, d4⟩, ⟨o5, h5, c5, d5⟩⟩ k
    exact ⟨k _ (by simp) _ h1, k _ (by simp) _ h2, ⟨x, y, k _ (by simp) _ h3⟩, ⟨o4, k _ (by simp) _ h4, c4, d4⟩, ⟨o5, k _ (by simp) _ h5, c5, d5⟩⟩
  · rintro X rfl rfl rfl hc i pins s σ H E I fp ⟨t1, t2, t3, t4, t5⟩ ⟨xs, ys, x, y, hx, hy, ex, ey⟩
    obtain ⟨its1, v1, p1, _⟩ := I.tuple hx
    obtain ⟨its2, v2, p2, _⟩ := I.list hy
    have hd : X.A.in1.handled = none := I.ok.hd hc
    have G := GoesN.zip2 (elts := elts) (x1 := kk) (pos := tpos) sep (Draws.tuple (prog := X.prog) (w := X.w) hd i1 a h.l1i1 its1.toArray) (Draws.list (prog := X.prog) (w := X.w) hd i2 b h.l2i2 its2.toArray)
    have hi1 := (List.getElem?_eq_some_iff.mp ex).1
    have hi2 := (List.getElem?_eq_some_iff.mp ey).1
    have l1 := v1.length
    have l2 := v2.length
    refine G.goes i s (fun u s2 => ∃ x H', L2.Inv X pins σ H' s2 ∧ L2.RelV x u ∧ (ItM X.K a b).yld i H x H' ∧ tnM a b z TI TO i1 i2 (i + 1) s2.heap ∧ ∀ b ∈ [z, TI, TO, i1, i2], H' b = none) E (by simp; omega) ⟨t1, t2, t3, ⟨t4, p1⟩, ⟨t5, p2.isList⟩⟩ ?_
    rintro v h' tk ⟨T, x', y', rfl, hT, e1, e2, tup⟩ ⟨s1, s2, s3, ⟨s4, _⟩, ⟨s5, _⟩⟩ keep _
    obtain ⟨u1, g1, r1⟩ := v1.get ex
    obtain ⟨u2, g2, r2⟩ := v2.get ey
    have e1 : its1[i]? = some x' := by simpa using e1
    have e2 : its2[i]? = some y' := by simpa using e2
    rw [g1] at e1
    rw [g2] at e2
    cases e1
    cases e2
    have fr := I.hok.fresh hT
    refine ⟨V.ref T, upd H T (.tup [x, y]), ?_, rfl, ⟨T, x, y, rfl, fr, rfl, fun xs' hx' => ?_, fun ys' hy' => ?_⟩, ⟨s1, s2, s3, s4, s5⟩, fun b' hb' => ?_⟩
    · refine I.turnedNew keep (fun b' hb' => fp b' ?_) hT ?_
      · simp only [List.mem_cons, List.not_mem_nil, or_false] at hb' ⊢
        rcases hb' with rfl | rfl | rfl | rfl <;> simp
      · exact ⟨by show 2 ≤ sizeLine; decide, _, .cons r1 (.cons r2 .nil), tup⟩
    · rw [I.tuple_inj hx' hx]; exact ex
    · rw [I.list_inj hy' hy]; exact ey
    · have : b' < s.heap.objs.size := by
        obtain ⟨x, y, t3⟩ := t3
        obtain ⟨o4, t4, _, _⟩ := t4
        obtain ⟨o5, t5, _, _⟩ := t5
        simp only [List.mem_cons, List.not_mem_nil, or_false] at hb'
        rcases hb' with rfl | rfl | rfl | rfl | rfl
        · exact lt_of_get t1
        · exact lt_of_get t2
        · exact lt_of_get t3
        · exact lt_of_get t4
        · exact lt_of_get t5
      rw [upd_ne (Nat.ne_of_lt (Nat.lt_of_lt_of_le this hT))]
      exact (fp b' hb').1
  · rintro X rfl rfl rfl hc i pins s σ H E I fp ⟨t1, t2, t3, t4, t5⟩ ⟨xs, ys, hx, hy, rfl⟩
    obtain ⟨its1, v1, p1, _⟩ := I.tuple hx
    obtain ⟨its2, v2, p2, _⟩ := I.list hy
    have hd : X.A.in1.handled = none := I.ok.hd hc
    have G := GoesN.zip2 (elts := elts) (x1 := kk) (pos := tpos) sep (Draws.tuple (prog := X.prog) (w := X.w) hd i1 a h.l1i1 its1.toArray) (Draws.list (prog := X.prog) (w := X.w) hd i2 b h.l2i2 its2.toArray)
    have l1 := v1.length
    have l2 := v2.length
    have en : min its1.toArray.size its2.toArray.size = min xs.length ys.length := by simp; omega
    rw [en] at G
    refine G.stops s (fun s1 => L2.Inv X pins σ H s1) E ⟨t1, t2, t3, ⟨t4, p1⟩, ⟨t5, p2.isList⟩⟩ fun h' tk keep _ => ?_
    exact I.turnedL keep fun b' hb' => fp b' (by
      simp only [List.mem_cons, List.not_mem_nil, or_false] at hb' ⊢
      rcases hb' with rfl | rfl | rfl | rfl <;> simp)
  · rintro A i s Q E ⟨t1, _⟩ q
    exact wpAny_pyIter_zip t1 q
/-- two lists, two tuples, or a tuple and a list -/
def iZipM (K : PySem.W.Frag) (ta : TA) : TI := fun σ H R => ta σ H fun vs H1 => ∃ a b xs ys, vs = [V.ref a, V.ref b] ∧
  ((SqL K H1 a xs ∧ SqL K H1 b ys ∧ R (Itz K a b) H1) ∨ (SqT K H1 a xs ∧ SqT K H1 b ys ∧ R (RZ.ItzT K a b) H1) ∨ (SqT K H1 a xs ∧ SqL K H1 b ys ∧ R (ItM K a b) H1))
theorem fp5 {X : Cx} {pins : List (Addr × Obj)} {σ : L2.St} {H : Hp} {s : Shared} (I : L2.Inv X pins σ H s) : ∀ b ∈ [s.heap.objs.size + 4, s.heap.objs.size + 2, s.heap.objs.size + 3, s.heap.objs.size, s.heap.objs.size + 1], FpOk X pins H b := fun b hb => by
  simp only [List.mem_cons, List.not_mem_nil, or_false] at hb
  have h : s.heap.objs.size ≤ b := by rcases hb with rfl | rfl | rfl | rfl | rfl <;> first | exact Nat.le_add_right _ _ | exact Nat.le_refl _
  exact I.fpOk h (I.hok.fresh h)
theorem pi_zipM {X : Cx} {e e2 : Expr} {ta : TA} {p pos tpos : Pos} {elts : List Expr} {kk : Nat} (hg : Gl X "zip") (hm : X.mg "zip" = none) (ha : PA X [e, e2] ta)
    (hs : starEach [e, e2] X.env = (false, eval e X.env) :: starEach [e2] X.env := by rfl) (hpl : ((backTo pos (starEach [e2] X.env)).any fun x => x.1) = false := by rfl) :
    PI X (Expr.Tuple elts kk tpos) ((Expr.Name "zip" p).Call [e, e2] [] pos) (iZipM X.K ta) := by
  refine ⟨fun pins s σ H R I h => Call_ (ld_blt I hg hm boot_zip (PyProof.Rows.callWith_type1 (thn (ha.run pos pins s σ H _ I h) ?_) hs hpl))⟩
  rintro us s1 ⟨vs, H1, I1, r1, a, b, xs, ys, rfl, q1⟩
  cases r1 with
  | cons r1 rr => cases rr with
    | cons r2 rr =>
      cases rr
      cases r1
      cases r2
      rcases q1 with ⟨hx, hy, hR⟩ | ⟨hx, hy, hR⟩ | ⟨hx, hy, hR⟩
      · obtain ⟨its1, v1, p1, _⟩ := I1.list hx
        obtain ⟨its2, v2, p2, _⟩ := I1.list hy
        refine zip_begins2 (begins_list a its1.toArray) (begins_list b its2.toArray) p1.isList p2.isList fun h' z1 z2 z3 z4 z5 z6 z7 => wpAny_pyIter_zip z1 ?_
        exact ⟨_, _, _, _, H1, rfl, I1.kept z7, turn_zip (PySem.W.ktu_apart _ a b p1.lt p2.lt), ⟨z1, z2, ⟨_, _, z3⟩, ⟨_, z4, rfl, rfl⟩, ⟨_, z5, rfl, rfl⟩⟩, fp5 I1, hR⟩
      · obtain ⟨its1, v1, p1, _⟩ := I1.tuple hx
        obtain ⟨its2, v2, p2, _⟩ := I1.tuple hy
        refine zip_begins2 (begins_tuple a its1.toArray) (begins_tuple b its2.toArray) p1 p2 fun h' z1 z2 z3 z4 z5 z6 z7 => wpAny_pyIter_zip z1 ?_
        obtain ⟨o1, g1, _⟩ := p1
        obtain ⟨o2, g2, _⟩ := p2
        exact ⟨_, _, _, _, H1, rfl, I1.kept z7, RZ.turn_zipT (PySem.W.ktu_apart _ a b (lt_of_get g1) (lt_of_get g2)), ⟨z1, z2, ⟨_, _, z3⟩, ⟨_, z4, rfl, rfl⟩, ⟨_, z5, rfl, rfl⟩⟩, fp5 I1, hR⟩
      · obtain ⟨its1, v1, p1, _⟩ := I1.tuple hx
        obtain ⟨its2, v2, p2, _⟩ := I1.list hy
        refine zip_begins2 (begins_tuple a its1.toArray) (begins_list b its2.toArray) p1 p2.isList fun h' z1 z2 z3 z4 z5 z6 z7 => wpAny_pyIter_zip z1 ?_
        obtain ⟨o1, g1, _⟩ := p1
        exact ⟨_, _, _, _, H1, rfl, I1.kept z7, turn_zipM (PySem.W.ktu_apart _ a b (lt_of_get g1) p2.lt), ⟨z1, z2, ⟨_, _, z3⟩, ⟨_, z4, rfl, rfl⟩, ⟨_, z5, rfl, rfl⟩⟩, fp5 I1, hR⟩
theorem walk_zipM {K : PySem.W.Frag} {a b : Addr} {xs ys : List V} {n : Nat} (h : n = min xs.length ys.length) : Walk (ItM K a b) n (fun H => SqT K H a xs ∧ SqL K H b ys) (YPair (fun i => xs[i]?) fun i => ys[i]?) := by
  refine ⟨fun i H hi g => ?_, fun H g => ?_, fun i H x H' hi g y => ?_⟩
  · exact ⟨xs, ys, _, _, g.1, g.2, List.getElem?_eq_getElem (by omega), List.getElem?_eq_getElem (by omega)⟩
  · exact ⟨xs, ys, g.1, g.2, h⟩
  · obtain ⟨T, x1, x2, e, hT, e2, k1, k2⟩ := y
    exact ⟨T, x1, x2, e, hT, e2, k1 xs g.1, k2 ys g.2⟩
/-- of one kind, or a tuple beside a list -/
def Mix (H : Hp) (a b : Addr) (xs ys : List V) : Prop := Gv.SameK H a b xs ys ∨ (H a = some (.tup xs) ∧ H b = some (.lst ys))
theorem Mix.ext {H H' : Hp} {a b : Addr} {xs ys : List V} (h : Mix H a b xs ys) (k : Ext H H') : Mix H' a b xs ys := h.elim (fun e => .inl (e.ext k)) (fun e => .inr ⟨k _ _ e.1, k _ _ e.2⟩)
def iZipV (i j : Nat) : TI := fun σ H R => ∃ (a b : Addr) (xs ys : List V), σ[i]? = some (some (.ref a)) ∧ σ[j]? = some (some (.ref b)) ∧ Mix H a b xs ys ∧ ∀ J, Walk J (min xs.length ys.length) (fun H' => H' a = H a ∧ H' b = H b) (YPair (fun i => xs[i]?) fun i => ys[i]?) → R J H
theorem iZip_ok {K : PySem.W.Frag} {i j : Nat} : ∀ (σ : L2.St) (H : Hp) (R : It → Hp → Prop), iZipV i j σ H R → iZipM K (tCons (tVar i) (tCons (tVar j) tNil)) σ H R := by
  rintro σ H R ⟨a, b, xs, ys, h1, h2, hc, k⟩
  rcases hc with (⟨h3, h4⟩ | ⟨h3, h4⟩) | ⟨h3, h4⟩
  · exact ⟨_, h1, _, h2, a, b, xs, ys, rfl, .inl ⟨SqL.of h3, SqL.of h4, k _ (wW (walk_zip rfl) fun H' e => ⟨SqL.of (e.1.trans h3), SqL.of (e.2.trans h4)⟩)⟩⟩
  · exact ⟨_, h1, _, h2, a, b, xs, ys, rfl, .inr (.inl ⟨SqT.of h3, SqT.of h4, k _ (wW (Gv.walk_zipT rfl) fun H' e => ⟨SqT.of (e.1.trans h3), SqT.of (e.2.trans h4)⟩)⟩)⟩
  · exact ⟨_, h1, _, h2, a, b, xs, ys, rfl, .inr (.inr ⟨SqT.of h3, SqL.of h4, k _ (wW (walk_zipM rfl) fun H' e => ⟨SqT.of (e.1.trans h3), SqL.of (e.2.trans h4)⟩)⟩)⟩
end Gm

set_option Elab.async false
set_option linter.all false
set_option maxRecDepth 100000
set_option maxHeartbeats 4000000
/-! enumerate of a list or of a tuple; `is not` of two truth values -/
namespace Gq
open L2 hiding Ext
open PySem PySem.Spec PyProof.Rows Gn Gk Gu
theorem wp_ite {α : Type} {M : Model} {A : Around} {E : Value → Shared → Prop} {s : Shared} {c : Prop} [Decidable c] {a b : Sem α} {Q : α → Shared → Prop} (h1 : wpAny M A a Q E s) (h2 : wpAny M A b Q E s) : wpAny M A (if c then a else b) Q E s := by
  by_cases h : c
  · rw [if_pos h]; exact h1
  · rw [if_neg h]; exact h2
theorem meets_enum1 {v : Value} {o : Obj} {H : Heap → Prop} (B : Begins v o H) :
    Meets (Builtin.«enumerate.__new__» { pos := [Value.type "enumerate", v] }) fun x R s =>
          H s.heap ∧
            R (Except.ok (Flow.ret (Value.ref (s.heap.push o).objs.size)))
              { heap := (s.heap.push o).push { cls := Value.type "enumerate", data := Data.fields #[Value.none, Value.bool false, Value.ref s.heap.objs.size, rawInt 0, Value.none, Value.none] },
                gens := s.gens, drawn := s.drawn, toks := s.toks, os := s.os } := by
  refine Meets.of_wp fun prog w A R s h => ?_
  obtain ⟨hp, g, d, tk, os⟩ := s
  obtain ⟨h1, h⟩ := h
  have q1 := fun {A'} {E Q} q => B.iter prog w A' E { heap := hp, gens := g, drawn := d, toks := tk, os := os } Q h1 q
  have hsub := sub_enumerate
  refine wpAny_bind ?_
  unfold Builtin.SmallTypes.newClass
  refine wpAny_bind ?_
  refine wpAny_pure ?_
  refine wpAny_ite_false rfl ?_
  refine wpAny_bind ?_
  refine wpAny_of_eq hsub ?_
  refine wpAny_ite_false rfl ?_
  refine wpAny_pure ?_
  refine wpAny_ite_true rfl ?_
  refine wpAny_bind ?_
  unfold Builtin.SmallTypes.calledThroughType
  refine wpAny_bind ?_
  refine wpAny_stack_any fun st => wpAny_pure ?_
  refine wp_ite ?_ ?_
  all_goals
    refine wpAny_bind ?_
    refine wpAny_pure ?_
    refine wpAny_bind (q1 ?_)
    refine wpAny_bind ?_
    unfold Builtin.SmallTypes.newRecord
    unfold newObj
    refine wpAny_bind (wpAny_alloc ?_)
    refine wpAny_pure ?_
    refine wpAny_pure ?_
    exact ⟨_, rfl, h⟩
theorem call_enum1 {prog : Program} {w : World} {A : Around} {E : Value → Shared → Prop} {s : Shared} {v : Value} {o : Obj} {H : Heap → Prop} {Q : Value → Shared → Prop} (B : Begins v o H) (h1 : H s.heap)
    (h : ∀ h' : Heap, IsEnum h' (s.heap.objs.size + 1) s.heap.objs.size 0 Value.none → h'.get? s.heap.objs.size = some o → h'.objs.size = s.heap.objs.size + 2 → (∀ (b : Addr) (o : Obj), s.heap.get? b = some o → h'.get? b = some o) →
      Q (Value.ref (s.heap.objs.size + 1)) { heap := h', gens := s.gens, drawn := s.drawn, toks := s.toks, os := s.os }) : wpAny (model prog w) A (call (Value.type "enumerate") [v]) Q E s := by
  refine callType_new F.called_enumerate (by decide) (F.typeCall_enumerate_1 v) (F.newCall_enumerate_1 v) (fun obj => F.args_object_init_2 obj v) F.entry_enumerate_new (meets_enum1 B) ⟨h1, ?_⟩
  have hz := Heap.size_push s.heap o
  have he : ((s.heap.push o).push { cls := Value.type "enumerate", data := Data.fields #[Value.none, Value.bool false, Value.ref s.heap.objs.size, rawInt 0, Value.none, Value.none] }).get? (s.heap.push o).objs.size = some { cls := Value.type "enumerate", data := Data.fields #[Value.none, Value.bool false, Value.ref s.heap.objs.size, rawInt 0, Value.none, Value.none] } := Heap.get?_push_size (s.heap.push o) rfl
  show _ ∧ _
  rw [hz] at he ⊢
  refine ⟨⟨_, he, rfl⟩, h _ he (Heap.get?_push_of_some _ (Heap.get?_push_size s.heap B.free)) (by rw [Heap.size_push, hz]) fun b o' x => Heap.get?_push_of_some _ (Heap.get?_push_of_some o x)⟩
def ItE (K : PySem.W.Frag) (a : Addr) : It where
  go := fun i H => ∃ xs x, SqT K H a xs ∧ xs[i]? = some x
  yld := fun i H v H' => ∃ T x, v = V.ref T ∧ H T = none ∧ H' = upd H T (.tup [.int (i : Nat), x]) ∧ ∀ xs, SqT K H a xs → xs[i]? = some x
  stop := fun i H => ∃ xs, SqT K H a xs ∧ i = xs.length
def tnE (a e it : Addr) (i : Nat) (h : Heap) : Prop := (∃ old, IsEnum h e it ((0 : Int) + (i : Nat)) old) ∧ h.IsTupleIter it a i
theorem turn_enumT {P : Program} {w : World} {K : PySem.W.Frag} {elts : List Expr} {kk : Nat} {tpos : Pos} {a e it : Addr} (h1 : e ≠ it) (h2 : a ≠ e) (h3 : a ≠ it) :
    Turn P w K (Expr.Tuple elts kk tpos) (ItE K a) [e, it] e (tnE a e it) := by
  refine ⟨by simp, ?_, ?_, ?_, ?_, ?_⟩
  · rintro i hp ⟨⟨old, h1⟩, ⟨o4, h4, _, d4⟩⟩ b' hb
    simp only [List.mem_cons, List.not_mem_nil, or_false] at hb
    rcases hb with rfl | rfl
    · exact ⟨_, h1, fun v e => by cases e⟩
    · exact ⟨_, h4, fun v e => by rw [d4] at e; cases e⟩
  · rintro i hp hp' ⟨⟨old, h1⟩, ⟨o4, h4, c4, d4⟩⟩ k
    exact ⟨⟨old, k _ (by simp) _ h1⟩, ⟨o4, k _ (by simp) _ h4, c4, d4⟩⟩
  · rintro X rfl rfl rfl hc i pins s σ H E I fp ⟨t1, t4⟩ ⟨xs, x, hx, ex⟩
    obtain ⟨its1, v1, p1, _⟩ := I.tuple hx
    have hd : X.A.in1.handled = none := I.ok.hd hc
    have G := GoesN.enumFrom (elts := elts) (x1 := kk) (pos := tpos) 0 (Draws.tuple (prog := X.prog) (w := X.w) hd it a h3 its1.toArray) e h1 (by simp only [List.mem_cons, List.not_mem_nil, or_false, not_or]; exact ⟨h1, h2.symm⟩) (by simp)
    have hi1 := (List.getElem?_eq_some_iff.mp ex).1
    have l1 := v1.length
    refine G.goes i s (fun u s2 => ∃ x H', L2.Inv X pins σ H' s2 ∧ L2.RelV x u ∧ (ItE X.K a).yld i H x H' ∧ tnE a e it (i + 1) s2.heap ∧ ∀ b ∈ [e, it], H' b = none) E (by simp; omega) ⟨t1, t4, p1⟩ ?_
    rintro v h' tk ⟨T, t, x', rfl, hT, e1, tup⟩ ⟨s1, s4, _⟩ keep _
    obtain ⟨u1, g1, r1⟩ := v1.get ex
    have e1 : its1[i]? = some x' := by simpa using e1
    rw [g1] at e1
    cases e1
    have fr := I.hok.fresh hT
    refine ⟨V.ref T, upd H T (.tup [.int (i : Nat), x]), ?_, rfl, ⟨T, x, rfl, fr, rfl, fun xs' hx' => ?_⟩, ⟨s1, s4⟩, fun b' hb' => ?_⟩
    · refine I.turnedNew keep (fun b' hb' => fp b' hb') hT ?_
      refine ⟨by show 2 ≤ sizeLine; decide, _, .cons (b := Value.int (0 + (i : Nat)) t) ⟨t, ?_⟩ (.cons r1 .nil), tup⟩
      rw [Int.zero_add]
    · rw [I.tuple_inj hx' hx]; exact ex
    · have : b' < s.heap.objs.size := by
        obtain ⟨old, t1⟩ := t1
        obtain ⟨o4, t4, _, _⟩ := t4
        simp only [List.mem_cons, List.not_mem_nil, or_false] at hb'
        rcases hb' with rfl | rfl
        · exact Gm.lt_of_get t1
        · exact Gm.lt_of_get t4
      rw [upd_ne (Nat.ne_of_lt (Nat.lt_of_lt_of_le this hT))]
      exact (fp b' hb').1
  · rintro X rfl rfl rfl hc i pins s σ H E I fp ⟨t1, t4⟩ ⟨xs, hx, rfl⟩
    obtain ⟨its1, v1, p1, _⟩ := I.tuple hx
    have hd : X.A.in1.handled = none := I.ok.hd hc
    have G := GoesN.enumFrom (elts := elts) (x1 := kk) (pos := tpos) 0 (Draws.tuple (prog := X.prog) (w := X.w) hd it a h3 its1.toArray) e h1 (by simp only [List.mem_cons, List.not_mem_nil, or_false, not_or]; exact ⟨h1, h2.symm⟩) (by simp)
    have l1 := v1.length
    have en : its1.toArray.size = xs.length := by simp; omega
    rw [en] at G
    refine G.stops s (fun s1 => L2.Inv X pins σ H s1) E ⟨t1, t4, p1⟩ fun h' tk keep _ => ?_
    exact I.turnedL keep fun b' hb' => fp b' hb'
  · rintro A i s Q E ⟨⟨old, t1⟩, _⟩ q
    exact wpAny_pyIter_enum t1 q
theorem fp2 {X : Cx} {pins : List (Addr × Obj)} {σ : L2.St} {H : Hp} {s : Shared} (I : L2.Inv X pins σ H s) : ∀ b ∈ [s.heap.objs.size + 1, s.heap.objs.size], FpOk X pins H b := fun b hb => by
  simp only [List.mem_cons, List.not_mem_nil, or_false] at hb
  have h : s.heap.objs.size ≤ b := by rcases hb with rfl | rfl <;> first | exact Nat.le_add_right _ _ | exact Nat.le_refl _
  exact I.fpOk h (I.hok.fresh h)
/-- a list or a tuple -/
def iEnumM (K : PySem.W.Frag) (ta : TA) : TI := fun σ H R => ta σ H fun vs H1 => ∃ a xs, vs = [V.ref a] ∧ ((SqL K H1 a xs ∧ R (Ite K a) H1) ∨ (SqT K H1 a xs ∧ R (ItE K a) H1))
theorem ne_lt {a N : Nat} (h : a < N) : a ≠ N + 1 ∧ a ≠ N := by omega
theorem pi_enumM {X : Cx} {e : Expr} {ta : TA} {p pos tpos : Pos} {elts : List Expr} {kk : Nat} (hg : Gl X "enumerate") (hm : X.mg "enumerate" = none) (ha : PA X [e] ta)
    (hs : starEach [e] X.env = (false, eval e X.env) :: starEach [] X.env := by rfl) (hpl : ((backTo pos (starEach [] X.env)).any fun x => x.1) = false := by rfl) :
    PI X (Expr.Tuple elts kk tpos) ((Expr.Name "enumerate" p).Call [e] [] pos) (iEnumM X.K ta) := by
  refine ⟨fun pins s σ H R I h => Call_ (ld_blt I hg hm boot_enumerate (PyProof.Rows.callWith_type1 (thn (ha.run pos pins s σ H _ I h) ?_) hs hpl))⟩
  rintro us s1 ⟨vs, H1, I1, r1, a, xs, rfl, q1⟩
  cases r1 with
  | cons r1 rr =>
    cases rr
    cases r1
    rcases q1 with ⟨hx, hR⟩ | ⟨hx, hR⟩
    · obtain ⟨its1, v1, p1, _⟩ := I1.list hx
      refine call_enum1 (begins_list a its1.toArray) p1.isList fun h' z1 z2 z3 z4 => wpAny_pyIter_enum z1 ?_
      exact ⟨_, _, _, _, H1, rfl, I1.kept z4, turn_enum a _ _, ⟨⟨_, z1⟩, ⟨_, z2, rfl, rfl⟩, Nat.succ_ne_self _⟩, fp2 I1, hR⟩
    · obtain ⟨its1, v1, p1, _⟩ := I1.tuple hx
      refine call_enum1 (begins_tuple a its1.toArray) p1 fun h' z1 z2 z3 z4 => wpAny_pyIter_enum z1 ?_
      obtain ⟨o1, g1, _⟩ := p1
      obtain ⟨n1, n2⟩ := ne_lt (Gm.lt_of_get g1)
      exact ⟨_, _, _, _, H1, rfl, I1.kept z4, turn_enumT (Nat.succ_ne_self _) n1 n2, ⟨⟨_, z1⟩, ⟨_, z2, rfl, rfl⟩⟩, fp2 I1, hR⟩
theorem walk_enumT {K : PySem.W.Frag} {a : Addr} {xs : List V} : Walk (ItE K a) xs.length (fun H => SqT K H a xs) (YPair (fun i => some (V.int (i : Nat))) fun i => xs[i]?) := by
  refine ⟨fun i H hi g => ?_, fun H g => ?_, fun i H x H' hi g y => ?_⟩
  · exact ⟨xs, _, g, List.getElem?_eq_getElem (by omega)⟩
  · exact ⟨xs, g, rfl⟩
  · obtain ⟨T, x1, e, hT, e2, k1⟩ := y
    exact ⟨T, _, x1, e, hT, e2, rfl, k1 xs g⟩
def iEnumV (i : Nat) : TI := fun σ H R => ∃ (a : Addr) (xs : List V), σ[i]? = some (some (.ref a)) ∧ ClAt H a xs ∧ ∀ J, Walk J xs.length (fun H' => H' a = H a) (YPair (fun i => some (V.int (i : Nat))) fun i => xs[i]?) → R J H
theorem iEnum_ok {K : PySem.W.Frag} {i : Nat} : ∀ (σ : L2.St) (H : Hp) (R : It → Hp → Prop), iEnumV i σ H R → iEnumM K (tCons (tVar i) tNil) σ H R := by
  rintro σ H R ⟨a, xs, h1, hc, k⟩
  rcases hc with h3 | h3
  · exact ⟨_, h1, a, xs, rfl, .inl ⟨SqL.of h3, k _ (wW walk_enum fun H' e => SqL.of (e.trans h3))⟩⟩
  · exact ⟨_, h1, a, xs, rfl, .inr ⟨SqT.of h3, k _ (wW walk_enumT fun H' e => SqT.of (e.trans h3))⟩⟩
theorem same_bool (b c : Bool) : isSame (Value.bool b) (Value.bool c) = pure (b == c) := by cases b <;> cases c <;> rfl
theorem op_isnotB {X : Cx} : OpR X (compareOp CmpOp.IsNot) fun x y H Q => ∃ b c, x = V.bl b ∧ y = V.bl c ∧ Q (V.bl (!(b == c))) H := by
  rintro pins s σ H x y v u Q I r1 r2 ⟨b, c, rfl, rfl, q⟩
  cases r1
  cases r2
  unfold compareOp
  refine wpAny_bind ?_
  refine wpAny_of_eq (same_bool b c) ?_
  refine wpAny_pure ?_
  exact fin_bl I q rfl
end Gq

set_option Elab.async false
set_option linter.all false
set_option maxRecDepth 100000
set_option maxHeartbeats 4000000
/-! a value of any kind beside texts; a list of anything beside an empty one -/
namespace Gj
open L2 hiding Ext
open PySem PySem.Spec PyProof.Rows Gn Gk Gu SeqAt
theorem dict_not_str (a : Addr) (ob : Obj) (b : Str) (u : Tok) (hc : ob.cls = .type "dict") :
    Meets (Builtin.«dict.__eq__» ⟨[.ref a, .str b u], []⟩) (fun _ R s => s.heap.get? a = some ob ∧ R (.ok (.ret .notImplemented)) s) :=
  .of_wp fun prog w A R s h => by
    obtain ⟨hp, g, d, tk, os⟩ := s
    obtain ⟨hl, h⟩ := h
    have f1 := F.sub_str_dict
    unfold Builtin.«dict.__eq__»
    wp_walk using wpAny_loadPart' hl
    exact ⟨_, rfl, h⟩
theorem str_not_dict (b : Str) (u : Tok) (a : Addr) (ob : Obj) :
    Meets (Builtin.«str.__eq__» ⟨[.str b u, .ref a], []⟩) (fun _ R s => s.heap.get? a = some ob ∧ (∃ es ep, ob.data = .dict es ep) ∧ R (.ok (.ret .notImplemented)) s) :=
  .of_wp fun prog w A R s h => by
    obtain ⟨hp, g, d, tk, os⟩ := s
    obtain ⟨hl, ⟨es, ep, hd⟩, h⟩ := h
    obtain ⟨c, dd, data, sl⟩ := ob
    subst hd
    wp_walk using wpAny_loadPart' hl, wpAny_load hl
    exact ⟨_, rfl, h⟩
theorem rc_str_dict {A : Around} {s : Shared} {a : Addr} {ob : Obj} (b : Str) (u : Tok) (hl : s.heap.get? a = some ob) (hc : ob.cls = .type "dict") (hd : ∃ es ep, ob.data = .dict es ep) (hu : A.units < cLine) : RcAt A s (.str b u) (.ref a) false := fun prog w E Q h =>
  rc_eq_decline_or (k := false) (typeIs_str s b u) ⟨_, hl, hc⟩ (by decide) F.sub_dict_str F.slot_str_eq F.slot_dict_eq_refl
    (fun _ hq => call_meets F.slot_str_eq (typeIs_str s b u) F.entry_str_eq (F.args_str_eq_2 _ _) (str_not_dict b u a ob) ⟨hl, hd, hq⟩)
    (fun _ hq => call_meets F.slot_dict_eq_refl ⟨_, hl, hc⟩ F.entry_dict_eq (F.args_dict_eq_2 _ _) (dict_not_str a ob b u hc) ⟨hl, hq⟩)
    (fun _ hq => wpAny_of_eq (rfl : isSame (.str b u) (.ref a) = pure false) hq) (.inr hu) h
theorem eq_str_dict {A : Around} {s : Shared} {a : Addr} {ob : Obj} (b : Str) (u : Tok) (hl : s.heap.get? a = some ob) (hc : ob.cls = .type "dict") (hd : ∃ es ep, ob.data = .dict es ep) (hu : A.units < cLine) : EqAt A s (.str b u) (.ref a) false := fun prog w E Q h => by
  unfold eqBool
  refine wpAny_holding (wpAny_ite_split (fun hab => absurd (eq_of_beq hab) nofun) fun _ => ?_)
  exact wpAny_bind (rc_str_dict b u hl hc hd hu prog w E _ (wpAny_truthy_bool h))
/-- a list, a tuple or a dict -/
def Cont (H : Hp) (a : Addr) : Prop := (∃ xs, H a = some (.lst xs)) ∨ (∃ xs, H a = some (.tup xs)) ∨ ∃ kvs, H a = some (.dK kvs)
theorem Cont.ext {H H' : Hp} {a : Addr} (h : Cont H a) (k : ∀ b o, H b = some o → H' b = some o) : Cont H' a :=
  h.elim (fun ⟨x, e⟩ => .inl ⟨x, k _ _ e⟩) fun h => h.elim (fun ⟨x, e⟩ => .inr (.inl ⟨x, k _ _ e⟩)) fun ⟨x, e⟩ => .inr (.inr ⟨x, k _ _ e⟩)
theorem str_cont {X : Cx} {pins : List (Addr × Obj)} {σ : L2.St} {H : Hp} {s : Shared} (I : L2.Inv X pins σ H s) {a : Addr} (h : Cont H a) {A : Around} (hu : A.units < cLine) (b : Str) (u : Tok) : EqAt A s (.str b u) (.ref a) false := by
  rcases h with ⟨xs, h⟩ | ⟨xs, h⟩ | ⟨kvs, h⟩
  · obtain ⟨its, _, p, _⟩ := I.list (SqL.of h)
    exact EqAt.str_list b u p.isList hu
  · obtain ⟨its, _, p, _⟩ := I.tuple (SqT.of h)
    exact EqAt.str_tuple b u p hu
  · obtain ⟨_, _, vs, _, d⟩ := I.hok a _ h
    obtain ⟨o, es, ep, ho, hx, hdt, _⟩ := d
    exact eq_str_dict b u ho hx.1 ⟨es, ep, hdt⟩ hu
theorem str_flat (ws : List Str) : (ws.map V.str).all flatV = true := by
  rw [List.all_eq_true]
  intro x hx
  obtain ⟨w, _, rfl⟩ := List.mem_map.mp hx
  rfl
/-- x in a list or a tuple of texts, x of any kind -/
def rInO (neg : Bool) : R2 := fun x y H Q => ∃ (p : Addr) (ws : List Str), y = .ref p ∧ (H p = some (.lst (ws.map V.str)) ∨ H p = some (.tup (ws.map V.str))) ∧
  ((flatV x = true ∧ Q (.bl (if neg then !inV x (ws.map V.str) else inV x (ws.map V.str))) H) ∨ ∃ a, x = .ref a ∧ Cont H a ∧ Q (.bl neg) H)
theorem strs_false {X : Cx} {pins : List (Addr × Obj)} {σ : L2.St} {H : Hp} {s : Shared} (I : L2.Inv X pins σ H s) {a : Addr} (h : Cont H a) {A : Around} (hu : A.units < cLine) : ∀ {ws : List Str} {us : List Value}, Vals (ws.map V.str) us → ∀ y ∈ us, EqAt A s y (.ref a) false
  | [], _, .nil, y, hy => by cases hy
  | w :: ws, _, .cons r t, y, hy => by
    obtain ⟨tk, rfl⟩ := r
    rcases List.mem_cons.mp hy with rfl | hy
    · exact str_cont I h hu w tk
    · exact strs_false I h hu t y hy
section
variable {X : Cx} (h64 : X.A.units + 64 < cLine)
include h64 in
theorem op_inO : OpR X (compareOp .In) (rInO false) := by
  have hu : X.A.in1.units < cLine := by show X.A.units + 1 < cLine; omega
  have hu0 : X.A.units < cLine := by omega
  intro pins s σ H x y v u Q I rx ry h
  obtain ⟨p, ws, rfl, hp, h⟩ := h
  rcases h with ⟨fx, q⟩ | ⟨a, rfl, hc, q⟩
  · refine op_in_seq pins s σ H x _ v u Q I rx ry ⟨p, _, rfl, hp.elim (fun e => .inl (SqL.of e)) (fun e => .inr (SqT.of e)), fx, str_flat _, q⟩
  · cases rx
    cases ry
    rcases hp with hp | hp
    · obtain ⟨its, r, pl, _⟩ := I.list (SqL.of hp)
      refine in_listAt (fun _ => false) pl.isList (fun w hw => strs_false I hc hu r w (by simpa using hw)) ⟨.bl _, H, I, rfl, ?_⟩
      rw [show its.toArray.any (fun _ => false) = false by simp]
      exact q
    · obtain ⟨its, r, pl, _⟩ := I.tuple (SqT.of hp)
      refine in_tupleAt (fun _ => false) pl (fun w hw => strs_false I hc hu r w (by simpa using hw)) ⟨.bl _, H, I, rfl, ?_⟩
      rw [show its.toArray.any (fun _ => false) = false by simp]
      exact q
include h64 in
theorem op_notInO : OpR X (compareOp .NotIn) (rInO true) := by
  have hu : X.A.in1.units < cLine := by show X.A.units + 1 < cLine; omega
  have hu0 : X.A.units < cLine := by omega
  intro pins s σ H x y v u Q I rx ry h
  obtain ⟨p, ws, rfl, hp, h⟩ := h
  rcases h with ⟨fx, q⟩ | ⟨a, rfl, hc, q⟩
  · refine op_notIn_seq pins s σ H x _ v u Q I rx ry ⟨p, _, rfl, hp.elim (fun e => .inl (SqL.of e)) (fun e => .inr (SqT.of e)), fx, str_flat _, q⟩
  · cases rx
    cases ry
    rcases hp with hp | hp
    · obtain ⟨its, r, pl, _⟩ := I.list (SqL.of hp)
      refine notIn_listAt (fun _ => false) pl.isList (fun w hw => strs_false I hc hu r w (by simpa using hw)) ⟨.bl _, H, I, rfl, ?_⟩
      rw [show its.toArray.any (fun _ => false) = false by simp]
      exact q
    · obtain ⟨its, r, pl, _⟩ := I.tuple (SqT.of hp)
      refine notIn_tupleAt (fun _ => false) pl (fun w hw => strs_false I hc hu r w (by simpa using hw)) ⟨.bl _, H, I, rfl, ?_⟩
      rw [show its.toArray.any (fun _ => false) = false by simp]
      exact q
/-- a list of anything == a list of no item -/
def rEqE (K : PySem.W.Frag) (neg : Bool) : R2 := fun x y H Q => ∃ (a b : Addr) (xs : List V), x = .ref a ∧ y = .ref b ∧ SqL K H a xs ∧ SqL K H b [] ∧ Q (.bl (if neg then !xs.isEmpty else xs.isEmpty)) H
include h64 in
theorem op_eqE : OpR X (compareOp .Eq) (rEqE X.K false) := by
  have hu : X.A.in1.units < cLine := by show X.A.units + 1 < cLine; omega
  have hu0 : X.A.units < cLine := by omega
  intro pins s σ H x y v u Q I rx ry h
  obtain ⟨a, b, xs, rfl, rfl, ha, hb, q⟩ := h
  cases rx
  cases ry
  obtain ⟨its, r, pa, _⟩ := I.list ha
  obtain ⟨its2, r2, pb, _⟩ := I.list hb
  cases r2
  cases r with
  | nil =>
    refine eq_listAt (e := fun _ => true) pa.isList pb.isList rfl hu0 (fun j h1 => absurd h1 (Nat.not_lt_zero j)) ⟨.bl _, H, I, rfl, ?_⟩
    exact q
  | cons r t =>
    refine eq_list_lengthsAt pa.isList pb.isList (by simp) hu0 ⟨.bl _, H, I, rfl, ?_⟩
    exact q
include h64 in
theorem op_neE : OpR X (compareOp .NotEq) (rEqE X.K true) := by
  have hu0 : X.A.units < cLine := by omega
  intro pins s σ H x y v u Q I rx ry h
  obtain ⟨a, b, xs, rfl, rfl, ha, hb, q⟩ := h
  cases rx
  cases ry
  obtain ⟨its, r, pa, _⟩ := I.list ha
  obtain ⟨its2, r2, pb, _⟩ := I.list hb
  cases r2
  cases r with
  | nil => exact RcNeAt.lists (e := fun _ => true) pa.isList pb.isList rfl hu0 (fun j h1 => absurd h1 (Nat.not_lt_zero j)) _ _ _ _ ⟨.bl _, H, I, rfl, q⟩
  | cons r t => exact RcNeAt.lists_lengths pa.isList pb.isList (by simp) hu0 _ _ _ _ ⟨.bl _, H, I, rfl, q⟩
end
end Gj

set_option Elab.async false
set_option linter.all false
set_option maxRecDepth 100000
set_option maxHeartbeats 4000000
/-! enumerate(.., start=k) of a tuple -/
namespace Gs
open L2 hiding Ext
open PySem PySem.Spec PyProof.Rows Gn Gk Gu Gq
section
variable {M : Model} {A : Around} {E : Value → Shared → Prop} {s : Shared} {env : Env}
theorem callWith_type_kwB {pos : Pos} {T : String} {first : List Value} {args : List (Bool × Sem Value)} {keywords : List (Option Str × Sem Value)} {Q : Value → Shared → Prop}
    (hplain : args.any (·.1) = false) (hkw : keywords.any (·.1.isNone) = false)
    (h : wpAny M A (evalArgs (.type T) true args keywords) (fun a s₁ => wpAny M A (call (.type T) (first ++ a.pos) a.kw) Q E s₁) E s) :
    wpAny M A (callWith pos (.type T) first args keywords) Q E s := by
  unfold callWith
  refine wpAny_bind (wpAny_holding (wpAny_mono h (fun a s₁ h₁ => wpAny_bind (wpAny_standAt ?_)) fun _ _ x => x))
  simp only [hplain, hkw, Bool.or_false]
  refine wpAny_bind (wpAny_pure ?_)
  exact wpAny_bind (wpAny_mono h₁ (fun r s₂ hr => wpAny_bind (wpAny_holding (wpAny_point (wpAny_pure hr)))) fun _ _ x => x)
theorem callWith_typeKw {pos : Pos} {T : String} {e : Expr} {rest : List Expr} {kws : List Keyword} {Q : Value → Shared → Prop}
    (h : wpAny M A (spliced (backTo pos (starEach (e :: rest) env))) (fun vs s₁ => wpAny M A (evalAll ((backToKw pos (keywordEach kws env)).map (·.2)))
      (fun kvs s₂ => wpAny M A (call (.type T) vs (((backToKw pos (keywordEach kws env)).filterMap (·.1)).zip kvs)) Q E s₂) E s₁) E s)
    (he : backTo pos (starEach (e :: rest) env) = (false, eval e env) :: backTo pos (starEach rest env))
    (hplain : (backTo pos (starEach (e :: rest) env)).any (·.1) = false)
    (hall : (backToKw pos (keywordEach kws env)).all (·.1.isSome) = true)
    (hkw : (backToKw pos (keywordEach kws env)).any (·.1.isNone) = false) :
    wpAny M A (callWith pos (.type T) [] (backTo pos (starEach (e :: rest) env)) (backToKw pos (keywordEach kws env))) Q E s := by
  refine callWith_type_kwB hplain hkw ?_
  rw [he] at h ⊢
  exact evalArgs_kwB hall h
end
def ItS (K : PySem.W.Frag) (a : Addr) (k0 : Int) : It where
  go := fun i H => ∃ xs x, SqT K H a xs ∧ xs[i]? = some x
  yld := fun i H v H' => ∃ T x, v = V.ref T ∧ H T = none ∧ H' = upd H T (.tup [.int (k0 + (i : Nat)), x]) ∧ ∀ xs, SqT K H a xs → xs[i]? = some x
  stop := fun i H => ∃ xs, SqT K H a xs ∧ i = xs.length
def tnS (k0 : Int) (a e it : Addr) (i : Nat) (h : Heap) : Prop := (∃ old, IsEnum h e it (k0 + (i : Nat)) old) ∧ h.IsTupleIter it a i
theorem turn_enumS {P : Program} {w : World} {K : PySem.W.Frag} {elts : List Expr} {kk : Nat} {tpos : Pos} {a e it : Addr} {k0 : Int} (h1 : e ≠ it) (h2 : a ≠ e) (h3 : a ≠ it) :
    Turn P w K (Expr.Tuple elts kk tpos) (ItS K a k0) [e, it] e (tnS k0 a e it) := by
  refine ⟨by simp, ?_, ?_, ?_, ?_, ?_⟩
  · rintro i hp ⟨⟨old, h1⟩, ⟨o4, h4, _, d4⟩⟩ b' hb
    simp only [List.mem_cons, List.not_mem_nil, or_false] at hb
    rcases hb with rfl | rfl
    · exact ⟨_, h1, fun v e => by cases e⟩
    · exact ⟨_, h4, fun v e => by rw [d4] at e; cases e⟩
  · rintro i hp hp' ⟨⟨old, h1⟩, ⟨o4, h4, c4, d4⟩⟩ k
    exact ⟨⟨old, k _ (by simp) _ h1⟩, ⟨o4, k _ (by simp) _ h4, c4, d4⟩⟩
  · rintro X rfl rfl rfl hc i pins s σ H E I fp ⟨t1, t4⟩ ⟨xs, x, hx, ex⟩
    obtain ⟨its1, v1, p1, _⟩ := I.tuple hx
    have hd : X.A.in1.handled = none := I.ok.hd hc
    have G := GoesN.enumFrom (elts := elts) (x1 := kk) (pos := tpos) k0 (Draws.tuple (prog := X.prog) (w := X.w) hd it a h3 its1.toArray) e h1 (by simp only [List.mem_cons, List.not_mem_nil, or_false, not_or]; exact ⟨h1, h2.symm⟩) (by simp)
    have hi1 := (List.getElem?_eq_some_iff.mp ex).1
    have l1 := v1.length
    refine G.goes i s (fun u s2 => ∃ x H', L2.Inv X pins σ H' s2 ∧ L2.RelV x u ∧ (ItS X.K a k0).yld i H x H' ∧ tnS k0 a e it (i + 1) s2.heap ∧ ∀ b ∈ [e, it], H' b = none) E (by simp; omega) ⟨t1, t4, p1⟩ ?_
    rintro v h' tk ⟨T, t, x', rfl, hT, e1, tup⟩ ⟨s1, s4, _⟩ keep _
    obtain ⟨u1, g1, r1⟩ := v1.get ex
    have e1 : its1[i]? = some x' := by simpa using e1
    rw [g1] at e1
    cases e1
    have fr := I.hok.fresh hT
    refine ⟨V.ref T, upd H T (.tup [.int (k0 + (i : Nat)), x]), ?_, rfl, ⟨T, x, rfl, fr, rfl, fun xs' hx' => ?_⟩, ⟨s1, s4⟩, fun b' hb' => ?_⟩
    · refine I.turnedNew keep (fun b' hb' => fp b' hb') hT ?_
      refine ⟨by show 2 ≤ sizeLine; decide, _, .cons (b := Value.int (k0 + (i : Nat)) t) ⟨t, rfl⟩ (.cons r1 .nil), tup⟩
    · rw [I.tuple_inj hx' hx]; exact ex
    · have : b' < s.heap.objs.size := by
        obtain ⟨old, t1⟩ := t1
        obtain ⟨o4, t4, _, _⟩ := t4
        simp only [List.mem_cons, List.not_mem_nil, or_false] at hb'
        rcases hb' with rfl | rfl
        · exact Gm.lt_of_get t1
        · exact Gm.lt_of_get t4
      rw [upd_ne (Nat.ne_of_lt (Nat.lt_of_lt_of_le this hT))]
      exact (fp b' hb').1
  · rintro X rfl rfl rfl hc i pins s σ H E I fp ⟨t1, t4⟩ ⟨xs, hx, rfl⟩
    obtain ⟨its1, v1, p1, _⟩ := I.tuple hx
    have hd : X.A.in1.handled = none := I.ok.hd hc
    have G := GoesN.enumFrom (elts := elts) (x1 := kk) (pos := tpos) k0 (Draws.tuple (prog := X.prog) (w := X.w) hd it a h3 its1.toArray) e h1 (by simp only [List.mem_cons, List.not_mem_nil, or_false, not_or]; exact ⟨h1, h2.symm⟩) (by simp)
    have l1 := v1.length
    have en : its1.toArray.size = xs.length := by simp; omega
    rw [en] at G
    refine G.stops s (fun s1 => L2.Inv X pins σ H s1) E ⟨t1, t4, p1⟩ fun h' tk keep _ => ?_
    exact I.turnedL keep fun b' hb' => fp b' hb'
  · rintro A i s Q E ⟨⟨old, t1⟩, _⟩ q
    exact wpAny_pyIter_enum t1 q
/-- a tuple, from k0 on -/
def iEnumS (K : PySem.W.Frag) (k0 : Int) (ta : TA) : TI := fun σ H R => ta σ H fun vs H1 => ∃ a xs, vs = [V.ref a] ∧ SqT K H1 a xs ∧ R (ItS K a k0) H1
theorem pi_enumS {X : Cx} {e : Expr} {ta : TA} {p pos tpos kp cp : Pos} {elts : List Expr} {kk ck : Nat} {k0 : Int} (hk0 : -(2 ^ 63) ≤ k0) (hk1 : k0 < 2 ^ 63) (hg : Gl X "enumerate") (hm : X.mg "enumerate" = none) (ha : PA X [e] ta)
    (he : backTo pos (starEach [e] X.env) = (false, eval e X.env) :: backTo pos (starEach [] X.env) := by rfl) (hpl : (backTo pos (starEach [e] X.env)).any (·.1) = false := by rfl) :
    PI X (Expr.Tuple elts kk tpos) ((Expr.Name "enumerate" p).Call [e] [⟨some "start", .Constant (.int k0) ck cp, kp⟩] pos) (iEnumS X.K k0 ta) := by
  refine ⟨fun pins s σ H R I h => ?_⟩
  refine wpAny_Call_Name_kw (ld_blt I hg hm boot_enumerate ?_)
  refine callWith_typeKw (thn (ha.run pos pins s σ H _ I h) ?_) he hpl (by rfl) (by rfl)
  rintro us s1 ⟨vs, H1, I1, r1, a, xs, rfl, hx, hR⟩
  cases r1 with
  | cons r1 rr =>
    cases rr
    cases r1
    refine kws_cons (thn ((pe_int (X := X) (i := k0)).run pins s1 σ H1 (fun x H2 => x = V.int k0 ∧ H2 = H1) I1 ⟨rfl, rfl⟩) fun v s2 ⟨x, H2, I2, r2, ex, e2⟩ => kws_nil ?_)
    subst ex e2
    obtain ⟨t, rfl⟩ := r2
    obtain ⟨its1, v1, p1, _⟩ := I2.tuple hx
    refine enum_begins_start (begins_tuple a its1.toArray) p1 hk0 hk1 fun h' z1 z2 z3 z4 => wpAny_pyIter_enum z1 ?_
    obtain ⟨o1, g1, _⟩ := p1
    obtain ⟨n1, n2⟩ := ne_lt (Gm.lt_of_get g1)
    exact ⟨_, _, _, _, H2, rfl, I2.kept z4, turn_enumS (Nat.succ_ne_self _) n1 n2, ⟨⟨_, by simpa using z1⟩, ⟨_, z2, rfl, rfl⟩⟩, fp2 I2, hR⟩
theorem walk_enumS {K : PySem.W.Frag} {a : Addr} {xs : List V} {k0 : Int} : Walk (ItS K a k0) xs.length (fun H => SqT K H a xs) (YPair (fun i => some (V.int (k0 + (i : Nat)))) fun i => xs[i]?) := by
  refine ⟨fun i H hi g => ?_, fun H g => ?_, fun i H x H' hi g y => ?_⟩
  · exact ⟨xs, _, g, List.getElem?_eq_getElem (by omega)⟩
  · exact ⟨xs, g, rfl⟩
  · obtain ⟨T, x1, e, hT, e2, k1⟩ := y
    exact ⟨T, _, x1, e, hT, e2, rfl, k1 xs g⟩
end Gs

set_option Elab.async false
set_option linter.all false
set_option maxRecDepth 100000
set_option maxHeartbeats 4000000
namespace Lw
open L2 hiding Ext
open PySem PySem.Spec PyProof.Rows Gn Gr Gk Go Gt Gf Gu
structure Fo3 (P : Program) (w : World) (K : PySem.W.Frag) (mg : Str → Option Value) (base : Heap) (C fI pN fN : Addr) (mc : Value) (fdN : FuncData) : Prop where
  Z : FC K mg C fI mc
  hpN : PropOf K C "names" pN fN
  GN : FnOk P w K mg base CX0 1 fN fdN ["self"] (spNames C)
  bN : Binds K fdN ["self"] []
/-! ### values of any kind, as data -/
mutual
inductive Dk (d g : Addr) (H : Hp) : V → PyData → Prop
  | non : Dk d g H .non .none
  | bl (b : Bool) : Dk d g H (.bl b) (.bool b)
  | int (i : Int) : Dk d g H (.int i) (.int i)
  | str (x : Str) : Dk d g H (.str x) (.str x)
  | lst {a : Addr} {xs : List V} {ds : List PyData} : H a = some (.lst xs) → a ≠ d → a ≠ g → DkAll d g H xs ds → Dk d g H (.ref a) (.list ds)
  | tup {a : Addr} {xs : List V} {ds : List PyData} : H a = some (.tup xs) → a ≠ d → a ≠ g → DkAll d g H xs ds → Dk d g H (.ref a) (.tuple ds)
  | dct {a : Addr} : H a = some (.dK []) → a ≠ d → a ≠ g → Dk d g H (.ref a) (.dict [])
inductive DkAll (d g : Addr) (H : Hp) : List V → List PyData → Prop
  | nil : DkAll d g H [] []
  | cons {v : V} {vs : List V} {x : PyData} {ds : List PyData} : Dk d g H v x → DkAll d g H vs ds → DkAll d g H (v :: vs) (x :: ds)
end
variable {d g : Addr} {H H' : Hp}
mutual
theorem Dk.kp (k : Kp d g H H') : ∀ {v : V} {x : PyData}, Dk d g H v x → Dk d g H' v x
  | _, _, .non => .non
  | _, _, .bl b => .bl b
  | _, _, .int i => .int i
  | _, _, .str x => .str x
  | _, _, .lst h n1 n2 a => .lst (k _ _ n1 n2 h) n1 n2 (DkAll.kp k a)
  | _, _, .tup h n1 n2 a => .tup (k _ _ n1 n2 h) n1 n2 (DkAll.kp k a)
  | _, _, .dct h n1 n2 => .dct (k _ _ n1 n2 h) n1 n2
theorem DkAll.kp (k : Kp d g H H') : ∀ {vs : List V} {ds : List PyData}, DkAll d g H vs ds → DkAll d g H' vs ds
  | _, _, .nil => .nil
  | _, _, .cons h a => .cons (Dk.kp k h) (DkAll.kp k a)
end
mutual
theorem Dk.dr : ∀ {v : V} {x : PyData}, Dk d g H v x → Dr H v x
  | _, _, .non => .non
  | _, _, .bl b => .bl b
  | _, _, .int i => .int i
  | _, _, .str x => .str x
  | _, _, .lst h _ _ a => .lst h (DkAll.dr a)
  | _, _, .tup h _ _ a => .tup h (DkAll.dr a)
  | _, _, .dct h _ _ => .dct h .nil
theorem DkAll.dr : ∀ {vs : List V} {ds : List PyData}, DkAll d g H vs ds → DrAll H vs ds
  | _, _, .nil => .nil
  | _, _, .cons h a => .cons (Dk.dr h) (DkAll.dr a)
end
theorem DkAll.len : ∀ {vs : List V} {ds : List PyData}, DkAll d g H vs ds → vs.length = ds.length
  | _, _, .nil => rfl
  | _, _, .cons h a => by rw [List.length_cons, List.length_cons, DkAll.len a]
theorem DkAll.get : ∀ {vs : List V} {ds : List PyData}, DkAll d g H vs ds → ∀ {i : Nat} {v : V}, vs[i]? = some v → ∃ x, ds[i]? = some x ∧ Dk d g H v x
  | _, _, .nil, _, _, h => by cases h
  | _, _, .cons h a, 0, _, e => by cases e; exact ⟨_, rfl, h⟩
  | _, _, .cons h a, i + 1, _, e => DkAll.get a (i := i) e
theorem DkAll.app : ∀ {vs : List V} {ds : List PyData} {us : List V} {es : List PyData}, DkAll d g H vs ds → DkAll d g H us es → DkAll d g H (vs ++ us) (ds ++ es)
  | _, _, _, _, .nil, b => b
  | _, _, _, _, .cons h a, b => .cons h (DkAll.app a b)
theorem DkAll.take : ∀ {vs : List V} {ds : List PyData} (n : Nat), DkAll d g H vs ds → DkAll d g H (vs.take n) (ds.take n)
  | _, _, 0, _ => by rw [List.take_zero, List.take_zero]; exact .nil
  | _, _, n + 1, .nil => .nil
  | _, _, n + 1, .cons h a => .cons h (DkAll.take n a)
theorem DkAll.drop : ∀ {vs : List V} {ds : List PyData} (n : Nat), DkAll d g H vs ds → DkAll d g H (vs.drop n) (ds.drop n)
  | _, _, 0, h => h
  | _, _, n + 1, .nil => .nil
  | _, _, n + 1, .cons h a => DkAll.drop n a
/-- what judges of values are told -/
def isN (m : Int) : PyData → Bool
  | .int i => decide (1 ≤ i ∧ i ≤ m)
  | _ => false
theorem Dk.amt {v : V} {x : PyData} (h : Dk d g H v x) : AmtV H v (isN 1000000000 x) := by
  cases h with
  | int i =>
    refine .inl ⟨i, rfl, ?_⟩
    show decide (1 ≤ i ∧ i ≤ 1000000000) = (decide (1 ≤ i) && decide (i ≤ 1000000000))
    exact Bool.decide_and _ _
  | non => exact .inr ⟨rfl, .inl .non⟩
  | bl b => exact .inr ⟨rfl, .inr (.inl (.bl b))⟩
  | str x => exact .inr ⟨rfl, .inr (.inr (.inl (.str x)))⟩
  | lst e => exact .inr ⟨rfl, .inr (.inr (.inr (.inl (.lst e))))⟩
  | tup e => exact .inr ⟨rfl, .inr (.inr (.inr (.inr (.inl (.tup e)))))⟩
  | dct e => exact .inr ⟨rfl, .inr (.inr (.inr (.inr (.inr (.dct e)))))⟩
theorem Dk.flat {v : V} {x : PyData} (h : Dk d g H v x) : flatV v = true ∨ ∃ a, v = .ref a ∧ Gj.Cont H a := by
  cases h with
  | lst e => exact .inr ⟨_, rfl, .inl ⟨_, e⟩⟩
  | tup e => exact .inr ⟨_, rfl, .inr (.inl ⟨_, e⟩)⟩
  | dct e => exact .inr ⟨_, rfl, .inr (.inr ⟨_, e⟩)⟩
  | _ => exact .inl rfl
def isA (ws : List Str) : PyData → Bool
  | .str x => decide (x ∈ ws)
  | _ => false
end Lw

set_option Elab.async false
set_option linter.all false
set_option maxRecDepth 100000
set_option maxHeartbeats 4000000
/-! dicts whose keys are texts, whole numbers, truth values, None and tuples of texts and numbers, all in one -/
namespace Gdo
open PySem PySem.Spec PyProof.Rows
inductive OK where
  | non
  | bo (b : Bool)
  | sc (k : L2.Key)
  | tp (ks : List L2.Key)
deriving DecidableEq
def kD : L2.Key → PyData
  | .inl i => .int i
  | .inr x => .str x
def dk : OK → PyData
  | .non => .none
  | .bo b => .bool b
  | .sc k => kD k
  | .tp ks => .tuple (ks.map kD)
/-- no number that a truth value equals -/
def Big : OK → Prop
  | .sc (.inl i) => 2 ≤ i
  | _ => True
def Ky (P : Program) (w : World) (h : Heap) : OK → Value → Prop
  | .non, v => v = .none
  | .bo b, v => v = .bool b
  | .sc k, v => L2.keyIs k v = true
  | .tp ks, v => ∃ a, v = .ref a ∧ IsTupleKey (L2.mixKind P w) h ks a
def oh (P : Program) (w : World) : OK → Int
  | .non => reduceHash 0xFCA86420
  | .bo b => PpSet.hB b
  | .sc k => L2.keyH w k
  | .tp ks => tupleKeyHash (L2.mixKind P w) ks
def dr : OK → Nat
  | .tp ks => ks.length + 1
  | _ => 1
theorem reads_items {P : Program} {w : World} {h : Heap} : ∀ {ks : List L2.Key} {vs : List Value}, ItemsAre (L2.mixKind P w) ks vs → ReadsAll h vs (ks.map kD) []
  | [], _, .nil => .nil
  | k :: ks, _, .cons (v := v) h1 t => by
    have r : Reads h v (kD k) [] := by
      rcases L2.keyIs_shape h1 with ⟨i, t, rfl, rfl⟩ | ⟨x, t, rfl, rfl⟩
      · exact .int _ _
      · exact .str _ _
    exact .cons r (reads_items t)
theorem Ky.reads {P : Program} {w : World} {h : Heap} {k : OK} {v : Value} (z : Ky P w h k v) : Reads h v (dk k) [] := by
  cases k with
  | non => cases (show v = .none from z); exact .none
  | bo b => cases (show v = .bool b from z); exact .bool b
  | sc k =>
    rcases L2.keyIs_shape z with ⟨i, t, rfl, rfl⟩ | ⟨x, t, rfl, rfl⟩
    · exact .int _ _
    · exact .str _ _
  | tp ks =>
    obtain ⟨a, rfl, o, items, n, ho, hc, hd, hi⟩ := z
    exact .tuple ho hc hd (reads_items hi)
theorem kD_plain (k : L2.Key) : (kD k).plain = true ∧ (kD k).depth = 0 := by cases k <;> exact ⟨rfl, rfl⟩
theorem kDs_plain : ∀ ks : List L2.Key, PyData.plainAll (ks.map kD) = true ∧ PyData.depthAll (ks.map kD) = 0
  | [] => ⟨rfl, rfl⟩
  | k :: ks => by
    obtain ⟨a, b⟩ := kD_plain k
    obtain ⟨c, d⟩ := kDs_plain ks
    constructor
    · show (PyData.plain _ && PyData.plainAll _) = true
      rw [a, c]; rfl
    · show max (PyData.depth _) (PyData.depthAll _) = 0
      rw [b, d]; rfl
theorem dk_plain (k : OK) : (dk k).plain = true ∧ (dk k).depth ≤ 1 := by
  cases k with
  | non => exact ⟨rfl, Nat.zero_le _⟩
  | bo b => exact ⟨rfl, Nat.zero_le _⟩
  | sc k =>
    obtain ⟨a, b⟩ := kD_plain k
    exact ⟨a, by show (kD k).depth ≤ 1; omega⟩
  | tp ks =>
    obtain ⟨a, b⟩ := kDs_plain ks
    refine ⟨a, ?_⟩
    show PyData.depthAll _ + 1 ≤ 1
    omega
theorem kD_eqv (a b : L2.Key) : PyData.eqv (kD a) (kD b) = decide (a = b) := by
  cases a with
  | inl i =>
    cases b with
    | inl j =>
      show (i == j) = _
      by_cases e : i = j
      · subst e; simp
      · rw [decide_eq_false (fun z => e (Sum.inl.inj z))]; simpa using e
    | inr y => exact (decide_eq_false (fun z => nomatch z)).symm
  | inr x =>
    cases b with
    | inl j => exact (decide_eq_false (fun z => nomatch z)).symm
    | inr y =>
      show (x == y) = _
      by_cases e : x = y
      · subst e; simp
      · rw [decide_eq_false (fun z => e (Sum.inr.inj z))]; simpa using e
theorem kDs_eqv : ∀ a b : List L2.Key, PyData.eqvAll (a.map kD) (b.map kD) = decide (a = b)
  | [], [] => (decide_eq_true rfl).symm
  | [], _ :: _ => (decide_eq_false (fun z => nomatch z)).symm
  | _ :: _, [] => (decide_eq_false (fun z => nomatch z)).symm
  | x :: a, y :: b => by
    show (PyData.eqv (kD x) (kD y) && PyData.eqvAll _ _) = _
    rw [kD_eqv, kDs_eqv a b]
    by_cases e : x = y
    · subst e
      by_cases e2 : a = b
      · subst e2; simp
      · rw [decide_eq_false e2, decide_eq_false (fun z => e2 (List.cons.inj z).2)]; simp
    · rw [decide_eq_false e, decide_eq_false (fun z => e (List.cons.inj z).1)]; rfl
theorem dk_eqv {x y : OK} (hx : Big x) (hy : Big y) : PyData.eqv (dk x) (dk y) = decide (x = y) := by
  cases x with
  | non => cases y with
    | non => exact (decide_eq_true rfl).symm
    | bo b => exact (decide_eq_false (fun z => nomatch z)).symm
    | sc k => cases k <;> exact (decide_eq_false (fun z => nomatch z)).symm
    | tp ks => exact (decide_eq_false (fun z => nomatch z)).symm
  | bo b => cases y with
    | non => exact (decide_eq_false (fun z => nomatch z)).symm
    | bo c => cases b <;> cases c <;> rfl
    | sc k =>
      rw [decide_eq_false (fun z => nomatch z)]
      cases k with
      | inl i =>
        have hy : 2 ≤ i := hy
        show ((if b then (1 : Int) else 0) == i) = false
        cases b <;> simp <;> omega
      | inr x => rfl
    | tp ks => exact (decide_eq_false (fun z => nomatch z)).symm
  | sc k => cases y with
    | non => cases k <;> exact (decide_eq_false (fun z => nomatch z)).symm
    | bo b =>
      rw [decide_eq_false (fun z => nomatch z)]
      cases k with
      | inl i =>
        have hx : 2 ≤ i := hx
        show (i == (if b then (1 : Int) else 0)) = false
        cases b <;> simp <;> omega
      | inr x => rfl
    | sc j =>
      show PyData.eqv (kD k) (kD j) = _
      rw [kD_eqv]
      by_cases e : k = j
      · subst e; simp
      · rw [decide_eq_false e, decide_eq_false (fun z => e (OK.sc.inj z))]
    | tp ks => cases k <;> exact (decide_eq_false (fun z => nomatch z)).symm
  | tp ks => cases y with
    | non => exact (decide_eq_false (fun z => nomatch z)).symm
    | bo b => exact (decide_eq_false (fun z => nomatch z)).symm
    | sc k => cases k <;> exact (decide_eq_false (fun z => nomatch z)).symm
    | tp js =>
      show PyData.eqvAll _ _ = _
      rw [kDs_eqv]
      by_cases e : ks = js
      · subst e; simp
      · rw [decide_eq_false e, decide_eq_false (fun z => e (OK.tp.inj z))]
section
variable {P : Program} {w : World} {A : Around} {E : Value → Shared → Prop} {s : Shared}
theorem ky_eq {x y : OK} {u v : Value} {Q : Bool → Shared → Prop} (hu : A.units + 1 < cLine) (bx : Big x) (by_ : Big y) (hx : Ky P w s.heap x u) (hy : Ky P w s.heap y v) (h : Q (decide (x = y)) s) : wpAny (model P w) A (eqBool u v) Q E s := by
  have e := SeqAt.eqAt_plain (dk x) (dk y) A s u v [] [] hx.reads hy.reads (dk_plain x).1 (dk_plain y).1 (by
    have := (dk_plain x).2
    have : min (dk x).depth (dk y).depth ≤ (dk x).depth := Nat.min_le_left ..
    omega)
  rw [dk_eqv bx by_] at e
  exact e P w E Q h
theorem ky_hash {k : OK} {v : Value} {Q : Int → Shared → Prop} (hu : A.units < cLine) (hk : Ky P w s.heap k v) (h : Q (oh P w k) { s with toks := s.toks + dr k }) : wpAny (model P w) A (pyHash v) Q E s := by
  cases k with
  | non =>
    exact (L2.noneKind P w).pyHash (k := none) (v := v) (by cases (show v = .none from hk); rfl) h
  | bo b => cases (show v = .bool b from hk); exact PpSet.pyHash_bool h
  | sc k => exact (L2.mixKind P w).pyHash (k := k) hk h
  | tp ks =>
    obtain ⟨a, rfl, hi⟩ := hk
    exact wpAny_pyHash_tuple hu hi h
theorem ky_quiet {k : OK} {v : Value} {Q : Bool → Shared → Prop} (hk : Ky P w s.heap k v) (h : Q true s) : wpAny (model P w) A (eqIsQuiet 8 v) Q E s := by
  cases k with
  | tp ks =>
    obtain ⟨a, rfl, hi⟩ := hk
    exact wpAny_eqIsQuiet_tuple hi h
  | non => cases (show v = .none from hk); exact wpAny_pure h
  | bo b => cases (show v = .bool b from hk); exact wpAny_pure h
  | sc k =>
    rcases L2.keyIs_shape hk with ⟨i, t, rfl, rfl⟩ | ⟨x, t, rfl, rfl⟩
    · exact wpAny_pure h
    · exact wpAny_pure h
end
end Gdo

set_option Elab.async false
set_option linter.all false
set_option maxRecDepth 100000
set_option maxHeartbeats 4000000
/-! such a dict: a key is looked for, set -/
namespace Gdo
open PySem PySem.Spec PyProof.Rows
abbrev Ent := OK × Value × Value
def entOf (P : Program) (w : World) (x : Ent) : DictEntry := ⟨oh P w x.1, x.2.1, x.2.2⟩
section
variable {P : Program} {w : World} {A : Around} {E : Value → Shared → Prop} {s : Shared}
variable {d : Addr} {o : Obj} {es : Array DictEntry} {ep : Nat} {xs : List Ent} {k : OK} {u : Value}
def Fnd (xs : List Ent) (k : OK) (rest : List Nat) (hit : Option Nat) : Prop :=
  rest.Nodup ∧ (∀ j (x : Ent), xs[j]? = some x → x.1 = k → j ∈ rest ∨ hit = some j) ∧ (∀ j, hit = some j → j ∉ rest ∧ ∃ x : Ent, xs[j]? = some x ∧ x.1 = k)
theorem ent_at (he : es.toList = xs.map (entOf P w)) (j : Nat) : es[j]? = (xs[j]?).map (entOf P w) := by
  rw [← Array.getElem?_toList, he, List.getElem?_map]
theorem ent_size (he : es.toList = xs.map (entOf P w)) : es.size = xs.length := by
  rw [← Array.length_toList, he, List.length_map]
theorem fnd_begin (he : es.toList = xs.map (entOf P w)) : Fnd xs k (placesWithHash es.size (fun i => es[i]?.map (·.hash)) (oh P w k)) none := by
  refine ⟨?_, fun j x hx hk => .inl ?_, fun j h => by cases h⟩
  · unfold placesWithHash
    exact List.Pairwise.filter _ List.nodup_range
  · unfold placesWithHash
    have hl : j < es.size := by rw [ent_size he]; exact (List.getElem?_eq_some_iff.mp hx).1
    refine List.mem_filter.mpr ⟨List.mem_range.mpr hl, ?_⟩
    show ((es[j]?.map (·.hash)) == some (oh P w k)) = true
    rw [ent_at he j, hx, ← hk]
    simp [entOf]
theorem fnd_skip {i : Nat} {rest : List Nat} {hit : Option Nat} (h : Fnd xs k (i :: rest) hit) (n : ∀ x : Ent, xs[i]? = some x → x.1 ≠ k) : Fnd xs k rest hit := by
  obtain ⟨h1, h2, h3⟩ := h
  refine ⟨(List.nodup_cons.mp h1).2, fun j x hx hk => ?_, fun j hj => ?_⟩
  · rcases h2 j x hx hk with z | z
    · rcases List.mem_cons.mp z with rfl | z
      · exact absurd hk (n x hx)
      · exact .inl z
    · exact .inr z
  · obtain ⟨a, b⟩ := h3 j hj
    exact ⟨fun z => a (List.mem_cons_of_mem _ z), b⟩
theorem key_uniq (hn : (xs.map (·.1)).Nodup) {i j : Nat} {x y : Ent} (hx : xs[i]? = some x) (hy : xs[j]? = some y) (e : x.1 = y.1) : i = j := by
  have a : (xs.map (·.1))[i]? = some x.1 := by rw [List.getElem?_map, hx]; rfl
  have b : (xs.map (·.1))[j]? = some x.1 := by rw [List.getElem?_map, hy, e]; rfl
  exact (List.getElem?_inj (List.getElem?_eq_some_iff.mp a).1 hn).mp (a.trans b.symm)
theorem fnd_hit {i : Nat} {rest : List Nat} {x : Ent} (hn : (xs.map (·.1)).Nodup) (h : Fnd xs k (i :: rest) none) (hx : xs[i]? = some x) (hk : x.1 = k) : Fnd xs k rest (some i) := by
  obtain ⟨h1, h2, h3⟩ := h
  refine ⟨(List.nodup_cons.mp h1).2, fun j y hy hk' => .inr ?_, fun j hj => ?_⟩
  · rw [key_uniq hn hx hy (hk.trans hk'.symm)]
  · cases hj
    exact ⟨(List.nodup_cons.mp h1).1, x, hx, hk⟩
theorem stored_ky (he : es.toList = xs.map (entOf P w)) (hk : ∀ x ∈ xs, Ky P w s.heap x.1 x.2.1) (l : List Nat) : ∀ v ∈ l.filterMap (fun i => es[i]?.map (·.key)), ∃ k', Ky P w s.heap k' v := by
  intro v hv
  obtain ⟨i, _, hi⟩ := List.mem_filterMap.mp hv
  rw [ent_at he i] at hi
  cases hx : xs[i]? with
  | none => rw [hx] at hi; cases hi
  | some x =>
    rw [hx] at hi
    cases hi
    exact ⟨x.1, hk x (List.mem_of_getElem? hx)⟩
theorem tells_no {stored : List Value} {Q : Bool → Shared → Prop} (hkey : Ky P w s.heap k u) (hst : ∀ v ∈ stored, ∃ k', Ky P w s.heap k' v) (h : Q false s) : wpAny (model P w) A (tableMayTell u stored) Q E s := by
  unfold tableMayTell
  split
  · exact wpAny_pure h
  · refine wpAny_bind (ky_quiet hkey ?_)
    simp only [Bool.not_true, Bool.false_eq_true, if_false]
    refine wpAny_bind ?_
    refine wpAny_forIn_list _ (fun rest r s' => s' = s ∧ r = (none, ()) ∧ ∀ v ∈ rest, ∃ k', Ky P w s.heap k' v) _ ?_ ?_ _ _ ⟨rfl, rfl, hst⟩
    · rintro x rest r s' ⟨rfl, rfl, hr⟩
      obtain ⟨k', hb⟩ := hr x List.mem_cons_self
      refine wpAny_bind (ky_quiet hb ?_)
      simp only [Bool.not_true, Bool.false_eq_true, if_false]
      exact wpAny_pure ⟨rfl, rfl, fun v hv => hr v (List.mem_cons_of_mem _ hv)⟩
    · rintro r s' ⟨rfl, rfl, _⟩
      exact wpAny_pure h
/-- the walk where no reference is among the keys -/
theorem walk_plain {Q : Option Nat → Shared → Prop} (hu : A.units + 1 < cLine) (bk : Big k) (hkey : Ky P w s.heap k u) (ho : s.heap.get? d = some o) (hd : o.data = .dict es ep) (he : es.toList = xs.map (entOf P w)) (hk : ∀ x ∈ xs, Ky P w s.heap x.1 x.2.1 ∧ Big x.1) (hn : (xs.map (·.1)).Nodup)
    (hnone : k ∉ xs.map (·.1) → Q none s) (hsome : ∀ j x, xs[j]? = some x → x.1 = k → Q (some j) s) :
    wpAny (model P w) A (dictWalkPlain d u (oh P w k) es (placesWithHash es.size (fun i => es[i]?.map (·.hash)) (oh P w k))) Q E s := by
  unfold dictWalkPlain
  refine wpAny_bind ?_
  refine wpAny_forIn_list _ (fun rest b s' => s' = s ∧ b = (none, ()) ∧ Fnd xs k rest none) _ ?_ ?_ _ _ ⟨rfl, rfl, fnd_begin he⟩
  · rintro i rest b s' ⟨rfl, rfl, F⟩
    rw [ent_at he i]
    cases hx : xs[i]? with
    | none => exact wpAny_pure ⟨rfl, rfl, fnd_skip F fun x z => by rw [hx] at z; cases z⟩
    | some x =>
      obtain ⟨kx, bx⟩ := hk x (List.mem_of_getElem? hx)
      show wpAny _ _ (if ((entOf P w x).hash == oh P w k) = true then _ else _) _ _ _
      by_cases hh : ((entOf P w x).hash == oh P w k) = true
      · rw [if_pos hh]
        refine wpAny_bind (wpAny_dictEpoch ho hd (wpAny_bind (ky_eq hu bx bk kx hkey (wpAny_bind (wpAny_dictEpoch ho hd ?_)))))
        show wpAny _ _ (if (ep != ep) = true then _ else _) _ E _
        rw [if_neg (by simp)]
        by_cases e : x.1 = k
        · rw [decide_eq_true e]
          exact wpAny_bind (wpAny_rule (wpAny_pure (wpAny_pure (hsome i x hx e))))
        · rw [decide_eq_false e]
          exact wpAny_bind (wpAny_rule (wpAny_pure ⟨rfl, rfl, fnd_skip F fun y z => by rw [hx] at z; cases z; exact e⟩))
      · rw [if_neg hh]
        refine wpAny_pure ⟨rfl, rfl, fnd_skip F fun y z e => ?_⟩
        rw [hx] at z
        cases z
        exact hh (by rw [← e]; simp [entOf])
  · rintro b s' ⟨rfl, rfl, F⟩
    refine wpAny_pure (hnone fun hm => ?_)
    obtain ⟨x, hx, e⟩ := List.mem_map.mp hm
    obtain ⟨j, hj⟩ := List.mem_iff_getElem?.mp hx
    rcases F.2.1 j x hj e with z | z
    · cases z
    · cases z
theorem ky_ref {h : Heap} {k' : OK} {b : Addr} (z : Ky P w h k' (.ref b)) : ∃ ks, k' = .tp ks ∧ IsTupleKey (L2.mixKind P w) h ks b := by
  cases k' with
  | non => cases (show Value.ref b = .none from z)
  | bo c => cases (show Value.ref b = .bool c from z)
  | sc k =>
    rcases L2.keyIs_shape z with ⟨i, t, _, e⟩ | ⟨x, t, _, e⟩
    · cases e
    · cases e
  | tp ks =>
    obtain ⟨a, e, hi⟩ := z
    cases e
    exact ⟨ks, rfl, hi⟩
theorem ky_str {h : Heap} {k' : OK} {v : Value} (z : Ky P w h k' v) (hs : isExactStrKey v = true) : ∃ x, k' = .sc (.inr x) := by
  cases k' with
  | non => cases (show v = .none from z); cases hs
  | bo c => cases (show v = .bool c from z); cases hs
  | sc k =>
    rcases L2.keyIs_shape z with ⟨i, t, rfl, rfl⟩ | ⟨x, t, rfl, rfl⟩
    · cases hs
    · exact ⟨x, rfl⟩
  | tp ks =>
    obtain ⟨a, rfl, _⟩ := z
    cases hs
theorem find_at {Q : Option Nat → Shared → Prop} (hu : A.units + 1 < cLine) (bk : Big k) (hkey : Ky P w s.heap k u) (ho : s.heap.get? d = some o) (hd : o.data = .dict es ep) (he : es.toList = xs.map (entOf P w)) (hk : ∀ x ∈ xs, Ky P w s.heap x.1 x.2.1 ∧ Big x.1) (hn : (xs.map (·.1)).Nodup)
    (hnone : k ∉ xs.map (·.1) → Q none s) (hsome : ∀ j x, xs[j]? = some x → x.1 = k → Q (some j) s) :
    wpAny (model P w) A (dictFind d u (oh P w k)) Q E s := by
  by_cases htx : ∃ x t, u = .str x t ∧ (es.all fun e => isExactStrKey e.key) = true
  · -- all are texts
    obtain ⟨x, t, rfl, hall⟩ := htx
    obtain ⟨x', rfl⟩ := ky_str hkey rfl
    have hx : ∀ y ∈ xs, ∃ z, y.1 = .sc (.inr z) := fun y hy => by
      refine ky_str (hk y hy).1 ?_
      have m : entOf P w y ∈ es := Array.mem_toList_iff.mp (by rw [he]; exact List.mem_map.mpr ⟨y, hy, rfl⟩)
      exact Array.all_eq_true'.mp hall _ m
    refine wpAny_dictFind_of (knd := L2.mixKind P w) (k := .inr x') (key := .str x t) hkey ho hd (fun e hin => ?_) ?_
    · have m : e ∈ xs.map (entOf P w) := by rw [← he]; exact Array.mem_toList_iff.mpr hin
      obtain ⟨y, hy, rfl⟩ := List.mem_map.mp m
      obtain ⟨z, ez⟩ := hx y hy
      have ky := (hk y hy).1
      refine ⟨.inr z, ?_, ?_⟩
      · rw [ez] at ky; exact ky
      · show oh P w y.1 = _
        rw [ez]; rfl
    · cases hf : es.findIdx? fun e => (L2.mixKind P w).is (.inr x') e.key with
      | none =>
        refine hnone fun hm => ?_
        obtain ⟨y, hy, e⟩ := List.mem_map.mp hm
        have m : entOf P w y ∈ es := Array.mem_toList_iff.mp (by rw [he]; exact List.mem_map.mpr ⟨y, hy, rfl⟩)
        have z := Array.findIdx?_eq_none_iff.mp hf _ m
        have ky := (hk y hy).1
        rw [e] at ky
        exact absurd (z.symm.trans ky) (by decide)
      | some i =>
        obtain ⟨hlt, hi, _⟩ := Array.findIdx?_eq_some_iff_getElem.mp hf
        have ei := ent_at he i
        rw [Array.getElem?_eq_getElem hlt] at ei
        obtain ⟨y, hy, e⟩ := Option.map_eq_some_iff.mp ei.symm
        refine hsome i y hy ?_
        rw [← e] at hi
        obtain ⟨z, ez⟩ := hx y (List.mem_of_getElem? hy)
        have ky := (hk y (List.mem_of_getElem? hy)).1
        rw [ez] at ky
        have ky : (L2.mixKind P w).is (.inr z) (entOf P w y).key = true := ky
        rw [ez, (L2.mixKind P w).inj _ _ _ hi ky]
  · have hany : ∀ b, u = .ref b → ¬ (es.any fun e => e.key == u && e.hash != oh P w k) = true := by
      rintro b rfl
      rw [← Array.any_toList, List.any_eq_true]
      rintro ⟨e, hin, hc⟩
      rw [he] at hin
      obtain ⟨y, hy, rfl⟩ := List.mem_map.mp hin
      simp only [entOf, Bool.and_eq_true, beq_iff_eq, bne_iff_ne, ne_eq] at hc
      obtain ⟨e1, e2⟩ := hc
      have ky := (hk y hy).1
      rw [e1] at ky
      obtain ⟨ks, q1, q2⟩ := ky_ref ky
      obtain ⟨js, q3, q4⟩ := ky_ref hkey
      exact e2 (by rw [q1, q3, q2.inj q4])
    have hst := stored_ky (s := s) (P := P) (w := w) he (fun x hx => (hk x hx).1) (placesWithHash es.size (fun i => es[i]?.map (·.hash)) (oh P w k))
    unfold dictFind
    try with_reducible refine wpAny_holding ?_
    refine wpAny_bind (wpAny_dictEntries ho hd ?_)
    dsimp only
    split
    · next x t =>
      rw [if_neg (fun z => htx ⟨x, t, rfl, z⟩)]
      by_cases hc : ((Value.str x t :: (placesWithHash es.size (fun i => es[i]?.map (·.hash)) (oh P w k)).filterMap fun i => es[i]?.map (·.key)).all carriedByValue) = true
      · rw [if_pos hc]
        exact walk_plain hu bk hkey ho hd he hk hn hnone hsome
      · rw [if_neg hc]
        split
        · next b e => cases e
        · generalize hst0 : (placesWithHash es.size (fun i => es[i]?.map (·.hash)) (oh P w k)).filterMap (fun i => es[i]?.map (·.key)) = stored at hst ⊢
          split <;> (first | refine wpAny_bind (wpAny_pure ?_) | refine wpAny_bind (tells_no hkey hst ?_)) <;> (
            rw [if_neg (by simp)]
            refine wpAny_bind ?_
            refine wpAny_forIn_list _ (fun rest b s' => s' = s ∧ ∃ hit, b = (none, hit) ∧ Fnd xs k rest hit) _ ?_ ?_ _ _ ⟨rfl, none, rfl, fnd_begin he⟩
            · rintro i rest b s' ⟨rfl, hit, rfl, F⟩
              rw [ent_at he i]
              cases hx : xs[i]? with
              | none => exact wpAny_pure ⟨rfl, hit, rfl, fnd_skip F fun x z => by rw [hx] at z; cases z⟩
              | some x =>
                obtain ⟨kx, bx⟩ := hk x (List.mem_of_getElem? hx)
                show wpAny _ _ (if ((entOf P w x).hash == oh P w k) = true then _ else _) _ _ _
                by_cases hh : ((entOf P w x).hash == oh P w k) = true
                · rw [if_pos hh]
                  refine wpAny_bind (wpAny_dictEpoch ho hd (wpAny_bind (ky_eq hu bx bk kx hkey (wpAny_bind (wpAny_dictEpoch ho hd ?_)))))
                  show wpAny _ _ (if (ep != ep) = true then _ else _) _ E _
                  rw [if_neg (by simp)]
                  by_cases e : x.1 = k
                  · rw [decide_eq_true e]
                    cases hit with
                    | some j =>
                      obtain ⟨q1, y, q2, q3⟩ := F.2.2 j rfl
                      exact absurd (show j ∈ i :: rest by rw [key_uniq hn hx q2 (e.trans q3.symm)]; exact List.mem_cons_self) q1
                    | none =>
                      first | rw [if_pos rfl] | skip
                      simp only [Option.isSome_none, Bool.false_eq_true, if_false]
                      first | refine wpAny_bind (wpAny_pure ?_) | skip
                      refine wpAny_bind (wpAny_rule ?_)
                      split
                      · exact wpAny_pure (wpAny_pure (hsome i x hx e))
                      · exact wpAny_pure ⟨rfl, some i, rfl, fnd_hit hn F hx e⟩
                  · rw [decide_eq_false e]
                    simp only [Bool.false_eq_true, if_false]
                    refine wpAny_bind (wpAny_rule ?_)
                    first | rw [if_neg (by simp)] | skip
                    have F2 := fnd_skip F fun y z => by rw [hx] at z; cases z; exact e
                    first
                      | exact wpAny_pure ⟨rfl, hit, rfl, F2⟩
                      | exact wpAny_bind (wpAny_pure (wpAny_pure ⟨rfl, hit, rfl, F2⟩))
                · rw [if_neg hh]
                  refine wpAny_pure ⟨rfl, hit, rfl, fnd_skip F fun y z e => ?_⟩
                  rw [hx] at z
                  cases z
                  exact hh (by rw [← e]; simp [entOf])
            · rintro b s' ⟨rfl, hit, rfl, F⟩
              cases hit with
              | none =>
                refine wpAny_pure (hnone fun hm => ?_)
                obtain ⟨x, hx, e⟩ := List.mem_map.mp hm
                obtain ⟨j, hj⟩ := List.mem_iff_getElem?.mp hx
                rcases F.2.1 j x hj e with z | z
                · cases z
                · cases z
              | some j =>
                obtain ⟨_, x, hx, e⟩ := F.2.2 j rfl
                exact wpAny_pure (hsome j x hx e))
    · by_cases hc : ((u :: (placesWithHash es.size (fun i => es[i]?.map (·.hash)) (oh P w k)).filterMap fun i => es[i]?.map (·.key)).all carriedByValue) = true
      · rw [if_pos hc]
        exact walk_plain hu bk hkey ho hd he hk hn hnone hsome
      · rw [if_neg hc]
        split
        · rw [if_neg (hany _ rfl)]
          generalize hst0 : (placesWithHash es.size (fun i => es[i]?.map (·.hash)) (oh P w k)).filterMap (fun i => es[i]?.map (·.key)) = stored at hst ⊢
          split <;> (first | refine wpAny_bind (wpAny_pure ?_) | refine wpAny_bind (tells_no hkey hst ?_)) <;> (
            rw [if_neg (by simp)]
            refine wpAny_bind ?_
            refine wpAny_forIn_list _ (fun rest b s' => s' = s ∧ ∃ hit, b = (none, hit) ∧ Fnd xs k rest hit) _ ?_ ?_ _ _ ⟨rfl, none, rfl, fnd_begin he⟩
            · rintro i rest b s' ⟨rfl, hit, rfl, F⟩
              rw [ent_at he i]
              cases hx : xs[i]? with
              | none => exact wpAny_pure ⟨rfl, hit, rfl, fnd_skip F fun x z => by rw [hx] at z; cases z⟩
              | some x =>
                obtain ⟨kx, bx⟩ := hk x (List.mem_of_getElem? hx)
                show wpAny _ _ (if ((entOf P w x).hash == oh P w k) = true then _ else _) _ _ _
                by_cases hh : ((entOf P w x).hash == oh P w k) = true
                · rw [if_pos hh]
                  refine wpAny_bind (wpAny_dictEpoch ho hd (wpAny_bind (ky_eq hu bx bk kx hkey (wpAny_bind (wpAny_dictEpoch ho hd ?_)))))
                  show wpAny _ _ (if (ep != ep) = true then _ else _) _ E _
                  rw [if_neg (by simp)]
                  by_cases e : x.1 = k
                  · rw [decide_eq_true e]
                    cases hit with
                    | some j =>
                      obtain ⟨q1, y, q2, q3⟩ := F.2.2 j rfl
                      exact absurd (show j ∈ i :: rest by rw [key_uniq hn hx q2 (e.trans q3.symm)]; exact List.mem_cons_self) q1
                    | none =>
                      first | rw [if_pos rfl] | skip
                      simp only [Option.isSome_none, Bool.false_eq_true, if_false]
                      first | refine wpAny_bind (wpAny_pure ?_) | skip
                      refine wpAny_bind (wpAny_rule ?_)
                      split
                      · exact wpAny_pure (wpAny_pure (hsome i x hx e))
                      · exact wpAny_pure ⟨rfl, some i, rfl, fnd_hit hn F hx e⟩
                  · rw [decide_eq_false e]
                    simp only [Bool.false_eq_true, if_false]
                    refine wpAny_bind (wpAny_rule ?_)
                    first | rw [if_neg (by simp)] | skip
                    have F2 := fnd_skip F fun y z => by rw [hx] at z; cases z; exact e
                    first
                      | exact wpAny_pure ⟨rfl, hit, rfl, F2⟩
                      | exact wpAny_bind (wpAny_pure (wpAny_pure ⟨rfl, hit, rfl, F2⟩))
                · rw [if_neg hh]
                  refine wpAny_pure ⟨rfl, hit, rfl, fnd_skip F fun y z e => ?_⟩
                  rw [hx] at z
                  cases z
                  exact hh (by rw [← e]; simp [entOf])
            · rintro b s' ⟨rfl, hit, rfl, F⟩
              cases hit with
              | none =>
                refine wpAny_pure (hnone fun hm => ?_)
                obtain ⟨x, hx, e⟩ := List.mem_map.mp hm
                obtain ⟨j, hj⟩ := List.mem_iff_getElem?.mp hx
                rcases F.2.1 j x hj e with z | z
                · cases z
                · cases z
              | some j =>
                obtain ⟨_, x, hx, e⟩ := F.2.2 j rfl
                exact wpAny_pure (hsome j x hx e))
        · generalize hst0 : (placesWithHash es.size (fun i => es[i]?.map (·.hash)) (oh P w k)).filterMap (fun i => es[i]?.map (·.key)) = stored at hst ⊢
          split <;> (first | refine wpAny_bind (wpAny_pure ?_) | refine wpAny_bind (tells_no hkey hst ?_)) <;> (
            rw [if_neg (by simp)]
            refine wpAny_bind ?_
            refine wpAny_forIn_list _ (fun rest b s' => s' = s ∧ ∃ hit, b = (none, hit) ∧ Fnd xs k rest hit) _ ?_ ?_ _ _ ⟨rfl, none, rfl, fnd_begin he⟩
            · rintro i rest b s' ⟨rfl, hit, rfl, F⟩
              rw [ent_at he i]
              cases hx : xs[i]? with
              | none => exact wpAny_pure ⟨rfl, hit, rfl, fnd_skip F fun x z => by rw [hx] at z; cases z⟩
              | some x =>
                obtain ⟨kx, bx⟩ := hk x (List.mem_of_getElem? hx)
                show wpAny _ _ (if ((entOf P w x).hash == oh P w k) = true then _ else _) _ _ _
                by_cases hh : ((entOf P w x).hash == oh P w k) = true
                · rw [if_pos hh]
                  refine wpAny_bind (wpAny_dictEpoch ho hd (wpAny_bind (ky_eq hu bx bk kx hkey (wpAny_bind (wpAny_dictEpoch ho hd ?_)))))
                  show wpAny _ _ (if (ep != ep) = true then _ else _) _ E _
                  rw [if_neg (by simp)]
                  by_cases e : x.1 = k
                  · rw [decide_eq_true e]
                    cases hit with
                    | some j =>
                      obtain ⟨q1, y, q2, q3⟩ := F.2.2 j rfl
                      exact absurd (show j ∈ i :: rest by rw [key_uniq hn hx q2 (e.trans q3.symm)]; exact List.mem_cons_self) q1
                    | none =>
                      first | rw [if_pos rfl] | skip
                      simp only [Option.isSome_none, Bool.false_eq_true, if_false]
                      first | refine wpAny_bind (wpAny_pure ?_) | skip
                      refine wpAny_bind (wpAny_rule ?_)
                      split
                      · exact wpAny_pure (wpAny_pure (hsome i x hx e))
                      · exact wpAny_pure ⟨rfl, some i, rfl, fnd_hit hn F hx e⟩
                  · rw [decide_eq_false e]
                    simp only [Bool.false_eq_true, if_false]
                    refine wpAny_bind (wpAny_rule ?_)
                    first | rw [if_neg (by simp)] | skip
                    have F2 := fnd_skip F fun y z => by rw [hx] at z; cases z; exact e
                    first
                      | exact wpAny_pure ⟨rfl, hit, rfl, F2⟩
                      | exact wpAny_bind (wpAny_pure (wpAny_pure ⟨rfl, hit, rfl, F2⟩))
                · rw [if_neg hh]
                  refine wpAny_pure ⟨rfl, hit, rfl, fnd_skip F fun y z e => ?_⟩
                  rw [hx] at z
                  cases z
                  exact hh (by rw [← e]; simp [entOf])
            · rintro b s' ⟨rfl, hit, rfl, F⟩
              cases hit with
              | none =>
                refine wpAny_pure (hnone fun hm => ?_)
                obtain ⟨x, hx, e⟩ := List.mem_map.mp hm
                obtain ⟨j, hj⟩ := List.mem_iff_getElem?.mp hx
                rcases F.2.1 j x hj e with z | z
                · cases z
                · cases z
              | some j =>
                obtain ⟨_, x, hx, e⟩ := F.2.2 j rfl
                exact wpAny_pure (hsome j x hx e))
end
end Gdo

set_option Elab.async false
set_option linter.all false
set_option maxRecDepth 100000
set_option maxHeartbeats 4000000
/-! such a dict: a key is set, asked; dict(rows) -/
namespace Gdo
open PySem PySem.Spec PyProof.Rows
def OdD (P : Program) (w : World) (h : Heap) (d : Addr) (xs : List Ent) : Prop :=
  ∃ o es ep, h.get? d = some o ∧ o.ExactDict ∧ o.data = .dict es ep ∧ es.toList = xs.map (entOf P w) ∧ (∀ x ∈ xs, Ky P w h x.1 x.2.1 ∧ Big x.1) ∧ (xs.map (·.1)).Nodup
def stor (xs : List Ent) (k : OK) (u v : Value) : List Ent := if k ∈ xs.map (·.1) then xs.map (fun x => if x.1 = k then (x.1, x.2.1, v) else x) else xs ++ [(k, u, v)]
theorem stor_len (xs : List Ent) (k : OK) (u v : Value) : (stor xs k u v).length ≤ xs.length + 1 := by
  unfold stor
  split
  · rw [List.length_map]; omega
  · rw [List.length_append]; exact Nat.le_refl _
theorem stor_keys (xs : List Ent) (k : OK) (u v : Value) (hn : (xs.map (·.1)).Nodup) : ((stor xs k u v).map (·.1)).Nodup := by
  unfold stor
  split
  · rw [List.map_map]
    have : ((fun x : Ent => x.1) ∘ fun x : Ent => if x.1 = k then (x.1, x.2.1, v) else x) = fun x : Ent => x.1 := by
      funext x
      show (if x.1 = k then (x.1, x.2.1, v) else x).1 = x.1
      split <;> rfl
    rw [this]; exact hn
  · next h =>
    rw [List.map_append]
    refine List.nodup_append.mpr ⟨hn, by simp, fun a ha b hb => ?_⟩
    rw [List.map_cons, List.map_nil, List.mem_singleton] at hb
    subst hb
    exact fun e => h (e ▸ ha)
section
variable {P : Program} {w : World} {A : Around} {E : Value → Shared → Prop} {s : Shared} {d : Addr} {xs : List Ent} {k : OK} {u v : Value}
theorem Ky.keeps {h h' : Heap} {k : OK} {u : Value} {o : Obj} {es ep} (z : Ky P w h k u) (ho : h.get? d = some o) (hd : o.data = .dict es ep) (hs : Heap.SameBut d h h') : Ky P w h' k u := by
  cases k with
  | tp ks =>
    obtain ⟨a, e, hi⟩ := z
    exact ⟨a, e, hi.keeps ho hd hs⟩
  | _ => exact z
theorem Ky.kept {h h' : Heap} {k : OK} {u : Value} (z : Ky P w h k u) (hs : ∀ b o, h.get? b = some o → h'.get? b = some o) : Ky P w h' k u := by
  cases k with
  | tp ks =>
    obtain ⟨a, e, o, items, n, ho, r⟩ := z
    exact ⟨a, e, o, items, n, hs _ _ ho, r⟩
  | _ => exact z
theorem OdD.kept {h h' : Heap} (z : OdD P w h d xs) (hs : ∀ b o, h.get? b = some o → h'.get? b = some o) : OdD P w h' d xs := by
  obtain ⟨o, es, ep, ho, hx, hd, he, hk, hn⟩ := z
  exact ⟨o, es, ep, hs _ _ ho, hx, hd, he, fun x hx => ⟨(hk x hx).1.kept hs, (hk x hx).2⟩, hn⟩
theorem set_at {Q : Unit → Shared → Prop} (hu : A.units + 1 < cLine) (bk : Big k) (hkey : Ky P w s.heap k u) (hm : OdD P w s.heap d xs) (hz : xs.length < sizeLine)
    (hQ : ∀ h' tk, OdD P w h' d (stor xs k u v) → Heap.SameBut d s.heap h' → Q () { s with heap := h', toks := tk }) : wpAny (model P w) A (dictSet d u v) Q E s := by
  obtain ⟨o, es, ep, ho, hc, hd, he, hk, hn⟩ := hm
  unfold dictSet
  try with_reducible refine wpAny_holding ?_
  refine wpAny_bind (ky_hash (by omega) hkey ?_)
  unfold dictSetHashed
  try with_reducible refine wpAny_holding ?_
  refine wpAny_bind (find_at (s := { s with toks := s.toks + dr k }) hu bk hkey ho hd he hk hn (fun hno => ?_) (fun j x hj hx => ?_))
  · refine wpAny_bind (wpAny_rule (wpAny_updateDictKeys (hz := by have e := ent_size he; omega) (s := { s with toks := s.toks + dr k }) ho hd (hQ _ _ ⟨_, _, ep + 1, Heap.get?_update_self _ ho (Obj.isFreed_of_dict (Obj.data_mapDictKeys hd _)),
      hc.mapDictKeys _, Obj.data_mapDictKeys hd _, ?_, ?_, stor_keys _ _ _ _ hn⟩ (Heap.SameBut.update ..))))
    · unfold stor
      rw [if_neg hno]
      simp [he, entOf]
    · unfold stor
      rw [if_neg hno]
      intro x hx
      rcases List.mem_append.mp hx with hx | hx
      · exact ⟨(hk x hx).1.keeps ho hd (Heap.SameBut.update ..), (hk x hx).2⟩
      · simp only [List.mem_singleton] at hx
        subst hx
        exact ⟨hkey.keeps ho hd (Heap.SameBut.update ..), bk⟩
  · have hin : k ∈ xs.map (·.1) := List.mem_map.mpr ⟨x, List.mem_of_getElem? hj, hx⟩
    refine wpAny_bind (wpAny_rule (wpAny_bind (wpAny_updateDict (s := { s with toks := s.toks + dr k }) ho hd (wpAny_point (hQ _ _ ⟨_, _, ep, Heap.get?_update_self _ ho (Obj.isFreed_of_dict (Obj.data_mapDict hd _)),
      hc.mapDict _, Obj.data_mapDict hd _, ?_, ?_, stor_keys _ _ _ _ hn⟩ (Heap.SameBut.update ..))))))
    · unfold stor
      rw [if_pos hin]
      apply List.ext_getElem?
      intro i
      rw [Array.getElem?_toList, Array.getElem?_modify, ent_at he i, List.getElem?_map, List.getElem?_map]
      cases hi : xs[i]? with
      | none => simp
      | some y =>
        by_cases e : j = i
        · subst e
          rw [hj] at hi
          cases hi
          rw [if_pos rfl]
          simp [entOf, hx]
        · rw [if_neg e]
          have : y.1 ≠ k := fun z => e (key_uniq hn hj hi (hx.trans z.symm))
          simp [this]
    · unfold stor
      rw [if_pos hin]
      intro x hx
      obtain ⟨y, hy, rfl⟩ := List.mem_map.mp hx
      have z := hk y hy
      split
      · exact ⟨z.1.keeps ho hd (Heap.SameBut.update ..), z.2⟩
      · exact ⟨z.1.keeps ho hd (Heap.SameBut.update ..), z.2⟩
end
end Gdo

set_option Elab.async false
set_option linter.all false
set_option maxRecDepth 100000
set_option maxHeartbeats 4000000
/-! dict(rows), the keys of any of these kinds -/
namespace Gdo
open PySem PySem.Spec PyProof.Rows L2
section
variable {P : Program} {w : World} {A : Around} {E : Value → Shared → Prop}
def storAll : List Ent → List Ent → List Ent
  | xs, [] => xs
  | xs, q :: r => storAll (stor xs q.1 q.2.1 q.2.2) r
theorem OdD.but {h h' : Heap} {d c : Addr} {xs : List Ent} (z : OdD P w h d xs) (hs : ∀ b o, b ≠ c → h.get? b = some o → h'.get? b = some o) (hd : d ≠ c) (hk : ∀ o, h.get? c = some o → o.cls ≠ .type "tuple") : OdD P w h' d xs := by
  obtain ⟨o, es, ep, ho, hx, hdt, he, kk, hn⟩ := z
  refine ⟨o, es, ep, hs _ _ hd ho, hx, hdt, he, fun x hx => ⟨?_, (kk x hx).2⟩, hn⟩
  have q := (kk x hx).1
  generalize x.1 = k at q ⊢
  cases k with
  | tp ks =>
    obtain ⟨a, e, oa, items, n, h1, h2, r⟩ := q
    exact ⟨a, e, oa, items, n, hs _ _ (fun z => hk oa (z ▸ h1) h2) h1, h2, r⟩
  | _ => exact q
/-- the pairs that are still to come, where they lie -/
def Prs (P : Program) (w : World) (h : Heap) (items : Array Value) (S I : Addr) (i : Nat) (rest : List Ent) : Prop :=
  ∀ (j : Nat) (q : Ent), rest[j]? = some q → ∃ b : Addr, items[i + j]? = some (.ref b) ∧ b ≠ S ∧ b ≠ I ∧ IsTup h b #[q.2.1, q.2.2] ∧ Ky P w h q.1 q.2.1 ∧ Big q.1
theorem ky_but {h h' : Heap} {c : Addr} {k : OK} {u : Value} (z : Ky P w h k u) (hs : ∀ b o, b ≠ c → h.get? b = some o → h'.get? b = some o) (hk : ∀ o, h.get? c = some o → o.cls ≠ .type "tuple") : Ky P w h' k u := by
  cases k with
  | tp ks =>
    obtain ⟨a, e, oa, items, n, h1, h2, r⟩ := z
    exact ⟨a, e, oa, items, n, hs _ _ (fun z => hk oa (z ▸ h1) h2) h1, h2, r⟩
  | _ => exact z
theorem fill {R : Result → Shared → Prop} {S I l : Addr} {items : Array Value} {res : Value} (hu : A.in1.units + 1 < cLine) (hh : A.handled = none) (n1 : l ≠ I) (n2 : S ≠ I) (n3 : S ≠ l) :
    ∀ (rest : List Ent) (i : Nat) (xs : List Ent) (ix : Int) (t : Tok) (s : Shared), items.size = i + rest.length → xs.length + rest.length ≤ 1000 → Prs P w s.heap items S I i rest →
      s.heap.IsListIter I l i → s.heap.IsList l items → OdD P w s.heap S xs →
      (∀ h' tk, OdD P w h' S (storAll xs rest) → (∀ b o, b ≠ S → b ≠ I → s.heap.get? b = some o → h'.get? b = some o) → R (.ok (.ret res)) { s with heap := h', toks := tk }) →
      codeAny (model P w) A (.builtin "dict.update.loop" ⟨[.ref S, .ref I, .int ix t, res], []⟩) R s := by
  intro rest
  induction rest with
  | nil =>
    intro i xs ix t s hz hl hp hit hL hm hR
    refine codeAny_builtin ud_entry (by
      rw [Around.under_plainId ud_plain _]
      show wpAny _ A.in1 (pyNext (.ref I) >>= _) _ _ s
      refine wpAny_bind (wpAny_pyNext_list_end (A := A.in1) hh hit hL (Array.getElem?_eq_none (Nat.le_of_eq hz)) fun h' he => ?_)
      show wpAny _ A.in1 (Builtin.Dict.addKeywords S [] >>= _) _ _ _
      refine wpAny_bind (wpAny_pure (wpAny_pure (hR h' s.toks (hm.but (c := I) (fun b o nb e => he b o nb e) n2 fun o ho => ?_) fun b o _ nb e => he b o nb e)))
      obtain ⟨oi, hoi, hci, _⟩ := hit
      rw [hoi] at ho
      cases ho
      intro hc
      rw [hci] at hc
      injection hc with hc
      exact absurd hc (by decide))
  | cons q r ih =>
    intro i xs ix t s hz hl hp hit hL hm hR
    rw [List.length_cons] at hz hl
    obtain ⟨b, hb, hbS, hbI, htup, hk, bk⟩ := hp 0 q rfl
    refine codeAny_builtin ud_entry (by
      rw [Around.under_plainId ud_plain _]
      show wpAny _ A.in1 (pyNext (.ref I) >>= _) _ _ s
      have ntI : ∀ o, s.heap.get? I = some o → o.cls ≠ .type "tuple" := fun o ho => by
        obtain ⟨oi, hoi, hci, _⟩ := hit
        rw [hoi] at ho
        cases ho
        intro hc
        rw [hci] at hc
        injection hc with hc
        exact absurd hc (by decide)
      have ntS : ∀ (h : Heap), OdD P w h S xs → ∀ o, h.get? S = some o → o.cls ≠ .type "tuple" := fun h z o ho => by
        obtain ⟨o2, es, ep, h1, hx, _⟩ := z
        rw [h1] at ho
        cases ho
        intro hc
        rw [hx.1] at hc
        injection hc with hc
        exact absurd hc (by decide)
      refine wpAny_bind (wpAny_pyNext_list_item (x := .ref b) hit hL (by simpa using hb) fun h1 hit1 hs1 => ?_)
      have k1 : ∀ c o, c ≠ I → s.heap.get? c = some o → h1.get? c = some o := fun c o nc e => hs1.extBut c o nc e
      have hm1 : OdD P w h1 S xs := hm.but k1 n2 ntI
      have htup1 : IsTup h1 b #[q.2.1, q.2.2] := htup.extBut hs1.extBut hbI
      have hL1 : h1.IsList l items := hL.extBut hs1.extBut n1
      have hkb : Ky P w h1 q.1 q.2.1 := ky_but hk k1 ntI
      obtain ⟨ot, hot, hct, nt, hdt⟩ := id htup1
      show wpAny _ A.in1 (holding [Value.ref b] _ >>= _) _ _ _
      refine wpAny_bind (wpAny_holding (wpAny_bind (wpAny_tryCatch ?_)))
      unfold Builtin.Dict.pairItems
      refine wpAny_bind (wpAny_typeOf (T := "tuple") ⟨ot, hot, hct⟩ (by
        rw [if_pos (by decide)]
        refine wpAny_bind (wpAny_seqItems hot hdt (wpAny_pure ?_))
        show wpAny _ A.in1 (holding [q.2.1, q.2.2] (dictSet S q.2.1 q.2.2)) _ _ _
        refine wpAny_holding (set_at (s := { s with heap := h1 }) hu bk hkb hm1 (by rw [sizeLine_eq]; omega) fun h2 tk hm2 hs2 => ?_)
        have k2 : ∀ c o, c ≠ S → h1.get? c = some o → h2.get? c = some o := fun c o nc e => hs2.extBut c o nc e
        refine wpAny_pure ⟨plainId_quiet ud_plain _, ih (i + 1) (stor xs q.1 q.2.1 q.2.2) (ix + 1) 0 _ (by omega) (by have := stor_len xs q.1 q.2.1 q.2.2; omega) (fun j q' e => ?_) (hit1.at fun o' e => k2 I o' (Ne.symm n2) e) (hL1.extBut hs2.extBut (Ne.symm n3)) hm2 fun h' tk' hd' kk => ?_⟩
        · obtain ⟨b', z1, z2, z3, z4, z5, z6⟩ := hp (j + 1) q' (by simpa using e)
          exact ⟨b', by rw [show i + 1 + j = i + (j + 1) by omega]; exact z1, z2, z3, (z4.extBut hs1.extBut z3).extBut hs2.extBut z2, ky_but (ky_but z5 k1 ntI) k2 (ntS h1 hm1), z6⟩
        · exact hR h' tk' hd' fun c oc h3 h4 e => kk c oc h3 h4 (k2 c oc h3 (k1 c oc h4 e))))
      )
end
end Gdo

set_option Elab.async false
set_option linter.all false
set_option maxRecDepth 100000
set_option maxHeartbeats 4000000
/-! dict(rows) and isinstance, as rules -/
namespace Gdo
open PySem PySem.Spec PyProof.Rows L2
/-- a dict by its entries -/
def RawO (a : Addr) (es : Array DictEntry) (ep : Nat) : HO := .ext fun h => ∃ o, h.get? a = some o ∧ o.ExactDict ∧ o.data = .dict es ep
theorem rawO_ok {P : Program} {w : World} {H : Hp} {h : Heap} {a : Addr} {es : Array DictEntry} {ep : Nat} (z : ∃ o, h.get? a = some o ∧ o.ExactDict ∧ o.data = .dict es ep) : ObjOk P w H h a (RawO a es ep) :=
  ⟨z, let ⟨o, e, _⟩ := z; ⟨o, e⟩, fun h1 h2 ⟨o, e, r⟩ k => ⟨o, k o e, r⟩⟩
/-- what a key is, as a value of the hand layer -/
def KyV (H : Hp) : OK → V → Prop
  | .non, v => v = .non
  | .bo b, v => v = .bl b
  | .sc k, v => v = kV k
  | .tp ks, v => ∃ a, v = .ref a ∧ H a = some (.tup (ks.map kV))
section
variable {X : Cx} {pins : List (Addr × Obj)} {σ : L2.St} {H : Hp} {s : Shared}
theorem items_keys {P : Program} {w : World} : ∀ {ks : List Key} {us : List Value}, Vals (ks.map kV) us → ItemsAre (mixKind P w) ks us
  | [], _, .nil => .nil
  | k :: ks, _, .cons r t => .cons (kV_is (P := P) (w := w) r) (items_keys t)
theorem KyV.ky (I : Inv X pins σ H s) {k : OK} {v : V} {u : Value} (z : KyV H k v) (r : RelV v u) : Ky X.prog X.w s.heap k u := by
  cases k with
  | non => cases (show v = .non from z); exact r
  | bo b => cases (show v = .bl b from z); exact r
  | sc k => cases (show v = kV k from z); exact kV_is (P := X.prog) (w := X.w) r
  | tp ks =>
    obtain ⟨a, rfl, e⟩ := z
    cases (show u = Value.ref a from r)
    obtain ⟨_, its, rv, o, h1, h2, n, h3⟩ := (show ObjOk X.prog X.w H s.heap a (.tup (ks.map kV)) from I.hok a _ e)
    exact ⟨a, rfl, o, _, n, h1, h2, h3, items_keys rv⟩
theorem ents_of (I : Inv X pins σ H s) : ∀ {ps : List Addr} {es : List (OK × V × V)}, Paired (fun p e => H p = some (.tup [e.2.1, e.2.2]) ∧ KyV H e.1 e.2.1 ∧ Big e.1) ps es →
    ∃ qs : List Ent, qs.length = ps.length ∧ ∀ (j : Nat) (q : Ent), qs[j]? = some q → ∃ b : Addr, ps[j]? = some b ∧ IsTup s.heap b #[q.2.1, q.2.2] ∧ Ky X.prog X.w s.heap q.1 q.2.1 ∧ Big q.1
  | _, _, .nil => ⟨[], rfl, fun j q e => by simp at e⟩
  | _, _, .cons (a := p) (b := e) h t => by
    obtain ⟨qs, hl, hq⟩ := ents_of I t
    obtain ⟨h1, h2, h3⟩ := h
    obtain ⟨_, its, rv, ht⟩ := (show ObjOk X.prog X.w H s.heap p (.tup [e.2.1, e.2.2]) from I.hok p _ h1)
    obtain ⟨u, y, rfl, ru, ry⟩ := vals2 rv
    refine ⟨(e.1, u, y) :: qs, by rw [List.length_cons, List.length_cons, hl], fun j q hj => ?_⟩
    cases j with
    | zero =>
      cases (Option.some.inj hj : (e.1, u, y) = q)
      exact ⟨p, rfl, ht, h2.ky I ru, h3⟩
    | succ j =>
      obtain ⟨b, z⟩ := hq j q (by simpa using hj)
      exact ⟨b, by simpa using z.1, z.2⟩
end
section
variable {X : Cx}
def rDictO : List V → Hp → VK → Prop := fun xs H Q => ∃ (l : Addr) (ps : List Addr) (es : List (OK × V × V)), xs = [.ref l] ∧ H l = some (.lst (ps.map V.ref)) ∧ Paired (fun p e => H p = some (.tup [e.2.1, e.2.2]) ∧ KyV H e.1 e.2.1 ∧ Big e.1) ps es ∧ ps.length ≤ 500 ∧
  ∀ p ents ep, H p = none → Q (.ref p) (upd H p (RawO p ents ep))
theorem cr_dictO (hc : X.calm = true) (hu : X.A.units + 8 < cLine) : CallR X (.type "dict") rDictO := by
  intro pins s σ H xs us Q I r h
  obtain ⟨l, ps, es, rfl, hl, hp, h5, q⟩ := h
  obtain ⟨u, rfl, rx⟩ := vals1 r
  cases (show u = Value.ref l from rx)
  obtain ⟨hz, its, n, rv, ho⟩ := (show ObjOk X.prog X.w H s.heap l (.lst (ps.map V.ref)) from I.hok l _ hl)
  have ei := refs_at rv
  subst ei
  obtain ⟨qs, ql, hq⟩ := ents_of I hp
  have hh := I.ok.hd hc
  refine callType_codes (Q₁ := fun obj t => obj = .ref s.heap.objs.size ∧ t = { s with heap := s.heap.push { cls := .type "dict", data := .dict #[] } }) PySem.F.kt_called_dict (PySem.F.kt_typeCall_dict_1 _) PySem.F.entry_dict_init (kt_code_dict_new _ ⟨rfl, rfl⟩) fun obj t ⟨e1, e2⟩ => ?_
  subst e1 e2
  have new : OdD X.prog X.w (s.heap.push { cls := .type "dict", data := .dict #[] }) s.heap.objs.size [] := ⟨_, #[], 0, Heap.get?_push_size _ rfl, ⟨rfl, rfl, rfl⟩, rfl, rfl, (fun x hx => by cases hx), .nil⟩
  have k0 : ∀ b o, s.heap.get? b = some o → (s.heap.push { cls := .type "dict", data := .dict #[] }).get? b = some o := fun b o e => Heap.get?_push_of_some _ e
  have hT : Shared.TypeIs { s with heap := s.heap.push { cls := .type "dict", data := .dict #[] } } (.ref s.heap.objs.size) "dict" := ⟨_, Heap.get?_push_size _ rfl, rfl⟩
  refine ⟨hT, PySem.F.args_dict_init_2 _ _, ?_⟩
  unfold Builtin.«dict.__init__»
  refine wpAny_bind (m := Builtin.Dict.selfAndRest _ _) ?_
  unfold Builtin.Dict.selfAndRest
  refine wpAny_bind (wpAny_notOrdered_dict hT ?_)
  show wpAny _ _ (pure (s.heap.objs.size, [Value.ref l])) _ _ _
  refine wpAny_pure ?_
  show wpAny _ _ (Builtin.Dict.updateFrom "dict.__init__" s.heap.objs.size (.ref l) [] .none) _ _ _
  unfold Builtin.Dict.updateFrom
  refine wpAny_bind (wpAny_typeOf (T := "list") ⟨_, k0 _ _ ho, rfl⟩ (by
    rw [if_pos (by decide)]
    refine wpAny_bind (miss_list (k0 _ _ ho) rfl rfl rfl hh fun h1 tk1 hk1 => ?_)
    rw [if_pos (show (none : Option Value).isNone = true from rfl)]
    have hl1 : h1.IsList l (ps.map Value.ref).toArray := ⟨_, hk1 _ _ (k0 _ _ ho), rfl, n, rfl⟩
    have hS1 : s.heap.objs.size < h1.objs.size := Heap.lt_size (hk1 _ _ (Heap.get?_push_size s.heap rfl))
    refine wpAny_bind (wpAny_rule (wpAny_bind (wpAny_pyIter_list hl1 ?_)))
    have k2 : ∀ b o, h1.get? b = some o → (h1.push { cls := .type "list_iterator", data := .fields #[.ref l, .int 0 0] }).get? b = some o := fun b o e => Heap.get?_push_of_some _ e
    have hlt : l < s.heap.objs.size := Heap.lt_size ho
    have kall : ∀ b o, s.heap.get? b = some o → (h1.push { cls := .type "list_iterator", data := .fields #[.ref l, .int 0 0] }).get? b = some o := fun b o e => k2 _ _ (hk1 _ _ (k0 _ _ e))
    have run := fill (P := X.prog) (w := X.w) (A := X.A.in1) (R := wants (fun r t => r = .none ∧ EP X pins σ Q (.ref s.heap.objs.size) t) X.xe) (S := s.heap.objs.size) (I := h1.objs.size) (l := l) (items := (ps.map Value.ref).toArray) (res := Value.none)
      (by show X.A.units + 1 + 1 + 1 < cLine; omega) hh (Nat.ne_of_lt (Nat.lt_trans hlt hS1)) (Nat.ne_of_lt hS1) (Nat.ne_of_gt hlt) qs 0 [] 0 0 { s with heap := h1.push { cls := .type "list_iterator", data := .fields #[.ref l, .int 0 0] }, toks := tk1 }
      (by simp [ql]) (by rw [List.length_nil]; omega) (fun j q' e => by
        obtain ⟨b, z1, z2, z3, z4⟩ := hq j q' e
        have hb : b < s.heap.objs.size := z2.lt
        exact ⟨b, by simp [z1], Nat.ne_of_lt hb, Nat.ne_of_lt (Nat.lt_trans hb hS1), z2.keeps kall, z3.kept kall, z4⟩)
      ⟨_, Heap.get?_push_size _ rfl, rfl, rfl⟩ (hl1.at fun o e => k2 _ _ e) (new.kept fun b o e => k2 _ _ (hk1 _ _ e))
      (fun h' tk hd' kk => ⟨rfl, by
        obtain ⟨o, ents, ep, h2, h3, h4, _⟩ := hd'
        have k3 : ∀ b o, s.heap.get? b = some o → h'.get? b = some o := fun b o e => kk b o (Nat.ne_of_lt (Heap.lt_size e)) (Nat.ne_of_lt (Nat.lt_trans (Heap.lt_size e) hS1)) (kall b o e)
        exact ⟨.ref s.heap.objs.size, upd H s.heap.objs.size (RawO s.heap.objs.size ents ep), I.laid (t' := tk) k3 (Nat.le_refl _) (rawO_ok ⟨o, h2, h3, h4⟩), rfl, q _ _ _ (I.hok.fresh (Nat.le_refl _))⟩⟩)
    · first
        | exact wpAny_pure ⟨plainId_quiet ud_plain _, run⟩
        | exact wpAny_bind (wpAny_pure (wpAny_pure ⟨plainId_quiet ud_plain _, run⟩))))
/-! ### isinstance, of such a dict too -/
inductive TyD (K : PySem.W.Frag) (H : Hp) : V → Value → Prop
  | x {v : V} {t : Value} (h : TyX K H v t) : TyD K H v t
  | raw {a : Addr} {es : Array DictEntry} {ep : Nat} (h : H a = some (RawO a es ep)) : TyD K H (.ref a) (.type "dict")
theorem tyD_kit {pins : List (Addr × Obj)} {σ : L2.St} {H : Hp} {s : Shared} {v : V} {u t : Value} (I : Inv X pins σ H s) (r : RelV v u) (z : TyD X.K H v t) : ∃ P : Heap → Prop, PySem.W.KitX X.K u t P ∧ P s.heap ∧ u ≠ .builtin "__main__.__loader__#opaque" := by
  cases z with
  | x h => exact kit_of I r h
  | @raw a es ep h =>
    cases (show u = Value.ref a from r)
    obtain ⟨⟨o, h1, h2, _⟩, _⟩ := I.hok a _ h
    exact ⟨_, PySem.W.kitx_dict, ⟨o, h1, h2.1⟩, fun z => nomatch z⟩
def rIsD (K : PySem.W.Frag) : List V → Hp → VK → Prop := fun xs H Q => ∃ (v c : V) (t u : Value) (b : Bool), xs = [v, c] ∧ ClsV c u ∧ TyD K H v t ∧ PySem.W.kitOne K t u = some b ∧ Q (.bl b) H
theorem call_isD : CallR X (.builtin "isinstance") (rIsD X.K) := by
  intro pins s σ H xs us Q I r h
  obtain ⟨v, c, t, u, b, rfl, k, ty, e, q⟩ := h
  obtain ⟨u1, u2, rfl, r1, r2⟩ := vals2 r
  obtain rfl := k.eq r2
  obtain ⟨P, Z, p, hx⟩ := tyD_kit I r1 ty
  exact PySem.W.kia_one Z I.kIn p e hx fun tk => ⟨.bl b, H, I.tok tk, rfl, q⟩
def rIsDT (K : PySem.W.Frag) : List V → Hp → VK → Prop := fun xs H Q => ∃ (v : V) (tp : Addr) (cs : List V) (t : Value) (us : List Value) (b : Bool), xs = [v, .ref tp] ∧ H tp = some (.tup cs) ∧ Paired ClsV cs us ∧ TyD K H v t ∧ PySem.W.kitAny K t us = some b ∧ Q (.bl b) H
theorem call_isDT : CallR X (.builtin "isinstance") (rIsDT X.K) := by
  intro pins s σ H xs us Q I r h
  obtain ⟨v, tp, cs, t, ws, b, rfl, hT, k, ty, e, q⟩ := h
  obtain ⟨u1, u2, rfl, r1, r2⟩ := vals2 r
  cases (show u2 = Value.ref tp from r2)
  obtain ⟨P, Z, p, hx⟩ := tyD_kit I r1 ty
  obtain ⟨_, its, rv, ⟨oc, od, dt, sl⟩, h1, h2, n, h3⟩ := (show ObjOk X.prog X.w H s.heap tp (.tup cs) from I.hok tp _ hT)
  obtain rfl := ClsV.all k rv
  simp only at h2 h3
  subst h2 h3
  exact PySem.W.kia_tup Z I.kIn p h1 e hx fun tk => ⟨.bl b, H, I.tok tk, rfl, q⟩
end
end Gdo

set_option Elab.async false
set_option linter.all false
set_option maxRecDepth 100000
set_option maxHeartbeats 4000000
namespace Lw
open L2 hiding Ext
open PySem PySem.Spec PyProof.Rows Gn Gr Gk Go Gt Gf Gu
/-! ### rows of any kind -/
/-- a row that is a row beside these names -/
def nmM (E : List Str) : PyData → Option Str
  | .str s => if nameOk s = true ∧ s ∉ E then some s else none
  | _ => none
def parM (E : List Str) : PyData → Option (Option Str)
  | .none => some none
  | .str m => if m ∈ E then some (some m) else none
  | _ => none
def rowL (E : List Str) : List PyData → Option FRow
  | [n, p] => match nmM E n with
    | some s => match parM E p with
      | some q => some (s, q)
      | none => none
    | none => none
  | _ => none
def rowM (E : List Str) : PyData → Option FRow
  | .tuple ds => rowL E ds
  | _ => none
def nmD : PyData → Bool
  | .str s => nameOk s
  | _ => false
def AscD : PyData → Prop
  | .tuple [.str s, _] => Asc 19 s
  | _ => True
def firstM (E : List Str) : List PyData → Nat
  | [] => 0
  | x :: r => match rowM E x with
    | some q => firstM (E ++ [q.1]) r + 1
    | none => 0
def rowsM (E : List Str) : List PyData → Option (List FRow)
  | [] => some []
  | x :: r => match rowM E x with
    | some q => (rowsM (E ++ [q.1]) r).map (q :: ·)
    | none => none
theorem firstM_no {E : List Str} {x : PyData} {r : List PyData} (h : rowM E x = none) : firstM E (x :: r) = 0 := by
  unfold firstM; rw [h]
theorem firstM_yes {E : List Str} {x : PyData} {r : List PyData} {q : FRow} (h : rowM E x = some q) : firstM E (x :: r) = firstM (E ++ [q.1]) r + 1 := by
  conv => lhs; unfold firstM
  rw [h]
theorem firstM_le : ∀ (ds : List PyData) (E : List Str), firstM E ds ≤ ds.length
  | [], _ => Nat.le_refl _
  | x :: r, E => by
    unfold firstM
    cases rowM E x with
    | none => exact Nat.zero_le _
    | some q =>
      have := firstM_le r (E ++ [q.1])
      show _ + 1 ≤ r.length + 1
      omega
theorem firstM_all : ∀ (ds : List PyData) (E : List Str), firstM E ds = ds.length ↔ (rowsM E ds).isSome = true
  | [], _ => ⟨fun _ => rfl, fun _ => rfl⟩
  | x :: r, E => by
    unfold firstM rowsM
    cases rowM E x with
    | none => exact ⟨fun h => (by cases h), fun h => (by cases h)⟩
    | some q =>
      show firstM (E ++ [q.1]) r + 1 = r.length + 1 ↔ ((rowsM (E ++ [q.1]) r).map (q :: ·)).isSome = true
      rw [Option.isSome_map, ← firstM_all r (E ++ [q.1])]
      omega
variable {d g : Addr} {H H' : Hp}
theorem Dk.tup_get {a : Addr} {x : PyData} (h : Dk d g H (.ref a) x) {xs : List V} (ha : H a = some (.tup xs)) : ∃ ds, x = .tuple ds ∧ DkAll d g H xs ds := by
  cases h with
  | lst e => rw [ha] at e; cases e
  | tup e _ _ z => rw [ha] at e; cases e; exact ⟨_, rfl, z⟩
  | dct e => rw [ha] at e; cases e
theorem rowL_len {E : List Str} : ∀ {ds : List PyData}, ds.length ≠ 2 → rowL E ds = none
  | [], _ => rfl
  | [_], _ => by simp [rowL]
  | [_, _], h => absurd rfl h
  | _ :: _ :: _ :: _, _ => by simp [rowL]
theorem Dk.nt {v : V} {x : PyData} (h : Dk d g H v x) : (∃ a xs ds, v = .ref a ∧ x = .tuple ds ∧ H a = some (.tup xs) ∧ DkAll d g H xs ds) ∨ (∃ T, TyT H v T ∧ kitB T "tuple" = some false ∧ ∀ E, rowM E x = none) := by
  cases h with
  | non => exact .inr ⟨_, .non, by decide +kernel, fun _ => rfl⟩
  | bl b => exact .inr ⟨_, .bl b, by decide +kernel, fun _ => rfl⟩
  | int i => exact .inr ⟨_, .int i, by decide +kernel, fun _ => rfl⟩
  | str x => exact .inr ⟨_, .str x, by decide +kernel, fun _ => rfl⟩
  | lst e => exact .inr ⟨_, .lst e, by decide +kernel, fun _ => rfl⟩
  | tup e _ _ z => exact .inl ⟨_, _, _, rfl, rfl, e, z⟩
  | dct e => exact .inr ⟨_, .dct e, by decide +kernel, fun _ => rfl⟩
theorem Dk.name {v : V} {x : PyData} (h : Dk d g H v x) (ha : ∀ s, x = .str s → Asc 19 s) : NameV H v (nmD x) := by
  cases h with
  | non => exact .inr ⟨rfl, .inl .non⟩
  | bl b => exact .inr ⟨rfl, .inr (.inl (.bl b))⟩
  | int i => exact .inr ⟨rfl, .inr (.inr (.inl (.int i)))⟩
  | str x => exact .inl ⟨x, rfl, ha x rfl, rfl⟩
  | lst e => exact .inr ⟨rfl, .inr (.inr (.inr (.inl (.lst e))))⟩
  | tup e => exact .inr ⟨rfl, .inr (.inr (.inr (.inr (.inl (.tup e)))))⟩
  | dct e => exact .inr ⟨rfl, .inr (.inr (.inr (.inr (.inr (.dct e)))))⟩
theorem inV_no {v : V} {E : List Str} (h : ∀ s, v ≠ .str s) : inV v (E.map V.str) = false := by
  unfold inV
  rw [List.any_eq_false]
  intro y hy
  obtain ⟨e, _, rfl⟩ := List.mem_map.mp hy
  cases v with
  | str s => exact absurd rfl (h s)
  | _ => exact Bool.false_ne_true
theorem Dk.cont {a : Addr} {x : PyData} (h : Dk d g H (.ref a) x) : Gj.Cont H a := by
  cases h with
  | lst e => exact .inl ⟨_, e⟩
  | tup e => exact .inr (.inl ⟨_, e⟩)
  | dct e => exact .inr (.inr ⟨_, e⟩)
section
variable {P : Program} {w : World} {K : PySem.W.Frag} {mg : Str → Option Value} {base : Heap}
/-! ### is_row -/
abbrev nRowX : List Str := ["value", "earlier", "name", "parent"]
def spRowX : Sp := fun vs H Q _ => ∃ (v : V) (e d g : Addr) (x : PyData) (E : List Str), vs = [v, .ref e] ∧ Dk d g H v x ∧ AscD x ∧ H e = some (.lst (E.map V.str)) ∧ ∀ H', Ext H H' → Q (.bl (rowM E x).isSome) H'
theorem scRowX : FnScope nRowX ["value", "earlier"] (defScope sRow) := ⟨rfl, rfl, rfl, by decide +kernel, rfl, by decide +kernel, by decide +kernel⟩
theorem ok_rowX {f fN : Addr} {fd fdN : FuncData} (F : Fun K "is_row" "is_row" sRow f fd) (T : Names mg) (GN : FnOk P w K mg base CX0 1 fN fdN ["value"] spName) (bN : Binds K fdN ["value"] []) (kN : PySem.W.keepIn K (.ref fN) = true) (mN : mg "is_name" = some (.ref fN)) :
    FnOk P w K mg base CX0 2 f fd ["value", "earlier"] spRowX := by
  refine F.ok scRowX (fun vs H Q E h => ?_) (fun cdv A outer s H vs Q E hr h => ?_)
  · obtain ⟨v, e, d, g, x, E', rfl, _⟩ := h
    rfl
  · obtain ⟨v, e, d, g, x, E', rfl, hv, hA, he, k⟩ := h
    have nd := scRowX.nd
    refine ⟨_, pss_cons (ps_if (PW.pt (pw_or (pt_not (pt_val (pe_callB call_isi rfl T.isi (by decide +kernel) (pa_cons (pv 0) (pa_cons (pe_bltn (v := .ty "tuple") rfl T.tuple (by decide +kernel) rfl) pa_nil))))) (pw_or1 (pt_cmpR op_ne (pe_callB call_len_seq rfl T.len PySem.boot_len (pa_cons (pv 0) pa_nil)) pe_int (nomark _))))) (pss_one (ps_ret pe_bl)) pss_nil)
(pss_cons (ps_asg (pv 0) (by exact (pg_tup rfl (pgs_cons (pg_name (i := 2) nd rfl (.inl rfl)) (pgs_cons (pg_name (i := 3) nd rfl (.inl rfl)) pgs_nil)))))
(pss_cons (ps_if (PW.pt (pw_or (pt_not (pt_val (pe_call GN hr rfl mN kN bN .nil pass0 (pa_cons (pv 2) pa_nil)))) (pw_or1 (pt_cmpR op_in_seq (pv 2) (pv 1) rfl)))) (pss_one (ps_ret pe_bl)) pss_nil)
(pss_one (ps_ret (pe_or (pe_cmpR op_isN (pv 3) pe_non (nomark _)) (pe_one (pe_cmpR (Gj.op_inO hr.units) (pv 3) (pv 1) rfl))))))), ?_⟩
    rcases hv.nt with ⟨a, xs, ds, rfl, rfl, ha, hd⟩ | ⟨T', ht, hk, hn⟩
    · have hl := DkAll.len hd
      refine ⟨_, rfl, _, _, _, _, true, rfl, .ty _, (TyT.tup ha).x, kit_ty (by decide +kernel), true, rfl, iteF ?_⟩
      by_cases h2 : xs.length = 2
      · refine ⟨_, rfl, a, _, rfl, .inr (SqT.of ha), rfl, _, rfl, iteNS (by rw [h2]; rfl) ?_⟩
        match xs, h2, ds, hl, hd, ha with
        | [v1, v2], _, [x1, x2], _, .cons d1 (.cons d2 .nil), ha =>
          refine ⟨_, rfl, a, _, rfl, SqT.of ha, rfl, _, _, rfl, _, _, rfl, rfl, ?_⟩
          have a1 : ∀ s, x1 = .str s → Asc 19 s := fun s e => by rw [e] at hA; exact hA
          refine ⟨_, rfl, v1, nmD x1, rfl, d1.name a1, fun H1 k1 => ?_⟩
          by_cases hn : nmD x1 = true
          · rw [hn]
            obtain ⟨s1, rfl, rfl, hs⟩ : ∃ s1, x1 = .str s1 ∧ v1 = .str s1 ∧ nameOk s1 = true := by
              cases d1 with
              | str s => exact ⟨s, rfl, rfl, hn⟩
              | _ => cases hn
            refine ⟨_, rfl, iteF ?_⟩
            refine ⟨_, rfl, _, rfl, e, _, rfl, .inl (SqL.of (k1 _ _ he)), rfl, strs_flat _, _, rfl, ?_⟩
            show if inV (V.str s1) (E'.map V.str) = true then _ else _
            rw [inV_strs]
            by_cases hm : s1 ∈ E'
            · refine iteS hm ?_
              have z := k H1 k1
              have : rowM E' (.tuple [.str s1, x2]) = none := by
                unfold rowM rowL nmM
                dsimp only
                rw [if_neg (fun z => z.2 hm)]
              rw [this] at z
              exact z
            · refine iteN hm ?_
              have nm : nmM E' (.str s1) = some s1 := by
                unfold nmM
                dsimp only
                rw [if_pos ⟨hs, hm⟩]
              have rw1 : (rowM E' (.tuple [.str s1, x2])).isSome = (parM E' x2).isSome := by
                unfold rowM rowL
                dsimp only
                rw [nm]
                dsimp only
                cases parM E' x2 <;> rfl
              have z := k H1 k1
              rw [rw1] at z
              refine ⟨_, rfl, rfl, _, rfl, ?_⟩
              have e1 := k1 _ _ he
              have no : ∀ (b : Bool), v2 ≠ .non → flatV v2 = true → inV v2 (E'.map V.str) = b → (parM E' x2).isSome = b → if decide (v2 = V.non) = true then Q (.bl true) H1 else tOp (Gj.rInO false) (tVar 3) (tVar 1) [some (.ref a), some (.ref e), some (.str s1), some v2] H1 Q := fun b h1 h2 h3 h4 => by
                rw [h4] at z
                refine iteN h1 ⟨_, rfl, _, rfl, e, E', rfl, .inl e1, .inl ⟨h2, ?_⟩⟩
                show Q (.bl (inV v2 (E'.map V.str))) H1
                rw [h3]
                exact z
              have re : ∀ (a2 : Addr), v2 = .ref a2 → Gj.Cont H a2 → (parM E' x2).isSome = false → if decide (v2 = V.non) = true then Q (.bl true) H1 else tOp (Gj.rInO false) (tVar 3) (tVar 1) [some (.ref a), some (.ref e), some (.str s1), some v2] H1 Q := fun a2 h1 h2 h4 => by
                rw [h4] at z
                subst h1
                exact iteN (by intro e; cases e) ⟨_, rfl, _, rfl, e, E', rfl, .inl e1, .inr ⟨a2, rfl, h2.ext k1, z⟩⟩
              cases d2 with
              | non => exact iteS rfl z
              | bl b => exact no false (by intro e; cases e) rfl (inV_no fun s e => by cases e) rfl
              | int i => exact no false (by intro e; cases e) rfl (inV_no fun s e => by cases e) rfl
              | str m =>
                refine no (decide (m ∈ E')) (by intro e; cases e) rfl (inV_strs m E') ?_
                unfold parM
                dsimp only
                by_cases hm : m ∈ E'
                · rw [if_pos hm, decide_eq_true hm]; rfl
                · rw [if_neg hm, decide_eq_false hm]; rfl
              | lst h n1 n2 al => exact re _ rfl (Dk.cont (.lst h n1 n2 al)) rfl
              | tup h n1 n2 al => exact re _ rfl (Dk.cont (.tup h n1 n2 al)) rfl
              | dct h n1 n2 => exact re _ rfl (Dk.cont (.dct h n1 n2)) rfl
          · rw [Bool.not_eq_true] at hn
            rw [hn]
            refine ⟨_, rfl, iteT ?_⟩
            have z := k H1 k1
            have : rowM E' (.tuple [x1, x2]) = none := by
              unfold rowM rowL
              dsimp only
              have : nmM E' x1 = none := by
                cases x1 with
                | str s =>
                  unfold nmM
                  dsimp only
                  rw [if_neg (fun z => by
                    have hn : nameOk s = false := hn
                    rw [z.1] at hn
                    cases hn)]
                | _ => rfl
              rw [this]
            rw [this] at z
            exact z
      · refine ⟨_, rfl, a, _, rfl, .inr (SqT.of ha), rfl, _, rfl, ?_⟩
        have z := k H Ext.refl
        rw [show rowM E' (.tuple ds) = none from rowL_len (by omega)] at z
        show if (!decide (V.int (xs.length : Nat) = V.int 2)) = true then _ else _
        rw [decide_eq_false (by intro e; injection e with e; omega)]
        exact iteT z
    · refine ⟨_, rfl, _, _, _, _, false, rfl, .ty _, ht.x, kit_ty hk, false, rfl, iteT ?_⟩
      have := k H Ext.refl
      rw [hn] at this
      exact this
end
end Lw

set_option Elab.async false
set_option linter.all false
set_option maxRecDepth 100000
set_option maxHeartbeats 4000000
namespace Lw
open L2 hiding Ext
open PySem PySem.Spec PyProof.Rows Gn Gr Gk Go Gt Gf Gu
variable {d g : Addr} {H H' : Hp}
theorem Dk.ext (k : Ext H H') {v : V} {x : PyData} (h : Dk d g H v x) : Dk d g H' v x := Dk.kp (fun a o _ _ e => k _ _ e) h
theorem DkAll.ext (k : Ext H H') {vs : List V} {ds : List PyData} (h : DkAll d g H vs ds) : DkAll d g H' vs ds := DkAll.kp (fun a o _ _ e => k _ _ e) h
theorem rowM_some {E : List Str} {x : PyData} {q : FRow} (h : rowM E x = some q) : ∃ p, x = .tuple [.str q.1, p] ∧ nameOk q.1 = true ∧ q.1 ∉ E ∧ parM E p = some q.2 := by
  cases x with
  | tuple ds =>
    have h : rowL E ds = some q := h
    match ds, h with
    | [n, p], h =>
      unfold rowL at h
      dsimp only at h
      cases n with
      | str s =>
        unfold nmM at h
        dsimp only at h
        by_cases c : nameOk s = true ∧ s ∉ E
        · rw [if_pos c] at h
          dsimp only at h
          cases e : parM E p with
          | none => rw [e] at h; cases h
          | some r =>
            rw [e] at h
            cases h
            exact ⟨p, rfl, c.1, c.2, e⟩
        · rw [if_neg c] at h; cases h
      | _ => cases h
    | [], h => cases h
    | [_], h => simp [rowL] at h
    | _ :: _ :: _ :: _, h => simp [rowL] at h
  | _ => cases h
theorem Dk.row {v : V} {E : List Str} {x : PyData} {q : FRow} (h : Dk d g H v x) (e : rowM E x = some q) : ∃ a v2, v = .ref a ∧ H a = some (.tup [.str q.1, v2]) ∧ ∃ p, Dk d g H v2 p ∧ parM E p = some q.2 := by
  obtain ⟨p, rfl, _, _, hp⟩ := rowM_some e
  cases h with
  | tup e1 _ _ z =>
    cases z with
    | cons d1 z =>
      cases z with
      | cons d2 z =>
        cases z
        cases d1
        exact ⟨_, _, rfl, e1, p, d2, hp⟩
theorem Dk.par {v : V} {E : List Str} {p : PyData} {r : Option Str} (h : Dk d g H v p) (e : parM E p = some r) : v = parV r ∧ ∀ m, r = some m → m ∈ E := by
  cases h with
  | non => cases e; exact ⟨rfl, fun m z => by cases z⟩
  | str m =>
    unfold parM at e
    dsimp only at e
    by_cases c : m ∈ E
    · rw [if_pos c] at e
      cases e
      exact ⟨rfl, fun m' z => by cases z; exact c⟩
    · rw [if_neg c] at e; cases e
  | _ => cases e
section
variable {P : Program} {w : World} {K : PySem.W.Frag} {mg : Str → Option Value} {base : Heap}
/-! ### first_wrong -/
abbrev nWrongX : List Str := ["rows", "earlier", "at", "row"]
def spWrongX : Sp := fun vs H Q _ => ∃ (l d g : Addr) (xs : List V) (ds : List PyData), vs = [.ref l] ∧ ClAt H l xs ∧ DkAll d g H xs ds ∧ (∀ x ∈ ds, AscD x) ∧ ds.length ≤ 100 ∧ ∀ H', Ext H H' → Q (.int (firstM [] ds)) H'
theorem scWrongX : FnScope nWrongX ["rows"] (defScope sWrong) := ⟨rfl, rfl, rfl, by decide +kernel, rfl, by decide +kernel, by decide +kernel⟩
theorem ok_wrongX {f fR : Addr} {fd fdR : FuncData} (F : Fun K "first_wrong" "first_wrong" sWrong f fd) (T : Names mg) (GR : FnOk P w K mg base CX0 2 fR fdR ["value", "earlier"] spRowX) (bR : Binds K fdR ["value", "earlier"] []) (kR : PySem.W.keepIn K (.ref fR) = true) (mR : mg "is_row" = some (.ref fR)) :
    FnOk P w K mg base CX0 3 f fd ["rows"] spWrongX := by
  refine F.ok scWrongX (fun vs H Q E h => ?_) (fun cdv A outer s H vs Q E hr h => ?_)
  · obtain ⟨l, d, g, xs, ds, rfl, _⟩ := h
    rfl
  · obtain ⟨l, d, g, xs, ds, rfl, hl, hd, hA, h100, k⟩ := h
    have nd := scWrongX.nd
    refine ⟨_, pss_cons (ps_set (i := 1) nd rfl (.inl rfl) (pe_lst pa_nil))
(pss_cons (ps_for PassesOwn.never rfl (Gu.wI (t' := Gq.iEnumV 0) (Gq.pi_enumM rfl T.enum (pa_cons (pv 0) pa_nil)) Gq.iEnum_ok) (by exact (pg_tup rfl (pgs_cons (pg_name (i := 2) nd rfl (.inl rfl)) (pgs_cons (pg_name (i := 3) nd rfl (.inl rfl)) pgs_nil))))
(pss_cons (ps_if (pt_not (pt_val (pe_call GR hr rfl mR kR bR .nil pass0 (pa_cons (pv 3) (pa_cons (pv 1) pa_nil))))) (pss_one (ps_ret (pv 2))) pss_nil)
(pss_one (ps_expr (pe_bm PySem.F.plainAttrs_list PySem.F.slot_list_append PySem.F.type_list_append mt_append (pv 1) (pa_cons (pe_ix ix_tup (pv 3) pe_int (fun _ _ => rfl)) pa_nil))))))
(pss_one (ps_ret (pe_callB call_len_seq rfl T.len PySem.boot_len (pa_cons (pv 0) pa_nil))))), ?_⟩
    have dl := DkAll.len hd
    refine ⟨Nat.zero_le _, fun L hL => ?_⟩
    have k1 : Ext H (upd H L (.lst [])) := Ext.new hL
    have l1 : (upd H L (.lst [])) L = some (.lst (([] : List Str).map V.str)) := upd_same
    generalize upd H L (.lst []) = H1 at k1 l1 ⊢
    refine ⟨l, xs, rfl, hl.ext k1, fun J wJ => ?_⟩
    refine for_it wJ (fun i σ H' => ∃ (E : List Str) (v2 v3 : Option V), σ = [some (.ref l), some (.ref L), v2, v3] ∧ H' L = some (.lst (E.map V.str)) ∧ E.length ≤ i ∧ firstM [] ds = i + firstM E (ds.drop i) ∧ Ext H H' ∧ H' l = H1 l)
      ⟨[], none, none, rfl, l1, Nat.le_refl _, by rw [List.drop_zero, Nat.zero_add], k1, rfl⟩ (fun i σ H' _ ⟨_, _, _, _, _, _, _, _, e⟩ => e) ?_ ?_
    · rintro i y σ H2 H2' hi ⟨E, v2, v3, rfl, l2, el, hf, k2, kl⟩ hY
      obtain ⟨t, x1, v, rfl, ht, rfl, h1, h2⟩ := hY
      cases h1
      have kt := Ext.new (o := .tup [.int (i : Nat), v]) ht
      have t3 : (upd H2 t (.tup [.int (i : Nat), v])) t = some (.tup [.int (i : Nat), v]) := upd_same
      have l3 := kt _ _ l2
      have k3 := k2.trans kt
      have klt : l ≠ t := by
        rcases hl with e | e
        · exact ne_of_none (k2 _ _ e) ht
        · exact ne_of_none (k2 _ _ e) ht
      have kl3 : (upd H2 t (.tup [.int (i : Nat), v])) l = H1 l := (upd_ne klt).trans kl
      generalize upd H2 t (.tup [.int (i : Nat), v]) = H3 at t3 l3 k3 kl3 ⊢
      obtain ⟨x, hx, dx⟩ := DkAll.get hd h2
      have hix := (List.getElem?_eq_some_iff.mp hx).1
      have hdr : ds.drop i = x :: ds.drop (i + 1) := by
        rw [List.drop_eq_getElem_cons hix]
        rw [List.getElem?_eq_getElem hix] at hx
        cases hx
        rfl
      rw [hdr] at hf
      have dx3 : Dk d g H3 v x := Dk.ext k3 dx
      refine ⟨t, _, rfl, SqT.of t3, rfl, _, _, rfl, _, _, rfl, rfl, ?_⟩
      refine ⟨_, rfl, _, rfl, v, L, d, g, x, E, rfl, dx3, hA x (List.mem_of_getElem? hx), l3, fun H4 k4 => ?_⟩
      cases hq : rowM E x with
      | none =>
        rw [firstM_no hq] at hf
        refine ⟨_, rfl, iteT ?_⟩
        have z := k H4 (k3.trans k4)
        rw [show firstM [] ds = i from hf] at z
        exact ⟨_, rfl, z⟩
      | some q =>
        rw [firstM_yes hq] at hf
        refine ⟨_, rfl, iteF ?_⟩
        obtain ⟨a, v2', rfl, ha, _⟩ := dx3.row hq
        have l4 := k4 _ _ l3
        refine ⟨_, rfl, .inl ⟨rfl, _, SqL.of l4⟩, _, rfl, a, _, _, _, rfl, rfl, SqT.of (k4 _ _ ha), (show atI _ ((0 : Nat) : Int) = _ from atI_nat rfl), L, _, _, rfl, rfl, l4, small1000 (by rw [List.length_map]; omega), ?_⟩
        have nlL : l ≠ L := by
          rcases hl with e | e
          · exact ne_of_none e hL
          · exact ne_of_none e hL
        have k5 : Ext H (upd H4 L (.lst (E.map V.str ++ [.str q.1]))) := fun y o e => by
          rw [upd_ne (ne_of_none e hL)]
          exact (k3.trans k4) _ _ e
        refine ⟨E ++ [q.1], _, _, rfl, by rw [upd_same, List.map_append]; rfl, by rw [List.length_append]; show E.length + 1 ≤ i + 1; omega, by rw [hf]; omega, k5, ?_⟩
        rw [upd_ne nlL]
        rcases hl with e | e
        · rw [k4 _ _ (k3 _ _ e), k1 _ _ e]
        · rw [k4 _ _ (k3 _ _ e), k1 _ _ e]
    · rintro σ H2 ⟨E, v2, v3, rfl, l2, el, hf, k2, kl⟩
      rw [dl, List.drop_length] at hf
      refine ⟨_, rfl, l, xs, rfl, ?_, ?_⟩
      · exact (hl.ext k2).sq
      · have z := k H2 k2
        rw [hf, ← dl] at z
        exact z
end
end Lw

set_option Elab.async false
set_option linter.all false
set_option maxRecDepth 100000
set_option maxHeartbeats 4000000
/-! a caught exception, kept behind its suite -/
namespace Gx
open PySem PySem.Spec PyProof.Rows L2
/-- an exception of the class cls with the dict d, at a -/
def ExK (cls : Value) (d : Option Addr) (a : Addr) : HO := .ext fun h => ∃ (ob : Obj) (fv : Array Value), h.get? a = some ob ∧ Zc cls d ob ∧ ob.data = .fields fv
section
variable {X : Cx} {pins : List (Addr × Obj)} {σ : L2.St} {H : Hp} {s : Shared} {a : Addr} {ob : Obj} {fv : Array Value} {cls : Value} {d : Option Addr}
/-- what stands and is not tracked may be tracked, if it is no part of the frame and was not there at the entry -/
theorem track (J : Inv X pins σ H s) (g : s.heap.get? a = some ob) (z : Zc cls d ob) (df : ob.data = .fields fv) (free : H a = none) (n0 : X.s_0.heap.get? a = none) (nL : a ≠ X.env.locals) (np : ∀ p ∈ X.pn ++ pins, p.1 ≠ a) : Inv X pins σ (upd H a (ExK cls d a)) s := by
  have nc : ∀ x c, X.env.cells.lookup x = some c → c ≠ a := fun x c e q => by
    obtain ⟨v, o', h1, h2⟩ := J.cell x c e
    rw [q, g] at h1
    cases h1
    rw [df] at h2
    cases h2
  have B := J.base
  have far : ∀ b o, X.s_0.heap.get? b = some o → b ≠ a := fun b o e q => by rw [q, n0] at e; cases e
  have ok : ObjOk X.prog X.w (upd H a (ExK cls d a)) s.heap a (ExK cls d a) := ⟨⟨ob, fv, g, z, df⟩, ⟨ob, g⟩, fun h1 h2 ⟨o, v, q, r⟩ k => ⟨o, v, k o q, r⟩⟩
  have U : Un X.fs X.ex X.H_0 (upd H a (ExK cls d a)) X.s_0.heap s.heap :=
    { keep := B.keep, slot := B.slot, there := B.there
      free := fun b o e n x => (upd_ne (far b o e)).trans (B.free b o e n x)
      tups := fun b xs e => (upd_ne (ne_of_none (B.tups b xs e) free)).trans (B.tups b xs e)
      frzs := fun b o u e => (upd_ne (ne_of_none (B.frzs b o u e) free)).trans (B.frzs b o u e)
      tbls := fun b ps e => by
        obtain ⟨more, q⟩ := B.tbls b ps e
        exact ⟨more, (upd_ne (ne_of_none q free)).trans q⟩ }
  exact
    { ok := J.ok, os := J.os, bare := J.bare, base := U, loc := J.loc, cell := J.cell
      free := (upd_ne nL.symm).trans J.free
      freeC := fun x c e => (upd_ne (nc x c e)).trans (J.freeC x c e)
      pin := fun p hp => by
        obtain ⟨p1, p2, p3⟩ := J.pin p hp
        exact ⟨p1, (upd_ne (np p hp)).trans p2, p3⟩
      hok := J.hok.laidN (fun b u q => q) free ok
      len := J.len }
end
/-- the clause 'except x as n: y = n': every exception is caught; y is slot j, n slot i -/
def wKeep (K : PySem.W.Frag) (c : Value) (i j : Nat) (D : Ends) : WX := fun cls d σ H =>
  PySem.W.exmOne K cls c = some true ∧ ∀ a, H a = none → D.nx (((σ.set i (some (.ref a))).set j (some (.ref a))).set i none) (upd H a (ExK cls d a))
section
variable {X : Cx} {x n y : Str} {c : Value} {i j : Nat} {body : List Stmt} {np' py pn' pa pos pos' : Pos} {tb : WX → TS}
theorem ps_try_keep (hs : X.stack = X.env :: X.outer) (hf : X.env.frame = some X.env.locals) (hN : X.N.Nodup) (hi : X.N[i]? = some n) (hj : X.N[j]? = some y) (hln : X.env.kindOf n = some .local) (hly : X.env.kindOf y = some .local) (hc : Names X x c) (hex : X.ex = [])
    (hd : (n == ("__debug__" : Str)) = false := by decide) (hcd : (n == ("__classdict__" : Str)) = false := by decide)
    (hsw : swapsWith (.Name n pn') (some (.Name y py)) pa.line X.env = pure false := by rfl)
    (hb : ∀ (W : WX) (pn : List (Addr × Obj)) (xe : Value → Shared → Prop), Takes (X.tr pn xe) W → PassesOwn (model X.prog X.w) X.A X.env xe → PSs (X.tr pn xe) body (tb W)) :
    PS X (.Try body [.ExceptHandler (some (.Name x np')) (some n) [.Assign [.Name y py] (.Name n pn') pa] pos'] [] [] pos) (fun D σ H => tb (wKeep X.K c i j D) D σ H) := by
  refine ⟨fun pins s σ H D I h => wpAny_Try_except ?_⟩
  have fr1 : X.A.frames = some (X.env :: X.outer) := I.ok.frames.trans (congrArg some hs)
  refine wpAny_mono ((hb (wKeep X.K c i j D) (X.pn ++ pins) _ (fun u s' caught => ?_) PassesOwn.looking).run [] s σ H D (I.toTry _) h) (fun f s1 done => ?_) (fun _ _ z => z)
  · obtain ⟨a, B, sI, ps, σ1, H1, cls, dct, ue, I1, ground, slots, sky, fresh, osEq, bare1, mt, next⟩ := caught
    cases ue
    have I2 : Inv X pins σ1 H1 sI := I1.ofTry I.ok
    rw [hs] at sky ground
    refine Sky.land Zc.steady fr1 hf sky fun hA flA upA => ?_
    have IA : Inv X pins σ1 H1 { s' with heap := hA } := I2.landed (by rw [hs]; exact ground) flA.1 (slots.trans upA) osEq bare1
    obtain ⟨ob, fv, gA, zA, dA⟩ := flA.there
    have noFrame : a ∉ frs (X.env :: X.outer) := fun m => by
      obtain ⟨_, o', e', nf⟩ := flA.2.2.1.mem m
      rw [gA] at e'
      cases e'
      exact nf _ dA
    have notLoc : a ≠ X.env.locals := fun q => noFrame (List.mem_filterMap.mpr ⟨X.env, List.mem_cons_self, by rw [hf, q]⟩)
    have notFs : a ∉ X.fs := fun m => by
      obtain ⟨ev, m1, m2⟩ := List.mem_filterMap.mp m
      exact noFrame (List.mem_filterMap.mpr ⟨ev, List.mem_cons_of_mem _ m1, m2⟩)
    have groundA : B.get? a = none := flA.2.1
    -- nothing of before is at a
    have before : ∀ b o, sI.heap.get? b = some o → b ≠ a := fun b o e q => by
      rw [q] at e
      have := ground a o e noFrame
      rw [groundA] at this
      cases this
    have n0 : X.s_0.heap.get? a = none := by
      cases e : X.s_0.heap.get? a with
      | none => rfl
      | some o =>
        obtain ⟨o', e'⟩ := I2.base.there a o e (by rw [hex]; exact List.not_mem_nil)
        exact absurd rfl (before a o' e')
    have np : ∀ p ∈ X.pn ++ pins, p.1 ≠ a := fun p hp => before p.1 p.2 (I2.pin p hp).1
    refine wpAny_handleBy_cons (codeAny_handlers_test ?_) (by intro q; cases q)
    have SA := IA.suite gA dA fresh notLoc notFs
    have kind : PySem.W.Looks (model X.prog X.w) hA (typeOf (.ref a)) cls := fun A Q E s k q => wpAny_typeOf_ref (k _ _ gA) (by rw [zA.1]; exact q)
    have named : ∀ {Q : Value → Shared → Prop} {E : Value → Shared → Prop}, Q c { s' with heap := hA } → wpAny (model X.prog X.w) (X.A.mark (some (.ref a))) (eval (.Name x np') X.env) Q E { s' with heap := hA } := fun {Q E} q => by
      obtain ⟨m1, m2, m3⟩ := hc
      rcases m3 with m3 | ⟨m3, m4, m5⟩
      · exact ld_glob (X := X.suite a ((a, ob) :: (X.pn ++ pins))) SA m1 m3 q m2
      · exact ld_blt (X := X.suite a ((a, ob) :: (X.pn ++ pins))) SA m1 m3 m4 q m5 m2
    refine named ((PySem.W.exm_one (M := model X.prog X.w) IA.kIn kind mt).here ?_)
    refine codeAny_handlers_suite_as (HandSPX.lands_againZ flA fun hB flB upB => ?_)
    have IB : Inv X pins σ1 H1 { s' with heap := hB } := I2.landed (by rw [hs]; exact ground) flB.1 ((slots.trans upA).trans upB) osEq bare1
    obtain ⟨ob2, fv2, gB, zB, dB⟩ := flB.there
    have SB := IB.suite gB dB fresh notLoc notFs
    refine store_ok (X := X.suite a ((a, ob2) :: (X.pn ++ pins))) (v := .ref a) SB hN hi (.inl hln) rfl (fun s3 S3 => ?_) (.inr hln)
    have set2 : PS (X.suite a ((a, ob2) :: (X.pn ++ pins))) (.Assign [.Name y py] (.Name n pn') pa) (tAsg (tVar i) (gName j)) := ps_set hN hj (.inl hly) (pe_var hi (.inl hln) hd hcd) hsw (.inr hly)
    have goal1 : (tAsg (tVar i) (gName j)) { nx := fun σ' H' => σ' = (σ1.set i (some (.ref a))).set j (some (.ref a)) ∧ H' = H1, rt := fun _ _ => False, bk := fun _ _ => False, ct := fun _ _ => False } (σ1.set i (some (.ref a))) H1 := by
      have hlen : i < σ1.length := by
        rw [I2.len]
        exact (List.getElem?_eq_some_iff.mp hi).1
      exact ⟨_, List.getElem?_set_self hlen, rfl, rfl⟩
    have run1 := (pss_one set2).run [] s3 _ H1 _ S3 goal1
    refine wpAny_mono run1 (fun f s4 q => ?_) (fun _ _ z => False.elim z)
    cases f with
    | next =>
      obtain ⟨σ4, H4, S4, e1, e2⟩ := q
      rw [e1, e2] at S4
      refine gone_ok (X := X.suite a ((a, ob2) :: (X.pn ++ pins))) S4 hN hi hln fun s5 S5 => ?_
      have pin5 := S5.pin (a, ob2) (List.mem_append_left _ List.mem_cons_self)
      have J5 : Inv X pins (((σ1.set i (some (.ref a))).set j (some (.ref a))).set i none) H1 s5 := S5.unsuite I.ok
      exact ⟨_, _, track J5 pin5.1 zB dB fresh n0 notLoc np, next a fresh⟩
    | brk =>
      obtain ⟨_, _, _, z⟩ := q
      exact False.elim z
    | cont =>
      obtain ⟨_, _, _, z⟩ := q
      exact False.elim z
    | ret u =>
      obtain ⟨_, _, _, _, _, z⟩ := q
      exact False.elim z
  · cases f with
    | next =>
      obtain ⟨σ2, H2, J, q⟩ := done
      exact wpAny_execs_nil ⟨σ2, H2, J.ofTry I.ok, q⟩
    | brk =>
      obtain ⟨σ2, H2, J, q⟩ := done
      exact ⟨σ2, H2, J.ofTry I.ok, q⟩
    | cont =>
      obtain ⟨σ2, H2, J, q⟩ := done
      exact ⟨σ2, H2, J.ofTry I.ok, q⟩
    | ret u =>
      obtain ⟨v, σ2, H2, J, r, q⟩ := done
      exact ⟨v, σ2, H2, J.ofTry I.ok, r, q⟩
end
/-! isinstance and a field of it -/
section
variable {X : Cx} {pins : List (Addr × Obj)} {σ : L2.St} {H : Hp} {s : Shared} {a D : Addr} {d : Option Addr}
/-- its own dict, where it has one -/
def DicAt (H : Hp) : Option Addr → Prop
  | none => True
  | some dd => ∃ fs, H dd = some (.xd fs)
theorem inst_of (I : Inv X pins σ H s) (e : H a = some (ExK (.ref D) d a)) (k : DicAt H d) : ∃ ob od, PySem.W.InstAt s.heap a ob D od := by
  obtain ⟨⟨ob, fv, g, z, df⟩, _⟩ := I.hok a _ e
  have nc : PySem.W.notCls ob := by
    unfold PySem.W.notCls
    rw [df]
  cases d with
  | none => exact ⟨ob, none, g, z.1, nc, by rw [z.2]; exact True.intro⟩
  | some dd =>
    obtain ⟨fs, hd⟩ := k
    obtain ⟨mA, hns, _⟩ := (show ObjOk X.prog X.w H s.heap dd (.xd fs) from I.hok dd _ hd)
    obtain ⟨o, ho, _⟩ := lookIn_ns hns
    exact ⟨ob, some o, g, z.1, nc, by rw [z.2]; exact ho⟩
theorem kit_exc (T : ExcC X.K D) {ob : Obj} {od : Option Obj} : PySem.W.KitX X.K (.ref a) (.ref D) (fun h => PySem.W.InstAt h a ob D od) := by
  refine PySem.W.kitx_exc ?_ T.hg T.hk T.hs T.ha T.hn T.ht T.hm
  obtain ⟨cd, h, _⟩ := PySem.W.any_some T.hd
  rw [h]
  rfl
/-- isinstance(e, c), e a kept exception -/
def rIsX (K : PySem.W.Frag) : List V → Hp → VK → Prop := fun xs H Q => ∃ (a D : Addr) (d : Option Addr) (c : V) (u : Value) (b : Bool), xs = [.ref a, c] ∧ H a = some (ExK (.ref D) d a) ∧ DicAt H d ∧ ExcC K D ∧ ClsV c u ∧ PySem.W.kitOne K (.ref D) u = some b ∧ Q (.bl b) H
theorem call_isX : CallR X (.builtin "isinstance") (rIsX X.K) := by
  intro pins s σ H xs us Q I r h
  obtain ⟨a, D, d, c, u, b, rfl, e, k, T, cv, kb, q⟩ := h
  obtain ⟨u1, u2, rfl, r1, r2⟩ := vals2 r
  obtain rfl := cv.eq r2
  cases (show u1 = Value.ref a from r1)
  obtain ⟨ob, od, J⟩ := inst_of I e k
  exact PySem.W.kia_one (kit_exc T) I.kIn J kb (fun z => nomatch z) fun tk => ⟨.bl b, H, I.tok tk, rfl, q⟩
/-- isinstance(e, (c, ..)) -/
def rIsXT (K : PySem.W.Frag) : List V → Hp → VK → Prop := fun xs H Q => ∃ (a D : Addr) (d : Option Addr) (tp : Addr) (cs : List V) (us : List Value) (b : Bool), xs = [.ref a, .ref tp] ∧ H a = some (ExK (.ref D) d a) ∧ DicAt H d ∧ ExcC K D ∧ H tp = some (.tup cs) ∧ Paired ClsV cs us ∧ PySem.W.kitAny K (.ref D) us = some b ∧ Q (.bl b) H
theorem call_isXT : CallR X (.builtin "isinstance") (rIsXT X.K) := by
  intro pins s σ H xs us Q I r h
  obtain ⟨a, D, d, tp, cs, ws, b, rfl, e, k, T, ht, cv, kb, q⟩ := h
  obtain ⟨u1, u2, rfl, r1, r2⟩ := vals2 r
  cases (show u1 = Value.ref a from r1)
  cases (show u2 = Value.ref tp from r2)
  obtain ⟨ob, od, J⟩ := inst_of I e k
  obtain ⟨_, its, rv, o, h1, h2, n, h3⟩ := (show ObjOk X.prog X.w H s.heap tp (.tup cs) from I.hok tp _ ht)
  obtain rfl := ClsV.all cv rv
  obtain ⟨oc, od', dt, sl⟩ := o
  dsimp only at h2 h3
  rw [h2, h3] at h1
  exact PySem.W.kia_tup (kit_exc T) I.kIn J h1 kb (fun z => nomatch z) fun tk => ⟨.bl b, H, I.tok tk, rfl, q⟩
/-- e.f, e a kept exception of an own class -/
def tXk (K : PySem.W.Frag) (te : TE) (f : Str) : TE := fun σ H Q => te σ H fun x H1 => ∃ (a C dd : Addr) (fs : List (Str × V)) (v : V), x = .ref a ∧ H1 a = some (ExK (.ref C) (some dd) a) ∧ H1 dd = some (.xd fs) ∧ XfC K C ∧ PySem.W.findIn K (.ref C) f = some none ∧ fs.lookup f = some v ∧ Q v H1
theorem pe_xk {e : Expr} {te : TE} {pos : Pos} {f : Str} (he : PE X e te) (hb : attributeBase e f X.env (eval e X.env) = eval e X.env := by rfl) : PE X (.Attribute e f pos) (tXk X.K te f) := by
  refine ⟨fun pins s σ H Q I h => attr_of hb (thn (he.run pins s σ H _ I h) fun u s1 hu => ?_)⟩
  obtain ⟨x, H1, I1, rx, a, C, dd, fs, v, rfl, ea, ed, T, nf, lf, q⟩ := hu
  cases (show u = Value.ref a from rx)
  obtain ⟨⟨ob, fv, g, z, df⟩, _⟩ := I1.hok a _ ea
  obtain ⟨mA, hns, rl⟩ := (show ObjOk X.prog X.w H1 s1.heap dd (.xd fs) from I1.hok dd _ ed)
  obtain ⟨o, ho, look⟩ := lookIn_ns hns
  obtain ⟨w, hw, rw'⟩ := RelO.some_of (v := v) (o := mA f) (by rw [← lf]; exact rl f)
  have J : PySem.W.InstAt s1.heap a ob C (some o) := ⟨g, z.1, by unfold PySem.W.notCls; rw [df], by rw [z.2]; exact ho⟩
  exact HandSPX.exc_get I1.kIn J T.ga T.gg T.exC (PySem.W.findObj_own T.hdC nf rfl (by rw [look, hw])) (handed_of rw') ⟨v, H1, I1.tok _, rw', q⟩
end
/-! C.m(e, ..), m static, in a try's body -/
section
variable {X : Cx} {CX : CXT} {k : Nat} {C g p : Addr} {mc : Value} {fd : FuncData} {ps : List Str} {sp : Sp} {E : L2.St → XK} {o e : Expr} {es : List Expr} {m : Str} {pos apos : Pos} {ta : TE} {t : TA} {pl : Sem Bool}
def tSMethS (C : Addr) (sp : Sp) (E : L2.St → XK) (ta : TE) (t : TA) : TE := fun σ H Q => ta σ H fun x H1 => x = .ref C ∧ t σ H1 fun vs H2 => sp vs H2 Q (E σ)
theorem pe_smethS (he : PE X o ta) (r : ClX.CRead X.K C mc) (c : Go.SMet X.K C mc m p g) (hk : PySem.W.keepIn X.K (.ref g) = true) (F : FnOk X.prog X.w X.K X.mg X.base CX k g fd ps sp) (hr : Room k X.A) (hb : Binds X.K fd ps []) (hx : ∀ σ, PassesAt CX X σ (E σ)) (ha : PA X (e :: es) t)
    (hst : starEach (e :: es) X.env = (false, eval e X.env) :: starEach es X.env := by rfl) (hpl : (backTo pos (starEach es X.env)).any (·.1) = false := by rfl)
    (ht : eval (.Call (.Attribute o m apos) (e :: es) [] pos) X.env = (do
      let ov ← eval o X.env
      standAt apos.atName
      let (f, first) ← holding [ov] (getMethod ov m pl)
      callWith pos f first (backTo pos (starEach (e :: es) X.env)) (backToKw pos (keywordEach [] X.env))) := by rfl) :
    PE X (.Call (.Attribute o m apos) (e :: es) [] pos) (tSMethS C sp E ta t) := by
  refine ⟨fun pins s σ H Q I h => PySem.W.methodCall_KW (pl := pl) (thn (he.run pins s σ H _ I h) fun u s1 hu => ?_) ht⟩
  obtain ⟨x, H1, I1, rx, rfl, q⟩ := hu
  cases (show u = Value.ref C from rx)
  refine Go.getsm_ok I1 r c fun s2 I2 => PySem.W.callWith_K (first := []) (h₀ := X.base) I2.ok.mod.kin hk (thn (ha.run pos pins s2 σ H1 _ I2 q) fun us s3 hv => ?_) hst hpl
  obtain ⟨vs, H2, I3, rv, q2⟩ := hv
  exact ⟨I3.kIn, run_fnS (us := us) (vs := vs) F hr hb (hx σ) I3 rv q2⟩
end
end Gx

set_option Elab.async false
set_option linter.all false
set_option maxRecDepth 100000
set_option maxHeartbeats 4000000
namespace Lw
open L2 hiding Ext
open PySem PySem.Spec PyProof.Rows Gn Gr Gk Go Gt Gf Gu Gx Gdo
/-! ### Forest(..) of any value -/
/-- the error InvalidForest -/
structure XF (K : PySem.W.Frag) (mg : Str → Option Value) (CF : Addr) : Prop where
  xF : PySem.W.excIn K CF [.type "ValueError", .type "Exception", .type "BaseException", .type "object"] "ValueError.__new__" = true
  gF : mg "InvalidForest" = some (.ref CF)
  kF : PySem.W.keepIn K (.ref CF) = true
  bF : PySem.W.subIn K (.ref CF) (.type "BaseException") = some true
  tF : PySem.W.typeIn K (.ref CF) = some (.type "type")
def goodS : Option (List PyData) → Option (List FRow)
  | some ds => if 1 ≤ ds.length ∧ ds.length ≤ 8 then rowsM [] ds else none
  | none => none
variable {d g : Addr} {H H' : Hp}
theorem rowsM_at : ∀ {ds : List PyData} {xs : List V} {rs : List FRow} {E : List Str}, DkAll d g H xs ds → rowsM E ds = some rs → RowsAt H xs rs ∧ GoodF E rs ∧ rs.length = ds.length
  | [], _, rs, E, .nil, h => by
    cases h
    exact ⟨⟨rfl, fun i r h => by simp at h⟩, trivial, rfl⟩
  | x :: ds, _, rs, E, .cons (v := v) (vs := vs) h1 h2, h => by
    unfold rowsM at h
    cases hq : rowM E x with
    | none => rw [hq] at h; cases h
    | some q =>
      rw [hq] at h
      obtain ⟨rs', e1, rfl⟩ := Option.map_eq_some_iff.mp h
      obtain ⟨a1, a2, a3⟩ := rowsM_at h2 e1
      obtain ⟨a, v2, rfl, ha, p, hp, ep⟩ := h1.row hq
      obtain ⟨rfl, hm⟩ := hp.par ep
      obtain ⟨_, _, n1, n2, _⟩ := rowM_some hq
      refine ⟨⟨by rw [List.length_cons, List.length_cons, a1.1], fun i r hr => ?_⟩, ⟨⟨n1, n2, hm⟩, a2⟩, by rw [List.length_cons, List.length_cons, a3]⟩
      cases i with
      | zero =>
        cases (Option.some.inj hr : q = r)
        exact ⟨a, rfl, ha⟩
      | succ i =>
        obtain ⟨p', b1, b2⟩ := a1.2 i r (by simpa using hr)
        exact ⟨p', by simpa using b1, b2⟩
/-- a value that is no list and no tuple, whatever draws leave alone -/
inductive Ot (d g : Addr) (H : Hp) : V → String → Prop
  | non : Ot d g H .non "NoneType"
  | bl (b : Bool) : Ot d g H (.bl b) "bool"
  | int (i : Int) : Ot d g H (.int i) "int"
  | str (x : Str) : Ot d g H (.str x) "str"
  | dct {a : Addr} {kvs : List (Key × V)} (h : H a = some (.dK kvs)) (n1 : a ≠ d) (n2 : a ≠ g) : Ot d g H (.ref a) "dict"
  | raw {a : Addr} {es : Array DictEntry} {ep : Nat} (h : H a = some (RawO a es ep)) (n1 : a ≠ d) (n2 : a ≠ g) : Ot d g H (.ref a) "dict"
theorem Ot.kp {v : V} {t : String} (h : Ot d g H v t) (k : Kp d g H H') : Ot d g H' v t := by
  cases h with
  | non => exact .non
  | bl b => exact .bl b
  | int i => exact .int i
  | str x => exact .str x
  | dct h n1 n2 => exact .dct (k _ _ n1 n2 h) n1 n2
  | raw h n1 n2 => exact .raw (k _ _ n1 n2 h) n1 n2
theorem Ot.ty {K : PySem.W.Frag} {v : V} {t : String} (h : Ot d g H v t) : TyD K H v (.type t) ∧ kitB t "list" = some false ∧ kitB t "tuple" = some false := by
  cases h with
  | non => exact ⟨.x TyT.non.x, by decide +kernel, by decide +kernel⟩
  | bl b => exact ⟨.x (TyT.bl b).x, by decide +kernel, by decide +kernel⟩
  | int i => exact ⟨.x (TyT.int i).x, by decide +kernel, by decide +kernel⟩
  | str x => exact ⟨.x (TyT.str x).x, by decide +kernel, by decide +kernel⟩
  | dct h => exact ⟨.x (TyT.dct h).x, by decide +kernel, by decide +kernel⟩
  | raw h => exact ⟨.raw h, by decide +kernel, by decide +kernel⟩
inductive Sk (d g : Addr) (H : Hp) : V → Option (List PyData) → Prop
  | seq {a : Addr} {xs : List V} {ds : List PyData} (h : ClAt H a xs) (n1 : a ≠ d) (n2 : a ≠ g) (hd : DkAll d g H xs ds) (hA : ∀ x ∈ ds, AscD x) (hl : ds.length ≤ 100) : Sk d g H (.ref a) (some ds)
  | oth {v : V} {t : String} (h : Ot d g H v t) : Sk d g H v none
theorem ty_seqX {K : PySem.W.Frag} {H : Hp} {cl : Addr} {xs : List V} (h : ClAt H cl xs) : ∃ ty, TyX K H (.ref cl) ty ∧ PySem.W.kitAny K ty [.type "list", .type "tuple"] = some true := by
  rcases h with h | h
  · exact ⟨_, (TyT.lst h).x, kitAny_cons (b := true) (kit_ty (by decide +kernel)) (fun z => by cases z) (fun _ => rfl)⟩
  · exact ⟨_, (TyT.tup h).x, kitAny_cons (b := false) (kit_ty (by decide +kernel)) (fun _ => kitAny_cons (b := true) (kit_ty (by decide +kernel)) (fun z => by cases z) (fun _ => rfl)) (fun z => by cases z)⟩
section
variable {P : Program} {w : World} {K : PySem.W.Frag} {mg : Str → Option Value} {base : Heap} {C fI CF : Addr} {mc : Value}
abbrev nInit : List Str := ["self", "rows", "name", "parent"]
def spInitX (C CF : Addr) : Sp := fun vs H Q E => ∃ (x dx d g : Addr) (v : V) (s : Option (List PyData)), vs = [.ref x, v] ∧ H x = some (.ins C dx []) ∧ Sk d g H v s ∧
  (∀ rs, goodS s = some rs → ∀ H' D, (∀ a o, a ≠ x → H a = some o → H' a = some o) → H' x = some (.ins C dx [("_parents", .ref D)]) → H' D = some (.dK (kvs rs)) → Q .non H') ∧
  (goodS s = none → ∀ H', Ext H H' → E (.ref CF) none H')
theorem scInitX : FnScope nInit ["self", "rows"] (defScope sInit) := ⟨rfl, rfl, rfl, by decide +kernel, rfl, by decide +kernel, by decide +kernel⟩
theorem ok_initX {f fW : Addr} {fd fdW : FuncData} (F : Fun K "__init__" "Forest.__init__" sInit f fd) (T : Names mg) (Z : FC K mg C fI mc) (Y : XF K mg CF) (GW : FnOk P w K mg base CX0 3 fW fdW ["rows"] spWrongX) (bW : Binds K fdW ["rows"] []) (kW : PySem.W.keepIn K (.ref fW) = true) (mW : mg "first_wrong" = some (.ref fW)) :
    FnOk P w K mg base (L2.CX P w) 4 f fd ["self", "rows"] (spInitX C CF) := by
  refine F.okX scInitX (fun vs H Q E h => ?_) (fun cdv A outer s H vs Q E hr h => ?_)
  · obtain ⟨x, dx, d, g, v, s, rfl, _⟩ := h
    rfl
  · obtain ⟨x, dx, d, g, v, s, rfl, hx, hS, k, kf⟩ := h
    have hu := hu_of hr
    have nd := scInitX.nd
    obtain ⟨um, hM⟩ := Z.most
    refine ⟨_, pss_cons (ps_if (pt_not (pt_val (pe_callB Gdo.call_isDT rfl T.isi (by decide +kernel) (pa_cons (pv 1) (pa_cons (pe_tup (pa_cons (pe_bltn (v := .ty "list") rfl T.list (by decide +kernel) rfl) (pa_cons (pe_bltn (v := .ty "tuple") rfl T.tuple (by decide +kernel) rfl) pa_nil))) pa_nil))))) (pss_one (ps_raise rfl (takes_of rfl rfl rfl rfl) (pmk_own PySem.F.excBase_ValueError Y.xF Y.gF Y.kF (raises_own Y.bF Y.tF) rfl))) pss_nil)
(pss_cons (ps_if (PW.pt (pw_or (pt_cmpR op_lt (pe_callB call_len_seq rfl T.len PySem.boot_len (pa_cons (pv 1) pa_nil)) pe_int (nomark _)) (pw_or1 (pt_cmpR op_gt (pe_callB call_len_seq rfl T.len PySem.boot_len (pa_cons (pv 1) pa_nil)) (ClX.pe_cval (pe_glob (v := .ref C) rfl Z.g rfl)) (nomark _))))) (pss_one (ps_raise rfl (takes_of rfl rfl rfl rfl) (pmk_own PySem.F.excBase_ValueError Y.xF Y.gF Y.kF (raises_own Y.bF Y.tF) rfl))) pss_nil)
(pss_cons (ps_if (pt_cmpR op_lt (pe_call GW hr rfl mW kW bW .nil pass0 (pa_cons (pv 1) pa_nil)) (pe_callB call_len_seq rfl T.len PySem.boot_len (pa_cons (pv 1) pa_nil)) (nomark _)) (pss_one (ps_raise rfl (takes_of rfl rfl rfl rfl) (pmk_own PySem.F.excBase_ValueError Y.xF Y.gF Y.kF (raises_own Y.bF Y.tF) rfl))) pss_nil)
(pss_one (ps_fld (pv 0) (pe_dc (own := [("name", 2), ("parent", 3)]) (g := gTup K 2 (gCons (gName 2) (gCons (gName 3) gNil))) (tt := tYes) rfl nd (pi_seqV (pv 1)) (blkOk_by (N := nInit) (sc := defScope sInit) (by decide +kernel))
        (fun _ _ _ _ _ => by exact (pg_tup rfl (pgs_cons (pg_name (i := 2) nd rfl (.inl rfl)) (pgs_cons (pg_name (i := 3) nd rfl (.inl rfl)) pgs_nil)))) (fun _ _ _ _ _ => pts_nil) (fun _ _ _ _ _ => pv 2) (fun _ _ _ _ _ => pv 3)) rfl)))), ?_⟩
    refine ⟨_, rfl, by show 2 ≤ sizeLine; decide, fun tp htp => ?_⟩
    have hx1 := new_same (o := .tup [.ty "list", .ty "tuple"]) htp _ _ hx
    have k1 : Ext H (upd H tp (.tup [.ty "list", .ty "tuple"])) := Ext.new htp
    have ht1 : (upd H tp (.tup [.ty "list", .ty "tuple"])) tp = some (.tup [.ty "list", .ty "tuple"]) := upd_same
    generalize upd H tp (.tup [.ty "list", .ty "tuple"]) = H1 at hx1 k1 ht1 ⊢
    cases hS with
    | @oth v t h =>
      obtain ⟨h0, h1, h2⟩ := Ot.ty (K := K) (h.kp (d := d) (g := g) fun a o _ _ e => k1 _ _ e)
      refine ⟨_, tp, _, _, [.type "list", .type "tuple"], false, rfl, ht1, .cons (.ty _) (.cons (.ty _) .nil), h0, kitAny_cons (b := false) (kit_ty h1) (fun _ => kitAny_cons (b := false) (kit_ty h2) (fun _ => rfl) (fun z => by cases z)) (fun z => by cases z), false, rfl, iteT ?_⟩
      exact kf rfl _ k1
    | @seq l xs ds hl n1 n2 hd hA h100 =>
      have hl1 := hl.ext k1
      have dl := DkAll.len hd
      obtain ⟨ty, hty, hkit⟩ := ty_seqX (K := K) hl1
      refine ⟨_, tp, _, _, [.type "list", .type "tuple"], true, rfl, ht1, .cons (.ty _) (.cons (.ty _) .nil), .x hty, hkit, true, rfl, iteF ?_⟩
      refine ⟨_, rfl, l, _, rfl, hl1.sq, _, _, rfl, rfl, _, rfl, ?_⟩
      refine ite2 (fun e => ?_) (fun e => ?_)
      · have e : (xs.length : Int) < 1 := of_decide_eq_true e
        refine iteT (kf ?_ _ k1)
        unfold goodS
        exact if_neg (by omega)
      have e0 : ¬ (xs.length : Int) < 1 := of_decide_eq_false (Bool.eq_false_iff.mpr e)
      refine ⟨_, rfl, l, _, rfl, hl1.sq, C, mc, _, um, rfl, Z.cr, hM, _, _, rfl, rfl, _, rfl, ?_⟩
      refine ite2 (fun e => ?_) (fun e => ?_)
      · have e : (8 : Int) < xs.length := of_decide_eq_true e
        refine kf ?_ _ k1
        unfold goodS
        exact if_neg (by omega)
      have e8 : ¬ (8 : Int) < xs.length := of_decide_eq_false (Bool.eq_false_iff.mpr e)
      have gs : goodS (some ds) = rowsM [] ds := by
        unfold goodS
        exact if_pos (by omega)
      refine ⟨_, rfl, l, d, g, xs, ds, rfl, hl1, DkAll.ext k1 hd, hA, h100, fun H2 k2 => ?_⟩
      have hl2 := hl1.ext k2
      have hx2 := k2 _ _ hx1
      have fl := firstM_le ds []
      have fa := firstM_all ds []
      cases hr2 : rowsM [] ds with
      | none =>
        rw [hr2] at fa gs
        have ne : firstM [] ds ≠ ds.length := fun z => by have := fa.mp z; cases this
        refine ⟨_, rfl, l, _, rfl, hl2.sq, _, _, rfl, rfl, _, rfl, iteS (by omega) ?_⟩
        exact kf gs _ (k1.trans k2)
      | some rs =>
        rw [hr2] at fa gs
        have eq : firstM [] ds = ds.length := fa.mpr rfl
        obtain ⟨hR, hg, rl⟩ := rowsM_at hd hr2
        refine ⟨_, rfl, l, _, rfl, hl2.sq, _, _, rfl, rfl, _, rfl, iteN (by omega) ?_⟩
        refine ⟨l, xs, rfl, hl2, fun J wJ D hD => ?_⟩
        have hl8 : rs.length ≤ 8 := by omega
        have xD : H2 D = none := hD
        refine dc_it wJ (fun i H' => H' D = some (.dK (kvs (rs.take i))) ∧ Ext H2 H' ∧ H' l = H2 l) ⟨upd_same, Ext.new hD, upd_ne (by rcases hl2 with e | e <;> exact ne_of_none e hD)⟩ (fun i H' _ ⟨_, _, e⟩ => e) ?_ ?_
        · rintro i y H3 H4 hi ⟨d3, k3, kl3⟩ ⟨rfl, hy⟩
          have hir : i < rs.length := by omega
          obtain ⟨p, h1, h2⟩ := hR.2 i _ (List.getElem?_eq_getElem hir)
          rw [h1] at hy
          cases hy
          have ok := good_at hg (List.getElem?_eq_getElem hir)
          rw [List.nil_append] at ok
          refine ⟨p, _, rfl, SqT.of (k3 _ _ (k2 _ _ (k1 _ _ h2))), rfl, _, _, rfl, _, _, rfl, rfl, rfl, yes_of ?_⟩
          refine ⟨_, rfl, _, rfl, kvs (rs.take i), (Sum.inr rs[i].1 : Key), rfl, d3, ?_, ?_, (fun a o ha => ?_), ?_⟩
          · rw [sizeLine_eq, kvs, List.length_map, List.length_take]
            omega
          · rw [upd_same, putK_new _ (kvs_none ok.2.1)]
            show _ = some (HO.dK ((rs.take (i + 1)).map kvOf))
            rw [take_succ_map kvOf (List.getElem?_eq_getElem hir)]
            rfl
          · rw [upd_ne (ne_of_none ha hD)]
            exact k3 _ _ ha
          · rw [upd_ne (by rcases hl2 with e | e <;> exact ne_of_none e hD)]
            exact kl3
        · rintro H3 ⟨d3, k3, kl3⟩
          rw [dl, ← rl, List.take_length] at d3
          refine ⟨_, rfl, x, C, dx, [], rfl, k3 _ _ hx2, Z.cl, Z.nP, by decide, ?_⟩
          refine k rs gs _ D (fun a o na ha => ?_) upd_same ?_
          · rw [upd_ne na]
            exact k3 _ _ (k2 _ _ (k1 _ _ ha))
          · rw [upd_ne (ne_of_none hx2 hD).symm]
            exact d3
end
end Lw

set_option Elab.async false
set_option linter.all false
set_option maxRecDepth 100000
set_option maxHeartbeats 4000000
namespace Lw
open L2 hiding Ext
open PySem PySem.Spec PyProof.Rows Gn Gr Gk Go Gt Gf Gu
theorem takeS {α : Type} {l : List α} {i : Nat} {c : α} (h : l[i]? = some c) : l.take (i + 1) = l.take i ++ [c] := by
  rw [List.take_add_one, h]; rfl
section
variable {P : Program} {w : World} {K : PySem.W.Frag} {mg : Str → Option Value} {base : Heap}
/-! ### _law_is_name, _law_is_good -/
abbrev nLName : List Str := ["_law_value", "_law_letter"]
theorem scLName : FnScope nLName ["_law_value"] (defScope sLIsName) := ⟨rfl, rfl, rfl, by decide +kernel, rfl, by decide +kernel, by decide +kernel⟩
theorem ok_lname {f : Addr} {fd : FuncData} (F : Fun K "_law_is_name" "_law_is_name" sLIsName f fd) (T : Names mg) : FnOk P w K mg base CX0 1 f fd ["_law_value"] spName := by
  refine F.ok scLName (fun vs H Q E h => ?_) (fun cdv A outer s H vs Q E hr h => ?_)
  · obtain ⟨v, r, rfl, _⟩ := h
    rfl
  · obtain ⟨v, r, rfl, hv, k⟩ := h
    have nd := scLName.nd
    refine ⟨_, pss_cons (ps_if (PW.pt (pw_or (pt_not (pt_val (pe_callB call_isi rfl T.isi (by decide +kernel) (pa_cons (pv 0) (pa_cons (pe_bltn (v := .ty "str") rfl T.str (by decide +kernel) rfl) pa_nil))))) (pw_or1 (pt_not (pt_chain op_le op_le pe_int (pe_callB call_len_str rfl T.len PySem.boot_len (pa_cons (pv 0) pa_nil)) pe_int))))) (pss_one (ps_ret pe_bl)) pss_nil)
(pss_one (ps_ret (pe_cmpR (Gj.op_eqE hr.units) (pe_lc (own := [("_law_letter", 1)]) (g := gName 1) rfl nd (pi_str (pv 0)) (blkOk_by (N := nLName) (sc := defScope sLIsName) (by decide +kernel))
(fun _ _ _ _ _ => pg_name (i := 1) nd rfl (.inl rfl)) (fun _ _ _ _ _ => pts_one (pt_cmpR op_notIn_sign (pv 1) pe_str rfl)) (fun _ _ _ _ _ => pv 1)) (pe_lst pa_nil) (nomark _)))), ?_⟩
    rcases hv with ⟨x, rfl, hx, rfl⟩ | ⟨rfl, hv⟩
    · refine ⟨_, rfl, _, _, _, _, true, rfl, .ty _, (TyT.str x).x, kit_ty (by decide +kernel), true, rfl, iteF ?_⟩
      have hx1 := hx.1
      unfold nameOk at k
      refine ⟨_, rfl, x, rfl, by rw [sizeLine_eq]; omega, _, _, rfl, rfl, _, rfl, ?_⟩
      by_cases n1 : 1 ≤ x.length
      · rw [decide_eq_true n1, Bool.true_and] at k
        refine iteS (by omega) ?_
        refine ⟨_, _, rfl, rfl, _, rfl, ?_⟩
        by_cases n2 : x.length ≤ 8
        · rw [decide_eq_true n2, Bool.true_and] at k
          refine iteNS (by omega) ?_
          refine ⟨_, rfl, x, rfl, fun D hD => ?_⟩
          refine lc_it walk_str (fun i H' => H' D = some (.lst (((x.cps.toList.take i).filter fun c => !isL c).map fun c => V.str ⟨#[c]⟩)) ∧ Ext H H') ⟨upd_same, Ext.new hD⟩ (fun _ _ _ _ => trivial) ?_ ?_
          · rintro i y H1 H2 hi ⟨h1, h2⟩ ⟨rfl, c, hc, rfl⟩
            refine ⟨rfl, ?_⟩
            refine ⟨_, rfl, c, _, rfl, rfl, _, rfl, ?_⟩
            show if (!isL c) = true then _ else _
            have lx := len_cps x
            cases hl : isL c with
            | true =>
              refine iteF ⟨?_, h2⟩
              rw [takeS (cps_at hc), List.filter_append, List.filter_cons_of_neg (by rw [hl]; simp), List.filter_nil, List.append_nil]
              exact h1
            | false =>
              refine iteT ⟨_, rfl, _, h1, ?_, ?_, fun a o e => by rw [upd_ne (ne_of_none e hD)]; exact h2 a o e⟩
              · have := List.length_filter_le (fun c => !isL c) (x.cps.toList.take i)
                rw [List.length_take] at this
                exact small1000 (by rw [List.length_map]; omega)
              · rw [upd_same, takeS (cps_at hc), List.filter_append, List.filter_cons_of_pos (by rw [hl]; rfl), List.filter_nil, List.map_append]
                rfl
          · rintro H1 ⟨h1, h2⟩
            rw [← cps_len, List.take_length] at h1
            refine ⟨Nat.zero_le _, fun z hz => ?_⟩
            refine ⟨D, z, _, rfl, rfl, SqL.of (new_same hz _ _ h1), SqL.of upd_same, ?_⟩
            have e : (((x.cps.toList.filter fun c => !isL c).map fun c => V.str ⟨#[c]⟩)).isEmpty = x.cps.toList.all isL := by
              rw [List.isEmpty_map]
              generalize x.cps.toList = l
              induction l with
              | nil => rfl
              | cons c r ih =>
                cases hc : isL c with
                | true => rw [List.filter_cons_of_neg (by rw [hc]; simp), ih, List.all_cons, hc, Bool.true_and]
                | false => rw [List.filter_cons_of_pos (by rw [hc]; rfl), List.all_cons, hc]; rfl
            show Q (.bl _) _
            rw [e]
            exact k _ (h2.trans (Ext.new hz))
        · rw [decide_eq_false n2, Bool.false_and] at k
          rw [decide_eq_false (by omega : ¬ (x.length : Int) ≤ 8)]
          exact iteT (k H Ext.refl)
      · rw [decide_eq_false n1, Bool.false_and] at k
        exact iteN (by omega) ⟨_, rfl, iteT (k H Ext.refl)⟩
    · rcases hv with h | h | h | h | h | h
      · exact ⟨_, rfl, _, _, _, _, false, rfl, .ty _, h.x, kit_ty (by decide +kernel), false, rfl, iteT (k H Ext.refl)⟩
      · exact ⟨_, rfl, _, _, _, _, false, rfl, .ty _, h.x, kit_ty (by decide +kernel), false, rfl, iteT (k H Ext.refl)⟩
      · exact ⟨_, rfl, _, _, _, _, false, rfl, .ty _, h.x, kit_ty (by decide +kernel), false, rfl, iteT (k H Ext.refl)⟩
      · exact ⟨_, rfl, _, _, _, _, false, rfl, .ty _, h.x, kit_ty (by decide +kernel), false, rfl, iteT (k H Ext.refl)⟩
      · exact ⟨_, rfl, _, _, _, _, false, rfl, .ty _, h.x, kit_ty (by decide +kernel), false, rfl, iteT (k H Ext.refl)⟩
      · exact ⟨_, rfl, _, _, _, _, false, rfl, .ty _, h.x, kit_ty (by decide +kernel), false, rfl, iteT (k H Ext.refl)⟩
end
end Lw

set_option Elab.async false
set_option linter.all false
set_option maxRecDepth 100000
set_option maxHeartbeats 4000000
namespace Lw
open L2 hiding Ext
open PySem PySem.Spec PyProof.Rows Gn Gr Gk Go Gt Gf Gu
theorem rowsM_no {E : List Str} {x : PyData} {r : List PyData} (h : rowM E x = none) : rowsM E (x :: r) = none := by
  unfold rowsM; rw [h]
theorem rowsM_yes {E : List Str} {x : PyData} {r : List PyData} {q : FRow} (h : rowM E x = some q) : (rowsM E (x :: r)).isSome = (rowsM (E ++ [q.1]) r).isSome := by
  conv => lhs; unfold rowsM
  rw [h]
  exact Option.isSome_map ..
theorem goodS_in {ds : List PyData} (h1 : 1 ≤ ds.length) (h8 : ds.length ≤ 8) : goodS (some ds) = rowsM [] ds := by
  unfold goodS
  exact if_pos ⟨h1, h8⟩
theorem goodS_out {ds : List PyData} (h : ¬ (1 ≤ ds.length ∧ ds.length ≤ 8)) : goodS (some ds) = none := by
  unfold goodS
  exact if_neg h
variable {d g : Addr} {H H' : Hp}
/-- name and parent of a pair, seen one by one -/
theorem rowL_two {E : List Str} {x1 x2 : PyData} : rowL E [x1, x2] = (nmM E x1).bind fun s => (parM E x2).map fun q => (s, q) := by
  unfold rowL
  dsimp only
  cases nmM E x1 with
  | none => rfl
  | some s => cases parM E x2 <;> rfl
theorem rowM_two {E : List Str} {x1 x2 : PyData} : rowM E (.tuple [x1, x2]) = (nmM E x1).bind fun s => (parM E x2).map fun q => (s, q) := rowL_two
theorem noneOf {H H' : Hp} {a : Addr} (k : Ext H H') (h : H' a = none) : H a = none := by
  cases e : H a with
  | none => rfl
  | some o => rw [k _ _ e] at h; cases h
theorem nmM_no {E : List Str} {x : PyData} (h : nmD x = false) : nmM E x = none := by
  cases x with
  | str s =>
    unfold nmM
    dsimp only
    rw [if_neg (fun z => by
      have h : nameOk s = false := h
      rw [z.1] at h
      cases h)]
  | _ => rfl
/-- what the parent of a row may be -/
theorem Dk.parcase {v : V} {x : PyData} (h : Dk d g H v x) (E : List Str) : (v = .non ∧ parM E x = some none) ∨ (v ≠ .non ∧ ∃ b : Bool, (parM E x).isSome = b ∧ ((flatV v = true ∧ inV v (E.map V.str) = b) ∨ (b = false ∧ ∃ a, v = .ref a ∧ Gj.Cont H a))) := by
  cases h with
  | non => exact .inl ⟨rfl, rfl⟩
  | bl b => exact .inr ⟨(by intro e; cases e), false, rfl, .inl ⟨rfl, inV_no fun s e => by cases e⟩⟩
  | int i => exact .inr ⟨(by intro e; cases e), false, rfl, .inl ⟨rfl, inV_no fun s e => by cases e⟩⟩
  | str m =>
    refine .inr ⟨(by intro e; cases e), decide (m ∈ E), ?_, .inl ⟨rfl, inV_strs m E⟩⟩
    unfold parM
    dsimp only
    by_cases hm : m ∈ E
    · rw [if_pos hm, decide_eq_true hm]; rfl
    · rw [if_neg hm, decide_eq_false hm]; rfl
  | lst h n1 n2 al => exact .inr ⟨(by intro e; cases e), false, rfl, .inr ⟨rfl, _, rfl, Dk.cont (.lst h n1 n2 al)⟩⟩
  | tup h n1 n2 al => exact .inr ⟨(by intro e; cases e), false, rfl, .inr ⟨rfl, _, rfl, Dk.cont (.tup h n1 n2 al)⟩⟩
  | dct h n1 n2 => exact .inr ⟨(by intro e; cases e), false, rfl, .inr ⟨rfl, _, rfl, Dk.cont (.dct h n1 n2)⟩⟩
section
variable {P : Program} {w : World} {K : PySem.W.Frag} {mg : Str → Option Value} {base : Heap}
abbrev nLGood : List Str := ["_law_value", "_law_names", "_law_row"]
def spLGood : Sp := fun vs H Q _ => ∃ (v : V) (d g : Addr) (s : Option (List PyData)), vs = [v] ∧ Sk d g H v s ∧ ∀ H', Ext H H' → Q (.bl (goodS s).isSome) H'
theorem scLGood : FnScope nLGood ["_law_value"] (defScope sLIsGood) := ⟨rfl, rfl, rfl, by decide +kernel, rfl, by decide +kernel, by decide +kernel⟩
theorem ok_lgood {f fN : Addr} {fd fdN : FuncData} (F : Fun K "_law_is_good" "_law_is_good" sLIsGood f fd) (T : Names mg) (GN : FnOk P w K mg base CX0 1 fN fdN ["_law_value"] spName) (bN : Binds K fdN ["_law_value"] []) (kN : PySem.W.keepIn K (.ref fN) = true) (mN : mg "_law_is_name" = some (.ref fN)) :
    FnOk P w K mg base CX0 2 f fd ["_law_value"] spLGood := by
  refine F.ok scLGood (fun vs H Q E h => ?_) (fun cdv A outer s H vs Q E hr h => ?_)
  · obtain ⟨v, d, g, s, rfl, _⟩ := h
    rfl
  · obtain ⟨v, d, g, s, rfl, hS, k⟩ := h
    have nd := scLGood.nd
    refine ⟨_, pss_cons (ps_if (PW.pt (pw_or (pt_not (pt_val (pe_callB Gdo.call_isDT rfl T.isi (by decide +kernel) (pa_cons (pv 0) (pa_cons (pe_tup (pa_cons (pe_bltn (v := .ty "list") rfl T.list (by decide +kernel) rfl) (pa_cons (pe_bltn (v := .ty "tuple") rfl T.tuple (by decide +kernel) rfl) pa_nil))) pa_nil))))) (pw_or1 (pt_not (pt_chain op_le op_le pe_int (pe_callB call_len_seq rfl T.len PySem.boot_len (pa_cons (pv 0) pa_nil)) pe_int))))) (pss_one (ps_ret pe_bl)) pss_nil)
(pss_cons (ps_set (i := 1) nd rfl (.inl rfl) (pe_lst pa_nil))
(pss_cons (ps_for PassesOwn.never rfl (pi_seqV (pv 0)) (pg_name (i := 2) nd rfl (.inl rfl))
(pss_cons (ps_if (PW.pt (pw_or (pt_not (pt_val (pe_callB call_isi rfl T.isi (by decide +kernel) (pa_cons (pv 2) (pa_cons (pe_bltn (v := .ty "tuple") rfl T.tuple (by decide +kernel) rfl) pa_nil))))) (pw_or (pt_cmpR op_ne (pe_callB call_len_seq rfl T.len PySem.boot_len (pa_cons (pv 2) pa_nil)) pe_int (nomark _)) (pw_or (pt_not (pt_val (pe_call GN hr rfl mN kN bN .nil pass0 (pa_cons (pe_ix ix_tup (pv 2) pe_int (fun _ _ => rfl)) pa_nil)))) (pw_or1 (pt_cmpR op_in_seq (pe_ix ix_tup (pv 2) pe_int (fun _ _ => rfl)) (pv 1) rfl)))))) (pss_one (ps_ret pe_bl)) pss_nil)
(pss_cons (ps_if (PW.pt (pw_and (pt_cmpR op_notN (pe_ix ix_tup (pv 2) pe_int (fun _ _ => rfl)) pe_non (nomark _)) (pw_and1 (pt_cmpR (Gj.op_notInO hr.units) (pe_ix ix_tup (pv 2) pe_int (fun _ _ => rfl)) (pv 1) rfl)))) (pss_one (ps_ret pe_bl)) pss_nil)
(pss_one (ps_expr (pe_bm PySem.F.plainAttrs_list PySem.F.slot_list_append PySem.F.type_list_append mt_append (pv 1) (pa_cons (pe_ix ix_tup (pv 2) pe_int (fun _ _ => rfl)) pa_nil)))))))
(pss_one (ps_ret pe_bl)))), ?_⟩
    refine ⟨_, rfl, by show 2 ≤ sizeLine; decide, fun tp htp => ?_⟩
    have k1 : Ext H (upd H tp (.tup [.ty "list", .ty "tuple"])) := Ext.new htp
    have ht1 : (upd H tp (.tup [.ty "list", .ty "tuple"])) tp = some (.tup [.ty "list", .ty "tuple"]) := upd_same
    generalize upd H tp (.tup [.ty "list", .ty "tuple"]) = H1 at k1 ht1 ⊢
    cases hS with
    | @oth v t h =>
      obtain ⟨h0, h1, h2⟩ := Ot.ty (K := K) (h.kp (d := d) (g := g) fun a o _ _ e => k1 _ _ e)
      refine ⟨_, tp, _, _, [.type "list", .type "tuple"], false, rfl, ht1, .cons (.ty _) (.cons (.ty _) .nil), h0, kitAny_cons (b := false) (kit_ty h1) (fun _ => kitAny_cons (b := false) (kit_ty h2) (fun _ => rfl) (fun z => by cases z)) (fun z => by cases z), false, rfl, iteT ?_⟩
      exact k _ k1
    | @seq l xs ds hl n1 n2 hd hA h100 =>
      have hl1 := hl.ext k1
      have dl := DkAll.len hd
      obtain ⟨ty, hty, hkit⟩ := ty_seqX (K := K) hl1
      refine ⟨_, tp, _, _, [.type "list", .type "tuple"], true, rfl, ht1, .cons (.ty _) (.cons (.ty _) .nil), .x hty, hkit, true, rfl, iteF ?_⟩
      refine ⟨_, rfl, l, _, rfl, hl1.sq, _, _, rfl, rfl, _, rfl, ?_⟩
      by_cases e1 : 1 ≤ xs.length
      · refine iteS (by omega) ⟨_, _, rfl, rfl, _, rfl, ?_⟩
        by_cases e8 : xs.length ≤ 8
        · refine iteNS (by omega) ?_
          rw [goodS_in (by omega) (by omega)] at k
          refine ⟨Nat.zero_le _, fun L hL => ?_⟩
          have k2 : Ext H (upd H1 L (.lst [])) := k1.trans (Ext.new hL)
          have l2 : (upd H1 L (.lst [])) L = some (.lst (([] : List Str).map V.str)) := upd_same
          have hLH : H L = none := noneOf k1 hL
          generalize upd H1 L (.lst []) = H2 at k2 l2 ⊢
          refine ⟨l, xs, rfl, hl.ext k2, fun J wJ => ?_⟩
          refine for_it wJ (fun i σ H' => ∃ (E : List Str) (v2 : Option V), σ = [some (.ref l), some (.ref L), v2] ∧ H' L = some (.lst (E.map V.str)) ∧ E.length ≤ i ∧ (rowsM [] ds).isSome = (rowsM E (ds.drop i)).isSome ∧ Ext H H' ∧ H' l = H2 l)
            ⟨[], none, rfl, l2, Nat.le_refl _, by rw [List.drop_zero], k2, rfl⟩ (fun i σ H' _ ⟨_, _, _, _, _, _, _, e⟩ => e) ?_ ?_
          · rintro i y σ H3 H3' hi ⟨E, v2, rfl, l3, el, hf, k3, kl⟩ ⟨rfl, hy⟩
            obtain ⟨x, hx, dx⟩ := DkAll.get hd hy
            have hix := (List.getElem?_eq_some_iff.mp hx).1
            have hdr : ds.drop i = x :: ds.drop (i + 1) := by
              rw [List.drop_eq_getElem_cons hix]
              rw [List.getElem?_eq_getElem hix] at hx
              cases hx
              rfl
            rw [hdr] at hf
            have dx3 : Dk d g H3' y x := Dk.ext k3 dx
            have hAx := hA x (List.mem_of_getElem? hx)
            have fin : ∀ {H4 : Hp}, Ext H H4 → rowM E x = none → Q (.bl false) H4 := fun {H4} k4 hn => by
              rw [rowsM_no hn] at hf
              have z := k H4 k4
              rw [hf] at z
              exact z
            rcases dx3.nt with ⟨a, ys, es, rfl, rfl, ha, hd'⟩ | ⟨T', ht, hk, hn⟩
            · have hl' := DkAll.len hd'
              refine ⟨_, rfl, _, _, _, _, true, rfl, .ty _, (TyT.tup ha).x, kit_ty (by decide +kernel), true, rfl, iteF ?_⟩
              by_cases h2 : ys.length = 2
              · refine ⟨_, rfl, a, _, rfl, .inr (SqT.of ha), rfl, _, rfl, iteNS (by rw [h2]; rfl) ?_⟩
                match ys, h2, es, hl', hd', ha with
                | [v1, v2'], _, [x1, x2], _, .cons d1 (.cons d2 .nil), ha =>
                  have a1 : ∀ s, x1 = .str s → Asc 19 s := fun s e => by rw [e] at hAx; exact hAx
                  refine ⟨_, rfl, a, _, _, _, rfl, rfl, SqT.of ha, (show atI _ ((0 : Nat) : Int) = _ from atI_nat rfl), v1, nmD x1, rfl, d1.name a1, fun H4 k4 => ?_⟩
                  have k04 := k3.trans k4
                  by_cases hn : nmD x1 = true
                  · rw [hn]
                    obtain ⟨s1, rfl, rfl, hs⟩ : ∃ s1, x1 = .str s1 ∧ v1 = .str s1 ∧ nameOk s1 = true := by
                      cases d1 with
                      | str s => exact ⟨s, rfl, rfl, hn⟩
                      | _ => cases hn
                    refine ⟨_, rfl, iteF ?_⟩
                    refine ⟨_, rfl, a, _, _, _, rfl, rfl, SqT.of (k4 _ _ ha), (show atI _ ((0 : Nat) : Int) = _ from atI_nat rfl), _, rfl, L, _, rfl, .inl (SqL.of (k4 _ _ l3)), rfl, strs_flat _, _, rfl, ?_⟩
                    show if inV (V.str s1) (E.map V.str) = true then _ else _
                    rw [inV_strs]
                    by_cases hm : s1 ∈ E
                    · refine iteS hm (fin k04 ?_)
                      rw [rowM_two]
                      unfold nmM
                      dsimp only
                      rw [if_neg (fun z => z.2 hm)]
                      rfl
                    · refine iteN hm ?_
                      have nm : nmM E (.str s1) = some s1 := by
                        unfold nmM
                        dsimp only
                        rw [if_pos ⟨hs, hm⟩]
                      have rw1 : rowM E (.tuple [.str s1, x2]) = (parM E x2).map fun q => (s1, q) := by
                        rw [rowM_two, nm]
                        rfl
                      have ha4 := k4 _ _ ha
                      have l4 := k4 _ _ l3
                      have nlL : l ≠ L := by rcases hl with e | e <;> exact ne_of_none e hLH
                      have app : ∀ q, parM E x2 = some q → tDrop (tBM K "list" rAppend (tVar 1) (tCons (tOp (rIxT K) (tVar 2) (tC (.int 0))) tNil)) { nx := fun σ H' => ∃ (E : List Str) (v2 : Option V), σ = [some (.ref l), some (.ref L), v2] ∧ H' L = some (.lst (E.map V.str)) ∧ E.length ≤ i + 1 ∧ (rowsM [] ds).isSome = (rowsM E (ds.drop (i + 1))).isSome ∧ Ext H H' ∧ H' l = H2 l, rt := Q, bk := fun _ _ => True, ct := fun _ _ => True } [some (.ref l), some (.ref L), some (.ref a)] H4 := fun q hq => by
                        have e9 : rowM E (.tuple [.str s1, x2]) = some (s1, q) := by rw [rw1, hq]; rfl
                        rw [rowsM_yes e9] at hf
                        refine ⟨_, rfl, .inl ⟨rfl, _, SqL.of l4⟩, _, rfl, a, _, _, _, rfl, rfl, SqT.of ha4, (show atI _ ((0 : Nat) : Int) = _ from atI_nat rfl), L, _, _, rfl, rfl, l4, small1000 (by rw [List.length_map]; omega), ?_⟩
                        refine ⟨E ++ [s1], _, rfl, by rw [upd_same, List.map_append]; rfl, by rw [List.length_append]; show E.length + 1 ≤ i + 1; omega, hf, fun y o e => by rw [upd_ne (ne_of_none e hLH)]; exact k04 _ _ e, ?_⟩
                        rw [upd_ne nlL]
                        rcases hl with e | e
                        · rw [k04 _ _ e, k2 _ _ e]
                        · rw [k04 _ _ e, k2 _ _ e]
                      refine ⟨_, rfl, a, _, _, _, rfl, rfl, SqT.of ha4, (show atI _ ((1 : Nat) : Int) = _ from atI_nat rfl), rfl, _, rfl, ?_⟩
                      rcases d2.parcase E with ⟨rfl, hp⟩ | ⟨hv, b, hb, hc⟩
                      · exact iteNS rfl (iteF (app none hp))
                      · rw [decide_eq_false hv]
                        refine iteT ?_
                        refine ⟨_, rfl, a, _, _, _, rfl, rfl, SqT.of ha4, (show atI _ ((1 : Nat) : Int) = _ from atI_nat rfl), _, rfl, L, E, rfl, .inl l4, ?_⟩
                        have no : b = false → rowM E (.tuple [.str s1, x2]) = none := fun e => by
                          rw [e] at hb
                          rw [rw1]
                          cases hq : parM E x2 with
                          | none => rfl
                          | some q => rw [hq] at hb; cases hb
                        rcases hc with ⟨hfl, hin⟩ | ⟨hbf, a2, rfl, hct⟩
                        · refine .inl ⟨hfl, _, rfl, ?_⟩
                          show if (!inV v2' (E.map V.str)) = true then _ else _
                          rw [hin]
                          cases b with
                          | false => exact iteT (fin k04 (no rfl))
                          | true =>
                            obtain ⟨q, hq⟩ := Option.isSome_iff_exists.mp hb
                            exact iteF (app q hq)
                        · exact .inr ⟨a2, rfl, hct.ext k4, _, rfl, iteT (fin k04 (no hbf))⟩
                  · rw [Bool.not_eq_true] at hn
                    rw [hn]
                    refine ⟨_, rfl, iteT (fin k04 ?_)⟩
                    rw [rowM_two, nmM_no hn]
                    rfl
              · refine ⟨_, rfl, a, _, rfl, .inr (SqT.of ha), rfl, _, rfl, ?_⟩
                show if (!decide (V.int (ys.length : Nat) = V.int 2)) = true then _ else _
                rw [decide_eq_false (by intro e; injection e with e; omega)]
                exact iteT (fin k3 (rowL_len (by omega)))
            · refine ⟨_, rfl, _, _, _, _, false, rfl, .ty _, ht.x, kit_ty hk, false, rfl, iteT ?_⟩
              exact fin k3 (hn E)
          · rintro σ H3 ⟨E, v2, rfl, l3, el, hf, k3, kl⟩
            rw [dl, List.drop_length] at hf
            have z := k H3 k3
            rw [hf] at z
            exact z
        · rw [goodS_out (by omega)] at k
          rw [decide_eq_false (by omega : ¬ (xs.length : Int) ≤ 8)]
          exact iteT (k _ k1)
      · rw [goodS_out (by omega)] at k
        exact iteN (by omega) ⟨_, rfl, iteT (k _ k1)⟩
end
end Lw

set_option Elab.async false
set_option linter.all false
set_option maxRecDepth 100000
set_option maxHeartbeats 4000000
namespace Lw
open L2 hiding Ext
open PySem PySem.Spec PyProof.Rows Gn Gr Gk Go Gt Gf Gu Gx
/-- the errors, as the law asks for them -/
structure XR (K : PySem.W.Frag) (mg : Str → Option Value) (CF CP CT CU : Addr) : Prop where
  cF : ExcC K CF
  nm : mg "PurseError" = some (.ref CP)
  eF : PySem.W.exmOne K (.ref CF) (.ref CP) = some true
  gF : mg "InvalidForest" = some (.ref CF)
  gT : mg "InvalidText" = some (.ref CT)
  gU : mg "UnknownAccount" = some (.ref CU)
  nv : mg "ValueError" = none
  sT : PySem.W.kitOne K (.ref CF) (.ref CT) = some false
  sU : PySem.W.kitOne K (.ref CF) (.ref CU) = some false
  sV : PySem.W.kitOne K (.ref CF) (.type "ValueError") = some true
  sF : PySem.W.kitOne K (.ref CF) (.ref CF) = some true
abbrev nRef : List Str := ["_law_value", "_law_caught", "e"]
def spRef (d g : Addr) : Sp := fun vs H Q _ => ∃ (v : V) (s : Option (List PyData)), vs = [v] ∧ Sk d g H v s ∧ ∀ H', Ext H H' → Q (.str (if (goodS s).isSome then "" else "forest")) H'
def spRefD : Sp := fun vs H Q E => ∃ d g, spRef d g vs H Q E
theorem Sk.ext {d g : Addr} {H H' : Hp} {v : V} {s : Option (List PyData)} (h : Sk d g H v s) (k : Ext H H') : Sk d g H' v s := by
  cases h with
  | seq h n1 n2 hd hA hl => exact .seq (h.ext k) n1 n2 (DkAll.ext k hd) hA hl
  | oth h => exact .oth (h.kp fun a o _ _ e => k _ _ e)
theorem takes_len {X : Cx} {W : WX} (tk : Takes X W) : Takes X (fun cls d σ H => σ.length = X.N.length → W cls d σ H) := fun u s' ⟨a, B, sI, pins, σ, H, cls, d, e, I, nb, up, sky, na, os, ag, w⟩ => tk u s' ⟨a, B, sI, pins, σ, H, cls, d, e, I, nb, up, sky, na, os, ag, w I.len⟩
theorem ex_PSs {X : Cx} {ss : List Stmt} {α : Type} {t : α → TS} (h : ∀ a, PSs X ss (t a)) : PSs X ss (fun D σ H => ∃ a, t a D σ H) :=
  ⟨fun pins s σ H D I ⟨a, q⟩ => (h a).run pins s σ H D I q⟩
section
variable {P : Program} {w : World} {K : PySem.W.Frag} {mg : Str → Option Value} {base : Heap} {C fI CF CP CT CU : Addr} {mc : Value} {fdI : FuncData}
theorem scRef : FnScope nRef ["_law_value"] (defScope sLRefusal) := ⟨rfl, rfl, rfl, by decide +kernel, rfl, by decide +kernel, by decide +kernel⟩
theorem ok_ref {f : Addr} {fd : FuncData} (F : Fun K "_law_refusal" "_law_refusal" sLRefusal f fd) (T : Names mg) (Z : FC K mg C fI mc) (Y : XR K mg CF CP CT CU)
    (GI : FnOk P w K mg base (L2.CX P w) 4 fI fdI ["self", "rows"] (spInitX C CF)) (bI : Binds K fdI ["self", "rows"] []) :
    FnOk P w K mg base CX0 6 f fd ["_law_value"] spRefD := by
  refine F.ok scRef (fun vs H Q E h => ?_) (fun cdv A outer s H vs Q E hr h => ?_)
  · obtain ⟨d, g, v, s, rfl, _⟩ := h
    rfl
  · obtain ⟨d, g, v, s, rfl, hS, k⟩ := h
    have nd := scRef.nd
    refine ⟨_, pss_cons (ps_set (i := 1) nd rfl (.inl rfl) pe_non)
      (pss_cons (ps_try_keep (c := .ref CP) (i := 2) (j := 1)
        (tb := fun W D σ H => ∃ Ech : {E : XK // ∀ cls d σ' H', E cls d H' → σ'.length = 3 → W cls d σ' H'}, tDrop (tMake C (spInitX C CF) [] Ech.1 (tCons (tVar 0) tNil)) D σ H)
        rfl rfl nd rfl rfl rfl rfl ⟨rfl, by decide, .inl Y.nm⟩ rfl (by decide) (by decide) rfl fun W' pn xe tk _ => ?body)
      (pss_cons (ps_if (pt_cmpR op_isN (pv 1) pe_non (nomark _)) (pss_one (ps_ret pe_str)) pss_nil)
      (pss_cons (ps_if (PW.pt (pw_or (pt_val (pe_callB call_isXT rfl T.isi (by decide +kernel) (pa_cons (pv 1) (pa_cons (pe_tup (pa_cons (pe_glob (v := .ref CT) rfl Y.gT rfl) (pa_cons (pe_glob (v := .ref CU) rfl Y.gU rfl) pa_nil))) pa_nil)))) (pw_or1 (pt_not (pt_val (pe_callB call_isX rfl T.isi (by decide +kernel) (pa_cons (pv 1) (pa_cons (pe_bltn (v := .ty "ValueError") rfl Y.nv (by decide +kernel) rfl) pa_nil))))))))
        (pss_one (ps_ret pe_str)) pss_nil)
      (pss_one (ps_ret (pe_ifExp (pt_val (pe_callB call_isX rfl T.isi (by decide +kernel) (pa_cons (pv 1) (pa_cons (pe_glob (v := .ref CF) rfl Y.gF rfl) pa_nil)))) pe_str pe_str)))))), ?_⟩
    case body =>
      exact ex_PSs fun Ech => pss_one (ps_expr (pe_make Z.make GI hr rfl Z.g bI .nil (passes_call (takes_len tk) fun cls d σ' H' e l => Ech.2 cls d σ' H' e l) (pa_cons (pv 0) pa_nil)))
    · refine ⟨⟨fun cls d' H' => cls = .ref CF ∧ d' = none ∧ Ext H H' ∧ goodS s = none, ?_⟩, ?_⟩
      · rintro cls d' σ' H2 ⟨rfl, rfl, k2, hg⟩ hl
        refine ⟨Y.eF, fun a ha => ?_⟩
        match σ', hl with
        | [x0, x1, x2], _ =>
          have a3 : (upd H2 a (ExK (.ref CF) none a)) a = some (ExK (.ref CF) none a) := upd_same
          have k3 : Ext H (upd H2 a (ExK (.ref CF) none a)) := k2.trans (Ext.new ha)
          dsimp only [List.set]
          generalize upd H2 a (ExK (.ref CF) none a) = H3 at a3 k3 ⊢
          rw [hg] at k
          refine ⟨_, rfl, rfl, _, rfl, iteN (by intro z; cases z) ?_⟩
          refine ⟨_, rfl, by show 2 ≤ sizeLine; decide, fun t ht => ?_⟩
          have kt := Ext.new (o := .tup [.ref CT, .ref CU]) ht
          have a4 := kt _ _ a3
          have t4 : (upd H3 t (.tup [.ref CT, .ref CU])) t = some (.tup [.ref CT, .ref CU]) := upd_same
          have k4 := k3.trans kt
          generalize upd H3 t (.tup [.ref CT, .ref CU]) = H4 at a4 t4 k4 ⊢
          refine ⟨a, CF, none, t, _, [.ref CT, .ref CU], false, rfl, a4, trivial, Y.cF, t4, .cons (.own CT) (.cons (.own CU) .nil), kitAny_cons (b := false) Y.sT (fun _ => kitAny_cons (b := false) Y.sU (fun _ => rfl) (fun z => by cases z)) (fun z => by cases z), false, rfl, iteF ?_⟩
          refine ⟨_, rfl, a, CF, none, _, _, true, rfl, a4, trivial, Y.cF, .ty _, Y.sV, true, rfl, iteF ?_⟩
          refine ⟨_, rfl, a, CF, none, _, _, true, rfl, a4, trivial, Y.cF, .own CF, Y.sF, true, rfl, iteT ?_⟩
          exact k _ k4
      · refine ⟨_, rfl, fun x dx hx hdx ne => ?_⟩
        have kx : Ext H (upd (upd H dx (.own x)) x (.ins C dx [])) := fun b o hb => by
          rw [upd_ne (ne_of_none hb hx), upd_ne (ne_of_none hb hdx)]
          exact hb
        refine ⟨x, dx, d, g, v, s, rfl, upd_same, hS.ext kx, fun rs hrs H2 D2 k2 i2 d2 => ⟨rfl, ?_⟩, fun hn H2 k2 => ⟨rfl, rfl, kx.trans k2, hn⟩⟩
        rw [hrs] at k
        refine ⟨_, rfl, rfl, _, rfl, iteS rfl ?_⟩
        exact k _ fun b o hb => k2 _ _ (ne_of_none hb hx) (kx _ _ hb)
end
end Lw

set_option Elab.async false
set_option linter.all false
set_option maxRecDepth 100000
set_option maxHeartbeats 4000000
/-! dicts of flat values compared; an instance compared with any value -/
namespace Gdt
open L2 hiding Ext
open PySem PySem.Spec PyProof.Rows Go
def hitB (ls : List (Key × V)) : List (Key × V) → Bool
  | [] => true
  | p :: r => match valV ls p.1 with
    | none => false
    | some y => eqV p.2 y && hitB ls r
def eqDB (ks ls : List (Key × V)) : Bool := ks.length == ls.length && hitB ls ks
theorem hits_flat {A : Around} {s : Shared} {ls : List (Key × V)} {vb : List (Key × Value)} (rb : KV ls vb) (hl : ∀ p ∈ ls, flatV p.2 = true) {ks : List (Key × V)} {va : List (Key × Value)} (ra : KV ks va) : (∀ p ∈ ks, flatV p.2 = true) → PySem.W.KeqHits A s vb va (hitB ls ks) := by
  unfold KV at ra
  induction ra with
  | nil => intro _; exact .nil
  | @cons p q ps qs h t ih =>
    intro hp
    obtain ⟨h1, h2⟩ := h
    obtain ⟨k, v⟩ := q
    have h1' : p.1 = k := h1
    have rv := rb.val p.1
    unfold hitB
    cases e : valV ls p.1 with
    | none =>
      rw [e] at rv
      have hn : valueAt vb p.1 = none := by
        cases hv : valueAt vb p.1 with
        | none => rfl
        | some y => rw [hv] at rv; exact False.elim rv
      rw [h1'] at hn
      exact .miss hn
    | some y =>
      rw [e] at rv
      obtain ⟨y', hy, ry⟩ := rv.some_of
      rw [h1'] at hy
      have fy : flatV y = true := by
        unfold valV at e
        obtain ⟨z, hz, rfl⟩ := Option.map_eq_some_iff.mp e
        exact hl z (List.mem_of_find?_eq_some hz)
      exact .hit hy (eqAt_V h2 ry (hp p List.mem_cons_self) fy) (ih fun p' hm => hp p' (List.mem_cons_of_mem _ hm))
section
variable {X : Cx} {n k : Nat} {CX : CXT} {f C : Addr} {fd : FuncData} {ps : List Str} {sp : Sp} {E : XK}
def rEqDX : R2 := fun x y H Q => ∃ a b ks ls, x = .ref a ∧ y = .ref b ∧ H a = some (.dK ks) ∧ H b = some (.dK ls) ∧ (∀ p ∈ ks, flatV p.2 = true) ∧ (∀ p ∈ ls, flatV p.2 = true) ∧ Q (.bl (eqDB ks ls)) H
theorem op_eqDX (hu : X.A.units < cLine) : OpR X (compareOp .Eq) rEqDX := by
  intro pins s σ H x y v u Q I rx ry h
  obtain ⟨a, b, ks, ls, rfl, rfl, ea, eb, hk, hl, q⟩ := h
  obtain rfl : v = Value.ref a := rx
  obtain rfl : u = Value.ref b := ry
  obtain ⟨_, ya, va, ra, da⟩ := (show ObjOk X.prog X.w H s.heap a (.dK ks) from I.hok a _ ea)
  obtain ⟨_, yb, vb, rb, db⟩ := (show ObjOk X.prog X.w H s.heap b (.dK ls) from I.hok b _ eb)
  exact PySem.W.keq_eq (knd := mixKind X.prog X.w) (r := hitB ls ks) ya yb da db hu (fun _ => hits_flat rb hl ra hk) (fin_bl I q (by unfold eqDB; rw [ra.length, rb.length]))
/-- a value that is no instance -/
inductive EqV (H : Hp) : V → String → Prop
  | non : EqV H .non "NoneType"
  | int (i : Int) : EqV H (.int i) "int"
  | str (x : Str) : EqV H (.str x) "str"
  | lst {a : Addr} {xs : List V} (e : H a = some (.lst xs)) : EqV H (.ref a) "list"
  | tup {a : Addr} {xs : List V} (e : H a = some (.tup xs)) : EqV H (.ref a) "tuple"
  | dct {a : Addr} {kvs : List (Key × V)} (e : H a = some (.dK kvs)) : EqV H (.ref a) "dict"
theorem EqV.looks {pins : List (Addr × Obj)} {σ : L2.St} {H : Hp} {s : Shared} {v : V} {T : String} {u : Value} (I : Inv X pins σ H s) (r : RelV v u) (h : EqV H v T) : PySem.W.Looks (model X.prog X.w) s.heap (typeOf u) (.type T) := by
  cases h with
  | non => cases (show u = Value.none from r); exact PySem.W.Looks.of_pure rfl
  | int i => obtain ⟨t, q⟩ := (show ∃ t, u = Value.int i t from r); cases q; exact PySem.W.Looks.of_pure rfl
  | str x => obtain ⟨t, q⟩ := (show ∃ t, u = Value.str x t from r); cases q; exact PySem.W.Looks.of_pure rfl
  | @lst a xs e =>
    cases (show u = Value.ref a from r)
    obtain ⟨_, its, n, _, h1⟩ := (show ObjOk X.prog X.w H s.heap a (.lst xs) from I.hok a _ e)
    exact (PySem.W.Looks.ld h1).andThen .now
  | @tup a xs e =>
    cases (show u = Value.ref a from r)
    obtain ⟨_, its, _, o, h1, h2, _⟩ := (show ObjOk X.prog X.w H s.heap a (.tup xs) from I.hok a _ e)
    rw [← h2]
    exact (PySem.W.Looks.ld h1).andThen .now
  | @dct a kvs e =>
    cases (show u = Value.ref a from r)
    obtain ⟨_, _, vs, _, o, es, ep, h1, h2, _⟩ := (show ObjOk X.prog X.w H s.heap a (.dK kvs) from I.hok a _ e)
    rw [← h2.1]
    exact (PySem.W.Looks.ld h1).andThen .now
theorem EqV.first {K : PySem.W.Frag} {H : Hp} {v : V} {T : String} (h : EqV H v T) (C : Addr) : PySem.W.notFirst K C (.type T) = true := by
  have g : ∀ (T : String) (l : List Value), fastBuiltinMro T = some l → l.contains (.ref C) = false → PySem.W.notFirst K C (.type T) = true := fun T l h1 h2 => by
    unfold PySem.W.notFirst PySem.W.subIn
    dsimp only
    rw [h1, Option.map_some, h2]
    simp
  cases h with
  | non => exact g _ [.type "NoneType", .type "object"] (by decide +kernel) rfl
  | int i => exact g _ [.type "int", .type "object"] (by decide +kernel) rfl
  | str x => exact g _ [.type "str", .type "object"] (by decide +kernel) rfl
  | lst e => exact g _ [.type "list", .type "object"] (by decide +kernel) rfl
  | tup e => exact g _ [.type "tuple", .type "object"] (by decide +kernel) rfl
  | dct e => exact g _ [.type "dict", .type "object"] (by decide +kernel) rfl
def rOwnV (C : Addr) (sp : Sp) (E : XK) : R2 := fun x y H Q => ∃ a dx fs T, x = .ref a ∧ H a = some (.ins C dx fs) ∧ EqV H y T ∧ sp [.ref a, y] H (fun v H' => ∃ r, v = .bl r ∧ Q (.bl r) H') E
theorem op_eqOV (F : FnOk X.prog X.w X.K X.mg X.base CX n f fd ps sp) (hr : Room n X.A) (w : OwnE X.K C f) (hb : Binds X.K fd ps []) (hx : Passes CX X E) : OpR X (compareOp .Eq) (rOwnV C sp E) := by
  intro pins s σ H x y v u Q I rx ry h
  obtain ⟨a, dx, fs, T, rfl, ha, hT, hs⟩ := h
  cases rx
  obtain ⟨mA, O1, _⟩ := ins_get I.hok ha
  obtain ⟨od, J, _⟩ := O1.look
  obtain ⟨m, hF⟩ := I.fr
  show wpAny (model X.prog X.w) X.A (richCompare .Eq (.ref a) u) (EP X pins σ Q) X.xe s
  refine PySem.W.cmp_K (op := .Eq) (tb := .type T) hr.units0 hF I.ok.mod.kin J (hT.looks I ry) (hT.first C) w.eq w.fn ?_
  refine thn (run_fn (us := [.ref a, u]) (vs := [.ref a, y]) (dvs := []) F hr hb .nil hx I (.cons rfl (.cons ry .nil)) (by rw [List.append_nil]; exact hs)) fun r s' hq => ?_
  obtain ⟨z, H', I', rz, c, rfl, q⟩ := hq
  cases rz
  exact ⟨.bl c, H', I', rfl, q⟩
end
end Gdt

set_option Elab.async false
set_option linter.all false
set_option maxRecDepth 100000
set_option maxHeartbeats 4000000
namespace Lw
open L2 hiding Ext
open PySem PySem.Spec PyProof.Rows Gn Gr Gk Go Gt Gf Gu Gdt
/-! ### Forest.__eq__ of any values -/
/-- no value of these types is a forest -/
structure NF (K : PySem.W.Frag) (C : Addr) : Prop where
  n : PySem.W.kitOne K (.type "NoneType") (.ref C) = some false
  i : PySem.W.kitOne K (.type "int") (.ref C) = some false
  s : PySem.W.kitOne K (.type "str") (.ref C) = some false
  l : PySem.W.kitOne K (.type "list") (.ref C) = some false
  t : PySem.W.kitOne K (.type "tuple") (.ref C) = some false
  d : PySem.W.kitOne K (.type "dict") (.ref C) = some false
theorem EqV.ty {K : PySem.W.Frag} {C : Addr} {H : Hp} {y : V} {T : String} (h : EqV H y T) (N : NF K C) : TyX K H y (.type T) ∧ PySem.W.kitOne K (.type T) (.ref C) = some false := by
  cases h with
  | non => exact ⟨TyT.non.x, N.n⟩
  | int i => exact ⟨(TyT.int i).x, N.i⟩
  | str x => exact ⟨(TyT.str x).x, N.s⟩
  | lst e => exact ⟨(TyT.lst e).x, N.l⟩
  | tup e => exact ⟨(TyT.tup e).x, N.t⟩
  | dct e => exact ⟨(TyT.dct e).x, N.d⟩
theorem flat_par (q : Option Str) : flatV (parV q) = true := by cases q <;> rfl
theorem flat_kvs (rs : List FRow) : ∀ p ∈ kvs rs, flatV p.2 = true := by
  intro p hp
  obtain ⟨r, _, rfl⟩ := List.mem_map.mp hp
  exact flat_par _
theorem hitB_iff (ls : List FRow) (h : (fNames ls).Nodup) : ∀ rs : List FRow, hitB (kvs ls) (kvs rs) = true ↔ ∀ r ∈ rs, r ∈ ls
  | [] => ⟨fun _ r hr => by (cases hr), fun _ => rfl⟩
  | r :: rs => by
    have ih := hitB_iff ls h rs
    show (match valV (kvs ls) (Sum.inr r.1 : Key) with | none => false | some y => eqV (parV r.2) y && hitB (kvs ls) (kvs rs)) = true ↔ _
    by_cases hm : r.1 ∈ fNames ls
    · obtain ⟨q, hq, e⟩ := List.mem_map.mp hm
      have v := kvs_some h hq
      rw [e] at v
      rw [v]
      show (eqV (parV r.2) (parV q.2) && hitB (kvs ls) (kvs rs)) = true ↔ _
      rw [Bool.and_eq_true, ih]
      have e2 : eqV (parV r.2) (parV q.2) = true ↔ r.2 = q.2 := by
        obtain ⟨_, p1⟩ := r
        obtain ⟨_, p2⟩ := q
        cases p1 <;> cases p2 <;> simp [parV, eqV]
      rw [e2]
      constructor
      · rintro ⟨h1, h2⟩ x hx
        rcases List.mem_cons.mp hx with rfl | hx
        · have : x = q := Prod.ext e.symm h1
          rw [this]; exact hq
        · exact h2 x hx
      · intro k
        refine ⟨?_, fun x hx => k x (List.mem_cons_of_mem _ hx)⟩
        have hr := k r List.mem_cons_self
        have v2 := kvs_some h hr
        rw [v] at v2
        have := Option.some.inj v2
        obtain ⟨_, p1⟩ := r
        obtain ⟨_, p2⟩ := q
        cases p1 <;> cases p2 <;> simp_all [parV]
    · rw [kvs_none hm]
      constructor
      · intro z; cases z
      · intro k
        exact absurd (List.mem_map.mpr ⟨r, k r List.mem_cons_self, rfl⟩) hm
theorem sub_len {α : Type} [DecidableEq α] : ∀ (l k : List α), l.Nodup → (∀ x ∈ l, x ∈ k) → l.length ≤ k.length
  | [], _, _, _ => Nat.zero_le _
  | a :: l, k, hn, hs => by
    obtain ⟨h1, h2⟩ := List.nodup_cons.mp hn
    have hm := hs a List.mem_cons_self
    have := sub_len l (k.erase a) h2 fun x hx => (List.mem_erase_of_ne (fun e => h1 (by rw [← e]; exact hx))).mpr (hs x (List.mem_cons_of_mem _ hx))
    rw [List.length_erase_of_mem hm] at this
    have hp := List.length_pos_of_mem hm
    rw [List.length_cons]
    omega
theorem sub_back {α : Type} [DecidableEq α] {l k : List α} (hn : l.Nodup) (hl : l.length = k.length) (hs : ∀ x ∈ l, x ∈ k) : ∀ x ∈ k, x ∈ l := by
  intro x hx
  by_cases hm : x ∈ l
  · exact hm
  · have := sub_len (x :: l) k (List.nodup_cons.mpr ⟨hm, hn⟩) fun y hy => by
      rcases List.mem_cons.mp hy with rfl | hy
      · exact hx
      · exact hs y hy
    rw [List.length_cons] at this
    omega
theorem rows_nodup {rs : List FRow} (h : (fNames rs).Nodup) : rs.Nodup := by
  unfold fNames at h
  unfold List.Nodup at h ⊢
  rw [List.pairwise_map] at h
  exact h.imp fun h e => h (by rw [e])
theorem eqDB_iff {rs ls : List FRow} (h2 : (fNames ls).Nodup) : eqDB (kvs rs) (kvs ls) = true ↔ rs.length = ls.length ∧ ∀ r ∈ rs, r ∈ ls := by
  unfold eqDB
  rw [Bool.and_eq_true, hitB_iff ls h2, beq_iff_eq]
  unfold kvs
  rw [List.length_map, List.length_map]
theorem eqDB_comm {rs ls : List FRow} (h1 : (fNames rs).Nodup) (h2 : (fNames ls).Nodup) : eqDB (kvs rs) (kvs ls) = eqDB (kvs ls) (kvs rs) := by
  rw [Bool.eq_iff_iff, eqDB_iff h2, eqDB_iff h1]
  exact ⟨fun ⟨a, b⟩ => ⟨a.symm, sub_back (rows_nodup h1) a b⟩, fun ⟨a, b⟩ => ⟨a.symm, sub_back (rows_nodup h2) a b⟩⟩
theorem eqDB_perm {rs ls : List FRow} (h2 : (fNames ls).Nodup) (p : rs.Perm ls) : eqDB (kvs rs) (kvs ls) = true :=
  (eqDB_iff h2).mpr ⟨p.length_eq, fun _ hr => p.mem_iff.mp hr⟩
section
variable {P : Program} {w : World} {K : PySem.W.Frag} {mg : Str → Option Value} {base : Heap} {C fI : Addr} {mc : Value}
abbrev nEq : List Str := ["self", "other"]
def spEqX (C : Addr) : Sp := fun vs H Q _ => ∃ (a : Addr) (rs : List FRow), FoAt C H a rs ∧
  ((∃ b rs', vs = [.ref a, .ref b] ∧ FoAt C H b rs' ∧ Q (.bl (eqDB (kvs rs) (kvs rs'))) H) ∨ (∃ y T, vs = [.ref a, y] ∧ EqV H y T ∧ Q (.bl false) H))
theorem scEq : FnScope nEq ["self", "other"] (defScope sEq) := ⟨rfl, rfl, rfl, by decide +kernel, rfl, by decide +kernel, by decide +kernel⟩
theorem ok_eqX {f : Addr} {fd : FuncData} (F : Fun K "__eq__" "Forest.__eq__" sEq f fd) (T : Names mg) (Z : FC K mg C fI mc) (N : NF K C) : FnOk P w K mg base CX0 1 f fd ["self", "other"] (spEqX C) := by
  refine F.ok scEq (fun vs H Q E h => ?_) (fun cdv A outer s H vs Q E hr h => ?_)
  · obtain ⟨a, rs, _, ⟨b, rs', rfl, _⟩ | ⟨y, T', rfl, _⟩⟩ := h <;> rfl
  · obtain ⟨a, rs, ⟨dx, q, h1, h2⟩, h⟩ := h
    have hu := hu_of hr
    rcases h with ⟨b, rs', rfl, ⟨dy, q', h3, h4⟩, k⟩ | ⟨y, T', rfl, hy, k⟩
    · refine ⟨_, pss_one (ps_ret (pe_and (pe_callB call_isi rfl T.isi (by decide +kernel) (pa_cons (pv 1) (pa_cons (pe_glob (v := .ref C) rfl Z.g rfl) pa_nil))) (pe_one (pe_cmpR (Gdt.op_eqDX (Nat.lt_of_succ_lt hu)) (pe_fld (pv 0) rfl) (pe_fld (pv 1) rfl) (nomark _))))), ?_⟩
      refine ⟨_, rfl, _, _, _, _, true, rfl, .own C, Z.ty h3, Z.self, true, rfl, iteT ?_⟩
      exact ⟨_, rfl, a, C, dx, _, _, rfl, h1, Z.cl, Z.nP, rfl, _, rfl, b, C, dy, _, _, rfl, h3, Z.cl, Z.nP, rfl, q, q', _, _, rfl, rfl, h2, h4, flat_kvs _, flat_kvs _, k⟩
    · obtain ⟨e1, e2⟩ := EqV.ty hy N
      refine ⟨_, pss_one (ps_ret (pe_and (pe_callB call_isi rfl T.isi (by decide +kernel) (pa_cons (pv 1) (pa_cons (pe_glob (v := .ref C) rfl Z.g rfl) pa_nil))) (pe_one (pe_cmpR (Gdt.op_eqDX (Nat.lt_of_succ_lt hu)) (pe_fld (pv 0) rfl) (pe_fld (pv 1) rfl) (nomark _))))), ?_⟩
      refine ⟨_, rfl, _, _, _, _, false, rfl, .own C, e1, e2, false, rfl, ?_⟩
      exact iteF k
end
end Lw

set_option Elab.async false
set_option linter.all false
set_option maxRecDepth 100000
set_option maxHeartbeats 4000000
/-! list.remove where items are data -/
namespace Gb
open L2
open PySem PySem.Spec PyProof.Rows
section
variable {X : Cx}
def rRemD (K : PySem.W.Frag) : V → List V → Hp → VK → Prop := fun x xs H Q => ∃ (l : Addr) (vs : List V) (y : V) (d : PyData) (ds : List PyData) (j : Nat), x = .ref l ∧ xs = [y] ∧ H l = some (.lst vs) ∧ DpAll K H vs ds ∧ Dp K H y d ∧
  PyData.plainAll ds = true ∧ d.plain = true ∧ d.depth ≤ 60 ∧ SeqAt.dataPlace ds d = some j ∧ Q .non (upd H l (.lst (vs.eraseIdx j)))
theorem mt_removeD (hu : X.A.units + 65 < cLine) : MtM X "list.remove" (rRemD X.K) := by
  intro pins s σ H x xs v us Q I rx rxs h
  obtain ⟨l, vs, y, d, ds, j, rfl, rfl, hH, ha, hy, p1, p2, p3, hp, q⟩ := h
  cases rx
  obtain ⟨u, rfl, ru⟩ := rxs.one
  obtain ⟨z, its, n, r, hl, e⟩ := I.lstM hH
  obtain ⟨as, r1⟩ := Dp.readsAll I ds vs its ha r
  obtain ⟨bs, r2⟩ := Dp.reads I d y u hy ru
  refine SeqAt.remove_list_data (vs := its.toArray) (xs := ds) (d := d) (j := j) ⟨_, e, rfl, n, rfl⟩ (show ReadsAll s.heap its.toArray.toList ds as from r1) r2 p1 p2 ?_ hp (by rw [List.size_toArray]; omega) ?_
  · have : min (PyData.depthAll ds) d.depth ≤ d.depth := Nat.min_le_right ..
    omega
  refine ⟨.non, _, I.lset (its' := its.eraseIdx j) (t' := s.toks) hH e ?_ (r.eraseIdx j) ?_, rfl, q⟩
  · show its.toArray.eraseIdxIfInBounds j = (its.eraseIdx j).toArray
    rw [List.eraseIdxIfInBounds_toArray]
  · have := len_erase vs j
    omega
end
end Gb

set_option Elab.async false
set_option linter.all false
set_option maxRecDepth 100000
set_option maxHeartbeats 4000000
namespace Lw
open L2 hiding Ext
open PySem PySem.Spec PyProof.Rows Gn Gr Gk Go Gt Gf Gu
theorem take_snoc {α : Type} {l : List α} {i : Nat} {c : α} (h : l[i]? = some c) : l.take (i + 1) = l.take i ++ [c] := by
  rw [List.take_add_one, h]; rfl
theorem par_idx {rs : List FRow} (hg : GoodF [] rs) {j : Nat} {r : FRow} (h : rs[j]? = some r) {m : Str} (hm : r.2 = some m) : ∃ j' r', j' < j ∧ rs[j']? = some r' ∧ r'.1 = m := by
  have ok := (good_at hg h).2.2 m hm
  rw [List.nil_append] at ok
  obtain ⟨r', h1, h2⟩ := List.mem_map.mp ok
  obtain ⟨j', hj⟩ := List.mem_iff_getElem?.mp h1
  have hlt : j' < j := by
    have := (List.getElem?_eq_some_iff.mp hj).1
    rw [List.length_take] at this
    omega
  rw [List.getElem?_take_of_lt hlt] at hj
  exact ⟨j', r', hlt, hj, h2⟩
theorem none_of {H H' : Hp} {p : Addr} (k : Ext H H') (h : H' p = none) : H p = none := by
  cases e : H p with
  | none => rfl
  | some u => rw [k _ _ e] at h; cases h
abbrev nOrder : List Str := ["_law_state", "_law_some", "_law_stock", "_law_found"]
theorem scOrder : FnScope nOrder ["_law_state", "_law_some"] (defScope sLOrder) := ⟨rfl, rfl, rfl, by decide +kernel, rfl, by decide +kernel, by decide +kernel⟩
theorem perm_erase {α : Type} : ∀ {l : List α} {i : Nat} {x : α}, l[i]? = some x → (x :: l.eraseIdx i).Perm l
  | [], _, _, h => by cases h
  | a :: r, 0, x, h => by cases h; exact List.Perm.refl _
  | a :: r, i + 1, x, h => by
    show (x :: a :: r.eraseIdx i).Perm (a :: r)
    exact (List.Perm.swap a x _).trans ((perm_erase (l := r) (i := i) (x := x) (by simpa using h)).cons a)
theorem map_erase {α β : Type} (f : α → β) : ∀ (l : List α) (i : Nat), (l.map f).eraseIdx i = (l.eraseIdx i).map f
  | [], _ => rfl
  | _ :: _, 0 => rfl
  | a :: r, i + 1 => by
    show f a :: (r.map f).eraseIdx i = f a :: (r.eraseIdx i).map f
    rw [map_erase f r i]
theorem lay_all {n : Nat} : ∀ {ds : List PyData}, (∀ x ∈ ds, x.canLay0 = true ∧ x.depth ≤ n) → PyData.canLayAll0 ds = true ∧ PyData.depthAll ds ≤ n
  | [], _ => by constructor <;> simp [PyData.canLayAll0, PyData.depthAll]
  | x :: r, h => by
    obtain ⟨a1, a2⟩ := h x (List.mem_cons_self ..)
    obtain ⟨b1, b2⟩ := lay_all (n := n) (ds := r) fun y hy => h y (List.mem_cons_of_mem _ hy)
    constructor
    · simp [PyData.canLayAll0, a1, b1]
    · simp only [PyData.depthAll]; omega
theorem shaped_lay {n : Nat} {ds : List PyData} (h : ∀ x ∈ ds, x.canLay0 = true ∧ x.depth ≤ n) (hn : n ≤ 10) : SeqAt.shaped (.list ds) = true := by
  obtain ⟨b1, b2⟩ := lay_all h
  have e : PyData.depth (.list ds) = PyData.depthAll ds + 1 := by simp only [PyData.depth]
  unfold SeqAt.shaped
  rw [e]
  simp only [PyData.canLay0, b1, Bool.true_and, decide_eq_true_eq]
  omega
abbrev Rw : Type := Addr × FRow
def parD : Option Str → PyData
  | none => .none
  | some m => .str m
def rowD (r : FRow) : PyData := .tuple [.str r.1, parD r.2]
def rv_ (z : Rw) : V := .ref z.1
def rd_ (z : Rw) : PyData := rowD z.2
def ROk (H : Hp) (z : Rw) : Prop := H z.1 = some (.tup [.str z.2.1, parV z.2.2]) ∧ PyData.strOk z.2.1 = true ∧ ∀ m, z.2.2 = some m → PyData.strOk m = true
theorem dp_par {K : PySem.W.Frag} {H : Hp} : ∀ p : Option Str, Dp K H (parV p) (parD p)
  | none => .non
  | some m => .str m
theorem dp_rws {K : PySem.W.Frag} {H : Hp} : ∀ {zs : List Rw}, (∀ z ∈ zs, ROk H z) → DpAll K H (zs.map rv_) (zs.map rd_)
  | [], _ => .nil
  | z :: r, h => .cons (.tup (SqT.of (h z (List.mem_cons_self ..)).1) (.cons (.str _) (.cons (dp_par _) .nil))) (dp_rws fun y hy => h y (List.mem_cons_of_mem _ hy))
theorem row_lay {r : FRow} (h : PyData.strOk r.1 = true) (k : ∀ m, r.2 = some m → PyData.strOk m = true) : (rowD r).canLay0 = true ∧ (rowD r).depth ≤ 2 := by
  obtain ⟨n, p⟩ := r
  cases p with
  | none => exact ⟨by simp [rowD, parD, PyData.canLay0, PyData.canLayAll0, show PyData.strOk n = true from h], by simp only [rowD, parD, PyData.depth, PyData.depthAll]; omega⟩
  | some m => exact ⟨by simp [rowD, parD, PyData.canLay0, PyData.canLayAll0, show PyData.strOk n = true from h, show PyData.strOk m = true from k m rfl], by simp only [rowD, parD, PyData.depth, PyData.depthAll]; omega⟩
theorem shaped_rws {H : Hp} {zs : List Rw} (h : ∀ z ∈ zs, ROk H z) : SeqAt.shaped (.list (zs.map rd_)) = true := shaped_lay (n := 2) (fun x hx => by
  obtain ⟨z, hz, rfl⟩ := List.mem_map.mp hx
  exact row_lay (h z hz).2.1 (h z hz).2.2) (by omega)
theorem ROk.ext {H H' : Hp} {z : Rw} (h : ROk H z) (k : Ext H H') : ROk H' z := ⟨k _ _ h.1, h.2⟩
theorem ROk.kp {H H' : Hp} {z : Rw} {ns : List Int} {d g c : Addr} {b : Nat} (h : ROk H z) (D : Dw ns d g c b H) (k : Kp d g H H') : ROk H' z := by
  obtain ⟨⟨gs, l, t, hd, hg, _, _⟩, _⟩ := D
  exact ⟨k _ _ (ne_of h.1 hd (by intro z; cases z)) (ne_of h.1 hg (by intro z; cases z)) h.1, h.2⟩
theorem ROk.put {H : Hp} {z : Rw} {a : Addr} {u u' : List V} (h : ROk H z) (ha : H a = some (.lst u)) : ROk (upd H a (.lst u')) z :=
  ⟨by rw [upd_ne (ne_of h.1 ha (by intro z; cases z))]; exact h.1, h.2⟩
theorem rw_of {H : Hp} {xs : List V} {rs : List FRow} (h : RowsAt H xs rs) (ho : ∀ r ∈ rs, PyData.strOk r.1 = true ∧ ∀ m, r.2 = some m → PyData.strOk m = true) : ∃ zs : List Rw, xs = zs.map rv_ ∧ rs = zs.map (fun z => z.2) ∧ ∀ z ∈ zs, ROk H z := by
  induction rs generalizing xs with
  | nil =>
    have e : xs = [] := List.length_eq_zero_iff.mp h.1
    exact ⟨[], e, rfl, fun z hz => by cases hz⟩
  | cons c r ih =>
    cases xs with
    | nil => have := h.1; simp at this
    | cons x xr =>
      obtain ⟨p, h1, h2⟩ := h.2 0 c rfl
      have h1 : some x = some (V.ref p) := h1
      cases h1
      obtain ⟨zs, e1, e2, e3⟩ := ih (xs := xr) ⟨by have := h.1; simpa using this, fun i c' hc => h.2 (i + 1) c' (by simpa using hc)⟩ (fun c' hc' => ho c' (List.mem_cons_of_mem _ hc'))
      refine ⟨(p, c) :: zs, by rw [e1]; rfl, by rw [e2]; rfl, fun z hz => ?_⟩
      rcases List.mem_cons.mp hz with rfl | hz
      · exact ⟨h2, ho _ (List.mem_cons_self ..)⟩
      · exact e3 z hz
theorem rows_of_rw {H : Hp} {zs : List Rw} (h : ∀ z ∈ zs, ROk H z) : RowsAt H (zs.map rv_) (zs.map fun z => z.2) := by
  refine ⟨by rw [List.length_map, List.length_map], fun i c hc => ?_⟩
  rw [List.getElem?_map] at hc
  obtain ⟨z, hz, rfl⟩ := Option.map_eq_some_iff.mp hc
  exact ⟨z.1, by rw [List.getElem?_map, hz]; rfl, (h z (List.mem_of_getElem? hz)).1⟩
/-! ### which row may come next -/
theorem ready_row {rs ys st : List FRow} (g : GoodF [] rs) (p : (ys ++ st).Perm rs) (h : st ≠ []) : ∃ r ∈ st, r.2 = none ∨ ∃ m, r.2 = some m ∧ m ∈ fNames ys := by
  have key : ∀ (n i : Nat) (r : FRow), i < n → rs[i]? = some r → r ∈ st → ∃ r ∈ st, r.2 = none ∨ ∃ m, r.2 = some m ∧ m ∈ fNames ys := by
    intro n
    induction n with
    | zero => intro i r h; omega
    | succ n ih =>
      intro i r hi hr hm
      cases e : r.2 with
      | none => exact ⟨r, hm, .inl e⟩
      | some m =>
        obtain ⟨j, r', hj, hr', em⟩ := par_idx g hr e
        rcases List.mem_append.mp (p.mem_iff.mpr (List.mem_of_getElem? hr')) with h' | h'
        · exact ⟨r, hm, .inr ⟨m, e, List.mem_map.mpr ⟨r', h', em⟩⟩⟩
        · exact ih j r' (by omega) hr' h'
  cases st with
  | nil => exact absurd rfl h
  | cons r0 sr =>
    obtain ⟨i, hi⟩ := List.mem_iff_getElem?.mp (p.mem_iff.mp (List.mem_append.mpr (.inr (List.mem_cons_self (a := r0) (l := sr)))))
    exact key (i + 1) i r0 (Nat.lt_succ_self _) hi (List.mem_cons_self ..)
def okNext (ks : List Str) (z : Rw) : Bool := match z.2.2 with
  | none => true
  | some m => decide (m ∈ ks)
theorem eqv_row {r q : FRow} (h : PyData.eqv (rowD r) (rowD q) = true) : r = q := by
  obtain ⟨n, p⟩ := r
  obtain ⟨m, p'⟩ := q
  cases p <;> cases p' <;> simp_all [rowD, parD, PyData.eqv, PyData.eqvAll]
theorem eqv_self (r : FRow) : PyData.eqv (rowD r) (rowD r) = true := by
  obtain ⟨n, p⟩ := r
  cases p <;> simp [rowD, parD, PyData.eqv, PyData.eqvAll]
theorem place_row {st : List Rw} {x : Rw} (hx : x ∈ st) (nd : (fNames (st.map fun z => z.2)).Nodup) : ∃ j, SeqAt.dataPlace (st.map rd_) (rd_ x) = some j ∧ st[j]? = some x := by
  cases e : SeqAt.dataPlace (st.map rd_) (rd_ x) with
  | none =>
    unfold SeqAt.dataPlace at e
    have := List.findIdx?_eq_none_iff.mp e (rd_ x) (List.mem_map.mpr ⟨x, hx, rfl⟩)
    rw [show PyData.eqv (rd_ x) (rd_ x) = true from eqv_self _] at this
    cases this
  | some j =>
    unfold SeqAt.dataPlace at e
    obtain ⟨h1, h2, _⟩ := List.findIdx?_eq_some_iff_getElem.mp e
    rw [List.length_map] at h1
    rw [List.getElem_map] at h2
    have er := eqv_row h2
    refine ⟨j, rfl, ?_⟩
    obtain ⟨i, hi⟩ := List.mem_iff_getElem?.mp hx
    have a : (fNames (st.map fun z => z.2))[i]? = some x.2.1 := by unfold fNames; rw [List.getElem?_map, List.getElem?_map, hi]; rfl
    have b : (fNames (st.map fun z => z.2))[j]? = some x.2.1 := by unfold fNames; rw [List.getElem?_map, List.getElem?_map, List.getElem?_eq_getElem h1]; show some st[j].2.1 = _; rw [er]
    have il := (List.getElem?_eq_some_iff.mp a).1
    have : i = j := (List.getElem?_inj il nd).mp (a.trans b.symm)
    rw [← this]
    exact hi
section
variable {P : Program} {w : World} {K : PySem.W.Frag} {mg : Str → Option Value} {base : Heap}
def spOrderR (ns : List Int) : Sp := fun vs H Q _ => ∃ (d g c l : Addr) (b : Nat) (ws : List Rw), vs = [.ref d, .ref l] ∧ Dw ns d g c b H ∧ b ≤ 900000000 ∧ H l = some (.lst (ws.map rv_)) ∧ ws.length ≤ 100 ∧ (∀ z ∈ ws, ROk H z) ∧
  ∀ (p : Addr) (ys : List Rw) (H' : Hp), H p = none → p ≠ d → p ≠ g → H' p = some (.lst (ys.map rv_)) → ys.Perm ws → (∀ z ∈ ys, ROk H' z) → Dw ns d g c (b + 100) H' → Kp d g H H' → Q (.ref p) H'
theorem ok_orderR {f fT fP : Addr} {fd fdT fdP : FuncData} (ns : List Int) (F : Fun K "_law_order" "_law_order" sLOrder f fd) (T : Names mg) (R : Draw P w K mg base ns fT fP fdT fdP) : FnOk P w K mg base CX0 3 f fd ["_law_state", "_law_some"] (spOrderR ns) := by
  refine F.ok scOrder (fun vs H Q E h => ?_) (fun cdv A outer s H vs Q E hr h => ?_)
  · obtain ⟨d, g, c, l, b, ws, rfl, _⟩ := h
    rfl
  · obtain ⟨d, g, c, l, b, ws, rfl, D, hb, hl, hw8, hwo, k⟩ := h
    have hu := hu_of hr
    have nd := scOrder.nd
    have hr2 := hr
    refine ⟨_, pss_cons (ps_par (i := 2) (j := 3) (by rfl) nd rfl rfl (by decide) rfl rfl (pa_cons (pe_callTy call_list_of rfl T.list (by decide +kernel) (pa_cons (pv 1) pa_nil)) (pa_cons (pe_lst pa_nil) pa_nil)) (by rfl))
(pss_cons (ps_while PassesOwn.never (pt_cmpR (op_neD hr.units) (pv 2) (pe_lst pa_nil) (nomark _))
(pss_one (ps_expr (pe_bm PySem.F.plainAttrs_list PySem.F.slot_list_append PySem.F.type_list_append mt_append (pv 3) (pa_cons (pe_bm PySem.F.plainAttrs_list PySem.F.slot_list_pop PySem.F.type_list_pop mt_popAt (pv 2) (pa_cons (pe_call R.GT hr2 rfl R.mT R.kT R.bT .nil pass0 (pa_cons (pv 0) (pa_cons (pe_callB call_len_seq rfl T.len PySem.boot_len (pa_cons (pv 2) pa_nil)) pa_nil))) pa_nil)) pa_nil)))))
(pss_one (ps_ret (pv 3)))), ?_⟩
    refine ⟨_, rfl, l, _, rfl, .inl (SqL.of hl), fun q hq => ?_⟩
    have Dq := D.new (o := .lst (ws.map rv_)) hq
    refine ⟨Nat.zero_le _, fun L hL => ?_⟩
    refine ⟨_, _, rfl, ?_⟩
    have DL := Dq.new (o := .lst []) hL
    have nqd := D.nd hq
    have nqg := D.ng hq
    have nqc : q ≠ c := fun e => by rw [e, D.cl] at hq; cases hq
    have nLd := Dq.nd hL
    have nLg := Dq.ng hL
    have nLc : L ≠ c := fun e => by rw [e, Dq.cl] at hL; cases hL
    have q1 := new_same (o := .lst []) hL _ _ (upd_same (H := H) (a := q) (o := .lst (ws.map rv_)))
    have L1 : (upd (upd H q (.lst (ws.map rv_))) L (.lst [])) L = some (.lst (([] : List Rw).map rv_)) := upd_same
    have nqL : q ≠ L := fun e => by rw [← e] at hL; rw [upd_same] at hL; cases hL
    have hL0 : H L = none := none_of (Ext.new (o := .lst (ws.map rv_)) hq) hL
    have k1 : Kp d g H (upd (upd H q (.lst (ws.map rv_))) L (.lst [])) := (Kp.new hq).trans (Kp.new hL)
    have w1 : ∀ z ∈ ws, ROk (upd (upd H q (.lst (ws.map rv_))) L (.lst [])) z := fun z hz => ((hwo z hz).ext (Ext.new hq)).ext (Ext.new hL)
    generalize upd (upd H q (.lst (ws.map rv_))) L (.lst []) = H1 at DL q1 L1 k1 w1 ⊢
    refine while_by (fun σ H' => ∃ (st ys : List Rw), σ = [some (.ref d), some (.ref l), some (.ref q), some (.ref L)] ∧ H' q = some (.lst (st.map rv_)) ∧ H' L = some (.lst (ys.map rv_)) ∧ (ys ++ st).Perm ws ∧ (∀ z ∈ ws, ROk H' z) ∧ Dw ns d g c (b + ys.length) H' ∧ Kp d g H H')
      (fun _ H' => match H' q with | some (.lst xs) => xs.length | _ => 0) ⟨ws, [], rfl, q1, L1, List.Perm.refl _, w1, DL, k1⟩ ?_ ?_
    · rintro σ H2 ⟨st, ys, rfl, q2, L2, hp, w2, D2, k2⟩
      have hlen : ys.length + st.length ≤ 100 := by
        have := hp.length_eq
        rw [List.length_append] at this
        omega
      refine ⟨_, rfl, Nat.zero_le _, fun e he => ?_⟩
      have D3 := D2.new (o := .lst []) he
      have q3 := new_same (o := .lst []) he _ _ q2
      have L3 := new_same (o := .lst []) he _ _ L2
      have w3 : ∀ z ∈ ws, ROk (upd H2 e (.lst [])) z := fun z hz => (w2 z hz).ext (Ext.new he)
      have hso : ∀ z ∈ st, ROk (upd H2 e (.lst [])) z := fun z hz => w3 z (hp.mem_iff.mp (List.mem_append.mpr (.inr hz)))
      have k3 : Kp d g H (upd H2 e (.lst [])) := k2.trans (Kp.new he)
      refine ⟨_, _, .lst (SqL.of q3) (dp_rws hso), .lst (SqL.of upd_same) .nil, shaped_rws hso, shaped_nil, _, rfl, ?_⟩
      rw [eqv_nil]
      have mq : (match H2 q with | some (.lst xs) => xs.length | _ => 0) = st.length := by rw [q2]; exact List.length_map ..
      generalize upd H2 e (.lst []) = H3 at D3 q3 L3 k3 w3 hso ⊢
      cases st with
      | nil =>
        refine iteF ?_
        rw [List.append_nil] at hp
        exact ⟨_, rfl, k L ys H3 hL0 nLd nLg L3 hp (fun z hz => w3 z (hp.mem_iff.mp hz)) (D3.mono (by omega)) k3⟩
      | cons s0 sr =>
        refine iteT ?_
        rw [List.length_cons] at hlen
        refine ⟨_, rfl, .inl ⟨rfl, _, SqL.of L3⟩, _, rfl, .inl ⟨rfl, _, SqL.of q3⟩, _, rfl, _, rfl, q, _, rfl, .inl (SqL.of q3), d, g, c, _, _, rfl, D3, by omega, by rw [List.length_map, List.length_cons]; omega, by rw [List.length_map, List.length_cons]; omega, fun r H4 r0 r1 D4 k4 => ?_⟩
        rw [List.length_map, List.length_cons] at r1
        have q4 := k4 _ _ nqd nqg q3
        have L4 := k4 _ _ nLd nLg L3
        have w4 : ∀ z ∈ ws, ROk H4 z := fun z hz => (w3 z hz).kp D3 k4
        have hri : r.toNat < (s0 :: sr).length := by rw [List.length_cons]; omega
        have hx := List.getElem?_eq_getElem hri
        generalize hxv : (s0 :: sr)[r.toNat] = x at hx
        refine ⟨q, _, r, r.toNat, rv_ x, rfl, rfl, q4, by omega, by omega, ?_, ?_, ?_⟩
        · rw [List.length_map]
          exact ix_pos r0 (by rw [List.length_cons]; omega)
        · rw [List.getElem?_map, hx]; rfl
        have L5 : (upd H4 q (.lst ((((s0 :: sr).map rv_).eraseIdx r.toNat)))) L = some (.lst (ys.map rv_)) := by rw [upd_ne nqL.symm]; exact L4
        refine ⟨L, _, _, rfl, rfl, L5, small1000 (by rw [List.length_map]; omega), ?_⟩
        have D5 := (D4.put (o := .lst ((((s0 :: sr).map rv_).eraseIdx r.toNat))) q4 nqd nqg nqc)
        have D6 := D5.put (o := .lst (ys.map rv_ ++ [rv_ x])) L5 nLd nLg nLc
        refine ⟨⟨(s0 :: sr).eraseIdx r.toNat, ys ++ [x], rfl, ?_, by rw [upd_same, List.map_append]; rfl, ?_, fun z hz => ((w4 z hz).put q4).put L5, ?_, ?_⟩, ?_⟩
        · rw [upd_ne nqL, upd_same, map_erase]
        · refine List.Perm.trans ?_ hp
          rw [List.append_assoc]
          exact (perm_erase hx).append_left ys
        · rw [List.length_append]
          exact D6.mono (by show _ ≤ b + (ys.length + 1); omega)
        · exact fun a o n1 n2 ha => by
            rw [upd_ne (ne_of_none ha hL0), upd_ne (ne_of_none ha hq)]
            exact (k3.trans k4) a o n1 n2 ha
        · show (match (upd (upd H4 q _) L _) q with | some (.lst xs) => xs.length | _ => 0) < _
          rw [mq, upd_ne nqL, upd_same]
          show (((s0 :: sr).map rv_).eraseIdx r.toNat).length < _
          rw [List.length_eraseIdx, List.length_map, if_pos hri, List.length_cons]
          omega
    · exact fun σ H Q Q' hq ⟨v, e1, e2, f⟩ => ⟨v, e1, e2, fun e he => by
        obtain ⟨dd, ee, a1, a2, a3, a4, b, e3, h⟩ := f e he
        exact ⟨dd, ee, a1, a2, a3, a4, b, e3, hq _ _ h⟩⟩
end
end Lw

set_option Elab.async false
set_option linter.all false
set_option maxRecDepth 100000
set_option maxHeartbeats 4000000
namespace Lw
open L2 hiding Ext
open PySem PySem.Spec PyProof.Rows Gn Gr Gk Go Gt Gf Gu
theorem row_plain (r : FRow) : (rowD r).plain = true := by
  obtain ⟨n, p⟩ := r
  cases p <;> simp [rowD, parD, PyData.plain, PyData.plainAll]
theorem plain_all : ∀ {ds : List PyData}, (∀ x ∈ ds, x.plain = true) → PyData.plainAll ds = true
  | [], _ => by simp [PyData.plainAll]
  | x :: r, h => by
    simp only [PyData.plainAll, h x (List.mem_cons_self ..), plain_all fun y hy => h y (List.mem_cons_of_mem _ hy), Bool.and_true]
section
variable {P : Program} {w : World} {K : PySem.W.Frag} {mg : Str → Option Value} {base : Heap}
/-! ### _law_sorted_rows -/
abbrev nSorted : List Str := ["_law_state", "_law_stock", "_law_found", "_law_left", "_law_known", "_law_ready", "_law_row"]
def spSorted (ns : List Int) : Sp := fun vs H Q _ => ∃ (d g c l : Addr) (b : Nat) (ws : List Rw), vs = [.ref d, .ref l] ∧ Dw ns d g c b H ∧ b ≤ 800000000 ∧ H l = some (.lst (ws.map rv_)) ∧ Good (ws.map fun z => z.2) ∧ (∀ z ∈ ws, ROk H z) ∧
  ∀ (p : Addr) (ys : List Rw) (H' : Hp), H p = none → p ≠ d → p ≠ g → H' p = some (.lst (ys.map rv_)) → ys.Perm ws → Good (ys.map fun z => z.2) → (∀ z ∈ ys, ROk H' z) → Dw ns d g c (b + 200) H' → Kp d g H H' → Q (.ref p) H'
theorem scSorted : FnScope nSorted ["_law_state", "_law_stock"] (defScope sLSortedRows) := ⟨rfl, rfl, rfl, by decide +kernel, rfl, by decide +kernel, by decide +kernel⟩
theorem ok_sorted {f fO : Addr} {fd fdO : FuncData} (ns : List Int) (F : Fun K "_law_sorted_rows" "_law_sorted_rows" sLSortedRows f fd) (T : Names mg)
    (GO : FnOk P w K mg base CX0 3 fO fdO ["_law_state", "_law_some"] (spOrderR ns)) (bO : Binds K fdO ["_law_state", "_law_some"] []) (kO : PySem.W.keepIn K (.ref fO) = true) (mO : mg "_law_order" = some (.ref fO)) :
    FnOk P w K mg base CX0 4 f fd ["_law_state", "_law_stock"] (spSorted ns) := by
  refine F.ok scSorted (fun vs H Q E h => ?_) (fun cdv A outer s H vs Q E hr h => ?_)
  · obtain ⟨d, g, c, l, b, ws, rfl, _⟩ := h
    rfl
  · obtain ⟨d, g, c, l, b, ws, rfl, D, hb, hl, G, hwo, k⟩ := h
    have hu := hu_of hr
    have nd := scSorted.nd
    have hr3 := hr
    have hu65 : (A.deeper (envOfC "_law_sorted_rows" (defScope sLSortedRows) s.heap.objs.size f cdv)).units + 65 < cLine := by have := hr.un; omega
    refine ⟨_, pss_cons (ps_par (i := 2) (j := 3) (by rfl) nd rfl rfl (by decide) rfl rfl (pa_cons (pe_lst pa_nil) (pa_cons (pe_call GO hr3 rfl mO kO bO .nil pass0 (pa_cons (pv 0) (pa_cons (pv 1) pa_nil))) pa_nil)) (by rfl))
(pss_cons (ps_while PassesOwn.never (pt_cmpR (op_neD hr.units) (pv 3) (pe_lst pa_nil) (nomark _))
(pss_cons (ps_set (i := 4) nd rfl (.inr rfl) (pe_lc (own := [("_law_row", 6)]) (g := gName 6) (tt := tYes) rfl nd (pi_list (pv 2)) (blkOk_by (N := nSorted) (sc := defScope sLSortedRows) (by decide +kernel))
(fun _ _ _ _ _ => pg_name (i := 6) nd rfl (.inl rfl)) (fun _ _ _ _ _ => pts_nil) (fun _ _ _ _ _ => pe_ix (r := rIxT K) ix_tup (pv 6) pe_int (fun _ _ => rfl))))
(pss_cons (ps_setLc (i := 5) (own := [("_law_row", 6)]) (g := gName 6) rfl nd rfl rfl (sw_true rfl rfl rfl (by decide +kernel)) (pi_list (pv 3)) (blkOk_by (N := nSorted) (sc := defScope sLSortedRows) (by decide +kernel))
(fun _ _ _ _ _ => pg_name (i := 6) nd rfl (.inl rfl)) (fun _ _ _ _ _ => pts_one (PW.pt (pw_or (pt_cmpR op_isN (pe_ix (r := rIxT K) ix_tup (pv 6) pe_int (fun _ _ => rfl)) pe_non (nomark _)) (pw_or1 (pt_cmpR (r := rIn K false) op_in_seq (pe_ix (r := rIxT K) ix_tup (pv 6) pe_int (fun _ _ => rfl)) (pv 4) rfl))))) (fun _ _ _ _ _ => pv 6))
(pss_cons (ps_expr (pe_bm PySem.F.plainAttrs_list PySem.F.slot_list_append PySem.F.type_list_append mt_append (pv 2) (pa_cons (pe_ix ix_list (pv 5) pe_int (fun _ _ => rfl)) pa_nil)))
(pss_one (ps_expr (pe_bm PySem.F.plainAttrs_list PySem.F.slot_list_remove PySem.F.type_list_remove (Gb.mt_removeD hu65) (pv 3) (pa_cons (pe_ix ix_list (pv 5) pe_int (fun _ _ => rfl)) pa_nil))))))))
(pss_one (ps_ret (pv 2)))), ?_⟩
    have wlen : ws.length ≤ 8 := by have := G.2.1; rwa [List.length_map] at this
    have Gn := (good_nodup G.2.2).1
    refine ⟨Nat.zero_le _, fun L hL => ?_⟩
    have DL := D.new (o := .lst []) hL
    have nLd := D.nd hL
    have nLg := D.ng hL
    have nLc : L ≠ c := fun e => by rw [e, D.cl] at hL; cases hL
    have L1 : (upd H L (.lst [])) L = some (.lst (([] : List Rw).map rv_)) := upd_same
    have k1 : Kp d g H (upd H L (.lst [])) := Kp.new hL
    have w1 : ∀ z ∈ ws, ROk (upd H L (.lst [])) z := fun z hz => (hwo z hz).ext (Ext.new hL)
    have l1 := new_same (o := .lst []) hL _ _ hl
    generalize upd H L (.lst []) = H1 at DL L1 k1 w1 l1 ⊢
    refine ⟨_, rfl, _, rfl, d, g, c, l, _, ws, rfl, DL, by omega, l1, by omega, w1, fun q st0 H2 hq0 nqd nqg q2 hp0 w2 D2 k2 => ?_⟩
    refine ⟨_, _, rfl, ?_⟩
    have L2 := k2 _ _ nLd nLg L1
    have k2 := k1.trans k2
    have nqL : q ≠ L := fun e => by rw [e, L1] at hq0; cases hq0
    have nqc : q ≠ c := fun e => by rw [e, DL.cl] at hq0; cases hq0
    have hqH : H q = none := by
      cases e : H q with
      | none => rfl
      | some o => rw [k1 q o nqd nqg e] at hq0; cases hq0
    refine while_by (fun σ H' => ∃ (st ys : List Rw) (v4 v5 : Option V), σ = [some (.ref d), some (.ref l), some (.ref L), some (.ref q), v4, v5, none] ∧ H' q = some (.lst (st.map rv_)) ∧ H' L = some (.lst (ys.map rv_)) ∧ (ys ++ st).Perm ws ∧ GoodF [] (ys.map fun z => z.2) ∧ (∀ z ∈ ws, ROk H' z) ∧ Dw ns d g c (b + 150) H' ∧ Kp d g H H')
      (fun _ H' => match H' q with | some (.lst xs) => xs.length | _ => 0) ⟨st0, [], none, none, rfl, q2, L2, hp0, trivial, fun z hz => w2 z (hp0.mem_iff.mpr hz), D2.mono (by omega), k2⟩ ?_ ?_
    · rintro σ H2 ⟨st, ys, v4, v5, rfl, q2, L2, hp, gy, w2, D2, k2⟩
      have hlen : ys.length + st.length ≤ 8 := by
        have := hp.length_eq
        rw [List.length_append] at this
        omega
      refine ⟨_, rfl, Nat.zero_le _, fun e he => ?_⟩
      have D3 := D2.new (o := .lst []) he
      have q3 := new_same (o := .lst []) he _ _ q2
      have L3 := new_same (o := .lst []) he _ _ L2
      have w3 : ∀ z ∈ ws, ROk (upd H2 e (.lst [])) z := fun z hz => (w2 z hz).ext (Ext.new he)
      have hso : ∀ z ∈ st, ROk (upd H2 e (.lst [])) z := fun z hz => w3 z (hp.mem_iff.mp (List.mem_append.mpr (.inr hz)))
      have hyo : ∀ z ∈ ys, ROk (upd H2 e (.lst [])) z := fun z hz => w3 z (hp.mem_iff.mp (List.mem_append.mpr (.inl hz)))
      have k3 : Kp d g H (upd H2 e (.lst [])) := k2.trans (Kp.new he)
      refine ⟨_, _, .lst (SqL.of q3) (dp_rws hso), .lst (SqL.of upd_same) .nil, shaped_rws hso, shaped_nil, _, rfl, ?_⟩
      rw [eqv_nil]
      have mq : (match H2 q with | some (.lst xs) => xs.length | _ => 0) = st.length := by rw [q2]; exact List.length_map ..
      generalize upd H2 e (.lst []) = H3 at D3 q3 L3 k3 w3 hso hyo ⊢
      cases st with
      | nil =>
        refine iteF ?_
        rw [List.append_nil] at hp
        exact ⟨_, rfl, k L ys H3 hL nLd nLg L3 hp ⟨by rw [List.length_map, hp.length_eq]; have := G.1; rwa [List.length_map] at this, by rw [List.length_map]; omega, gy⟩ (fun z hz => w3 z (hp.mem_iff.mp hz)) (D3.mono (by omega)) k3⟩
      | cons s0 sr =>
        refine iteT ?_
        rw [List.length_cons] at hlen
        clear D2 q2 L2 w2 k2
        -- the names that stand
        refine ⟨_, rfl, L, rfl, ⟨_, SqL.of L3⟩, fun ka hka => ?_⟩
        refine lc_it walk_list (fun i H' => H' ka = some (.lst (((ys.map fun z => z.2.1).take i).map V.str)) ∧ Ext H3 H') ⟨upd_same, Ext.new hka⟩ (fun i H' _ ⟨_, e⟩ => SqL.of (e _ _ L3)) ?_ ?_
        · rintro i' z H6 H6' hi' ⟨d6, k6⟩ ⟨rfl, hz⟩
          rw [List.getElem?_map] at hz
          obtain ⟨y, hy, rfl⟩ := Option.map_eq_some_iff.mp hz
          have hyn : (ys.map fun z => z.2.1)[i']? = some y.2.1 := by rw [List.getElem?_map, hy]; rfl
          refine ⟨rfl, yes_of ?_⟩
          refine ⟨_, rfl, y.1, _, _, _, rfl, rfl, SqT.of (k6 _ _ (hyo y (List.mem_of_getElem? hy)).1), (show atI [V.str y.2.1, parV y.2.2] ((0 : Nat) : Int) = some (V.str y.2.1) from atI_nat rfl), _, d6, ?_, ?_, fun x o e => ?_⟩
          · rw [List.length_map, List.length_take]
            exact small1000 (by rw [List.length_map] at *; omega)
          · rw [upd_same, take_snoc hyn, List.map_append]
            rfl
          · rw [upd_ne (ne_of_none e hka)]
            exact k6 _ _ e
        rintro H4 ⟨d4, k4⟩
        rw [show (ys.map fun z => z.2.1).take (ys.map rv_).length = ys.map fun z => z.2.1 from List.take_of_length_le (by rw [List.length_map, List.length_map]; exact Nat.le_refl _)] at d4
        have q4 := k4 _ _ q3
        have L4 := k4 _ _ L3
        have D4 := D3.keep k4
        have w4 : ∀ z ∈ ws, ROk H4 z := fun z hz => (w3 z hz).ext k4
        have hso4 : ∀ z ∈ s0 :: sr, ROk H4 z := fun z hz => (hso z hz).ext k4
        have k4' := k3.trans (Kp.of k4)
        clear hyo hso w3 D3 L3 q3 k3
        -- the rows that may come
        refine ⟨_, rfl, q, rfl, ⟨_, SqL.of q4⟩, fun ra hra => ?_⟩
        refine lc_it walk_list (fun i H' => H' ra = some (.lst ((((s0 :: sr).take i).filter (okNext (ys.map fun z => z.2.1))).map rv_)) ∧ Ext H4 H') ⟨upd_same, Ext.new hra⟩ (fun i H' _ ⟨_, e⟩ => SqL.of (e _ _ q4)) ?_ ?_
        · rintro i' z H6 H6' hi' ⟨d6, k6⟩ ⟨rfl, hz⟩
          rw [List.getElem?_map] at hz
          obtain ⟨y, hy, rfl⟩ := Option.map_eq_some_iff.mp hz
          have hyo := (hso4 y (List.mem_of_getElem? hy)).1
          have ht := SqT.of (K := K) (k6 _ _ hyo)
          have hyt : (s0 :: sr).take (i' + 1) = (s0 :: sr).take i' ++ [y] := take_snoc hy
          have add : okNext (ys.map fun z => z.2.1) y = true → ∀ H7 : Hp, H7 = H6' → ∃ acc, H7 ra = some (.lst acc) ∧ acc.length < sizeLine ∧ upd H7 ra (.lst (acc ++ [rv_ y])) ra = some (.lst ((((s0 :: sr).take (i' + 1)).filter (okNext (ys.map fun z => z.2.1))).map rv_)) ∧ Ext H4 (upd H7 ra (.lst (acc ++ [rv_ y]))) := by
            rintro ho H7 rfl
            refine ⟨_, d6, ?_, ?_, fun x o e => ?_⟩
            · rw [List.length_map]
              refine small1000 (Nat.le_trans (List.length_filter_le ..) ?_)
              rw [List.length_take, List.length_cons]
              omega
            · rw [upd_same, hyt, List.filter_append, List.filter_cons_of_pos ho, List.filter_nil, List.map_append]
              rfl
            · rw [upd_ne (ne_of_none e hra)]
              exact k6 _ _ e
          have non : okNext (ys.map fun z => z.2.1) y = false → ∀ H7 : Hp, H7 = H6' → H7 ra = some (.lst ((((s0 :: sr).take (i' + 1)).filter (okNext (ys.map fun z => z.2.1))).map rv_)) ∧ Ext H4 H7 := by
            rintro ho H7 rfl
            refine ⟨?_, k6⟩
            rw [hyt, List.filter_append, List.filter_cons_of_neg (by rw [ho]; exact Bool.false_ne_true), List.filter_nil, List.append_nil]
            exact d6
          have kaq : H6' ka = some (.lst ((ys.map fun z => z.2.1).map V.str)) := k6 _ _ d4
          obtain ⟨qa, n, p⟩ := y
          cases p with
          | none =>
            refine ⟨rfl, _, rfl, qa, _, _, _, rfl, rfl, ht, (show atI [V.str n, V.non] ((1 : Nat) : Int) = some V.non from atI_nat rfl), rfl, _, rfl, ?_⟩
            refine iteS rfl ?_
            exact iteT ⟨_, rfl, add rfl _ rfl⟩
          | some m =>
            refine ⟨rfl, _, rfl, qa, _, _, _, rfl, rfl, ht, (show atI [V.str n, V.str m] ((1 : Nat) : Int) = some (V.str m) from atI_nat rfl), rfl, _, rfl, ?_⟩
            refine iteN (by intro z; cases z) ?_
            refine ⟨_, rfl, qa, _, _, _, rfl, rfl, ht, (show atI [V.str n, V.str m] ((1 : Nat) : Int) = some (V.str m) from atI_nat rfl), _, rfl, ka, _, rfl, .inl (SqL.of kaq), rfl, strs_flat _, _, rfl, ?_⟩
            rw [inV_strs]
            by_cases hm : m ∈ ys.map fun z => z.2.1
            · exact iteS hm ⟨_, rfl, add (decide_eq_true hm) _ rfl⟩
            · exact iteN hm (non (decide_eq_false hm) _ rfl)
        rintro H5 ⟨d5, k5⟩
        rw [show (s0 :: sr).take ((s0 :: sr).map rv_).length = s0 :: sr from List.take_of_length_le (by rw [List.length_map]; exact Nat.le_refl _)] at d5
        have q5 := k5 _ _ q4
        have L5 := k5 _ _ L4
        have D5 := D4.keep k5
        have w5 : ∀ z ∈ ws, ROk H5 z := fun z hz => (w4 z hz).ext k5
        have k5' := k4'.trans (Kp.of k5)
        have eN : ∀ l : List Rw, fNames (l.map fun z => z.2) = l.map fun z => z.2.1 := fun l => by unfold fNames; rw [List.map_map]; rfl
        have ndw := Gn
        have pn : (fNames ((ys ++ s0 :: sr).map fun z => z.2)).Nodup := ((hp.map fun z : Rw => z.2).map fun r : FRow => r.1).nodup_iff.mpr Gn
        obtain ⟨x, hx⟩ : ∃ x, ((s0 :: sr).filter (okNext (ys.map fun z => z.2.1)))[0]? = some x := by
          obtain ⟨r, hr, ho⟩ := ready_row (rs := ws.map fun z => z.2) (ys := ys.map fun z => z.2) (st := (s0 :: sr).map fun z => z.2) G.2.2 (by rw [← List.map_append]; exact hp.map _) (by intro z; cases z)
          obtain ⟨z, hz, rfl⟩ := List.mem_map.mp hr
          have : z ∈ (s0 :: sr).filter (okNext (ys.map fun z => z.2.1)) := List.mem_filter.mpr ⟨hz, by
            unfold okNext
            rcases ho with e | ⟨m, e, hm⟩
            · rw [e]
            · rw [e]
              rw [eN] at hm
              exact decide_eq_true hm⟩
          exact ⟨_, List.getElem?_eq_getElem (List.length_pos_of_mem this)⟩
        have hxf := List.mem_filter.mp (List.mem_of_getElem? hx)
        have nds : (fNames ((s0 :: sr).map fun z => z.2)).Nodup := by
          rw [eN] at pn ⊢
          rw [List.map_append] at pn
          exact (List.nodup_append.mp pn).2.1
        obtain ⟨j, hj1, hj2⟩ := place_row hxf.1 nds
        have hso5 : ∀ z ∈ s0 :: sr, ROk H5 z := fun z hz => w5 z (hp.mem_iff.mp (List.mem_append.mpr (.inr hz)))
        have xw : x ∈ ws := hp.mem_iff.mp (List.mem_append.mpr (.inr hxf.1))
        have nra : H3 ra = none := none_of k4 hra
        have nrL : ra ≠ L := fun e => by rw [e, L4] at hra; cases hra
        have nrq : ra ≠ q := fun e => by rw [e, q4] at hra; cases hra
        have at0 : atI (((s0 :: sr).filter (okNext (ys.map fun z => z.2.1))).map rv_) ((0 : Nat) : Int) = some (rv_ x) := atI_nat (by rw [List.getElem?_map, hx]; rfl)
        refine ⟨_, rfl, .inl ⟨rfl, _, SqL.of L5⟩, _, rfl, ra, _, _, _, rfl, rfl, SqL.of d5, at0, L, _, _, rfl, rfl, L5, small1000 (by rw [List.length_map]; omega), ?_⟩
        have D6 := D5.put (o := .lst (ys.map rv_ ++ [rv_ x])) L5 nLd nLg nLc
        have w6 : ∀ z ∈ ws, ROk (upd H5 L (.lst (ys.map rv_ ++ [rv_ x]))) z := fun z hz => (w5 z hz).put L5
        have q6 : (upd H5 L (.lst (ys.map rv_ ++ [rv_ x]))) q = some (.lst ((s0 :: sr).map rv_)) := by rw [upd_ne nqL]; exact q5
        have r6 : (upd H5 L (.lst (ys.map rv_ ++ [rv_ x]))) ra = some (.lst (((s0 :: sr).filter (okNext (ys.map fun z => z.2.1))).map rv_)) := by rw [upd_ne nrL]; exact d5
        have L6 : (upd H5 L (.lst (ys.map rv_ ++ [rv_ x]))) L = some (.lst ((ys ++ [x]).map rv_)) := by rw [upd_same, List.map_append]; rfl
        have k6 : Kp d g H (upd H5 L (.lst (ys.map rv_ ++ [rv_ x]))) := fun a o n1 n2 ha => by
          rw [upd_ne (ne_of_none ha hL)]
          exact k5' a o n1 n2 ha
        generalize upd H5 L (.lst (ys.map rv_ ++ [rv_ x])) = H6 at D6 w6 q6 r6 L6 k6 ⊢
        have hso6 : ∀ z ∈ s0 :: sr, ROk H6 z := fun z hz => w6 z (hp.mem_iff.mp (List.mem_append.mpr (.inr hz)))
        refine ⟨_, rfl, .inl ⟨rfl, _, SqL.of q6⟩, _, rfl, ra, _, _, _, rfl, rfl, SqL.of r6, at0, q, _, rv_ x, rd_ x, _, j, rfl, rfl, q6, dp_rws hso6, .tup (SqT.of (w6 x xw).1) (.cons (.str _) (.cons (dp_par _) .nil)), ?_, ?_, ?_, hj1, ?_⟩
        · refine plain_all fun y hy => ?_
          obtain ⟨z, _, rfl⟩ := List.mem_map.mp hy
          exact row_plain _
        · exact row_plain _
        · exact Nat.le_trans (row_lay (w6 x xw).2.1 (w6 x xw).2.2).2 (by decide)
        have hjl := (List.getElem?_eq_some_iff.mp hj2).1
        refine ⟨⟨(s0 :: sr).eraseIdx j, ys ++ [x], _, _, rfl, ?_, ?_, ?_, ?_, fun z hz => (w6 z hz).put q6, D6.put q6 nqd nqg nqc, fun a o n1 n2 ha => ?_⟩, ?_⟩
        · rw [upd_same, map_erase]
        · rw [upd_ne nqL.symm]; exact L6
        · refine List.Perm.trans ?_ hp
          rw [List.append_assoc]
          exact (perm_erase hj2).append_left ys
        · rw [List.map_append]
          refine good_snoc gy ⟨?_, fun hm => ?_, fun m hm => ?_⟩
          · exact (good_mem G.2.2 (List.mem_map.mpr ⟨x, xw, rfl⟩)).1
          · rw [List.nil_append] at hm
            rw [eN] at pn hm
            rw [List.map_append] at pn
            exact (List.nodup_append.mp pn).2.2 _ hm _ (List.mem_map.mpr ⟨x, hxf.1, rfl⟩) rfl
          · rw [List.nil_append, eN]
            have := hxf.2
            unfold okNext at this
            rw [show x.2.2 = some m from hm] at this
            exact of_decide_eq_true this
        · rw [upd_ne (ne_of_none ha hqH)]
          exact k6 a o n1 n2 ha
        · show (match (upd H6 q _) q with | some (.lst xs) => xs.length | _ => 0) < _
          rw [mq, upd_same]
          show (((s0 :: sr).map rv_).eraseIdx j).length < _
          rw [List.length_eraseIdx, List.length_map, if_pos hjl, List.length_cons]
          omega
    · exact fun σ H Q Q' hq ⟨v, e1, e2, f⟩ => ⟨v, e1, e2, fun e he => by
        obtain ⟨dd, ee, a1, a2, a3, a4, b, e3, h⟩ := f e he
        exact ⟨dd, ee, a1, a2, a3, a4, b, e3, hq _ _ h⟩⟩
end
end Lw

set_option Elab.async false
set_option linter.all false
set_option maxRecDepth 100000
set_option maxHeartbeats 4000000
namespace Lw
open L2 hiding Ext
open PySem PySem.Spec PyProof.Rows Gn Gr Gk Go Gt Gf Gu Gdt
theorem passF {X : Cx} : Passes (L2.CX X.prog X.w) X E0 := fun _ _ _ _ _ _ _ h => by
  obtain ⟨_, _, _, _, _, _, _, _, _, _, _, _, h⟩ := h
  exact h.elim
theorem FoAt.kp {C a d g c : Addr} {ns : List Int} {b : Nat} {H H' : Hp} {rs : List FRow} (h : FoAt C H a rs) (G : Good rs) (D : Dw ns d g c b H) (k : Kp d g H H') : FoAt C H' a rs := by
  obtain ⟨⟨gs, l, t, hd, hg, _, _⟩, _⟩ := D
  obtain ⟨dx, q, h1, h2⟩ := h
  refine ⟨dx, q, k _ _ (ne_of h1 hd (by intro z; cases z)) (ne_of h1 hg (by intro z; cases z)) h1, k _ _ (fun e => ?_) (ne_of h2 hg (by intro z; cases z)) h2⟩
  rw [e, hd] at h2
  injection h2 with h2
  injection h2 with h2
  cases rs with
  | nil => have := G.1; simp at this
  | cons r rs =>
    have h3 : (kG, V.ref g) = ((Sum.inr r.1 : Key), parV r.2) := (List.cons.inj h2).1
    have h4 : V.ref g = parV r.2 := (Prod.mk.inj h3).2
    cases e2 : r.2 with
    | none => rw [e2] at h4; cases h4
    | some m => rw [e2] at h4; cases h4
theorem rows_refs {K : PySem.W.Frag} {H : Hp} : ∀ {xs : List V} {rs : List FRow}, RowsAt H xs rs → ∃ ps : List Addr, xs = ps.map V.ref ∧ Paired (fun p kv => SqT K H p [kV kv.1, kv.2]) ps (kvs rs)
  | [], [], _ => ⟨[], rfl, .nil⟩
  | [], _ :: _, h => by have := h.1; simp at this
  | _ :: _, [], h => by have := h.1; simp at this
  | x :: xs, r :: rs, h => by
    obtain ⟨p, h1, h2⟩ := h.2 0 r rfl
    have h1 : some x = some (V.ref p) := h1
    cases h1
    obtain ⟨ps, e, k⟩ := rows_refs (K := K) (H := H) (xs := xs) (rs := rs) ⟨by have := h.1; simpa using this, fun i r' hr => h.2 (i + 1) r' (by simpa using hr)⟩
    exact ⟨p :: ps, by rw [e]; rfl, .cons (SqT.of h2) k⟩
theorem merge_rows {rs : List FRow} (h : (fNames rs).Nodup) : mergeK [] (kvs rs) = kvs rs := merge_self (by
  unfold kvs
  rw [List.map_map]
  exact nodup_inr (fun r : FRow => r.1) h)
theorem cut_last (xs : List V) (x : V) : cutV (xs ++ [x]) none (some (-1)) = xs := by
  unfold cutV
  have e : HT.sIx (xs ++ [x]).length (xs ++ [x]).length (some (-1)) = xs.length := by
    rw [List.length_append]
    show HT.sIx (xs.length + 1) (xs.length + 1) (some (-1)) = _
    unfold HT.sIx
    simp
    omega
  rw [e]
  have e0 : HT.sIx (xs ++ [x]).length 0 none = 0 := rfl
  rw [e0]
  simp
/-- a list of rows, made by the law -/
def MtAt (g : Addr) (H : Hp) (m : Addr) : Prop := m ≠ g ∧ ∃ ws : List Rw, H m = some (.lst (ws.map rv_)) ∧ ws.length ≤ 9 ∧ (∀ z ∈ ws, ROk H z) ∧ ∀ z ∈ ws, Asc 19 z.2.1
theorem MtAt.ext {g : Addr} {H H' : Hp} {m : Addr} (h : MtAt g H m) (k : Ext H H') : MtAt g H' m := by
  obtain ⟨h1, ws, h2, h3, h4, h5⟩ := h
  exact ⟨h1, ws, k _ _ h2, h3, fun z hz => (h4 z hz).ext k, h5⟩
theorem mt_app {g t L p : Addr} {H : Hp} {ws : List Rw} {n : Str} {q : Option Str} {v : V} (hv : v = parV q) (hg : ∃ o, H g = some o) (ht : H t = none) (hL : (upd H t (.tup [.str n, v])) L = none) (hp : (upd (upd H t (.tup [.str n, v])) L (.lst [.ref t])) p = none)
    (hw : ∀ z ∈ ws, ROk H z) (hA : ∀ z ∈ ws, Asc 19 z.2.1) (hl : ws.length ≤ 8) (hn : Asc 19 n) (hq : ∀ m, q = some m → PyData.strOk m = true) :
    Ext H (upd (upd (upd H t (.tup [.str n, v])) L (.lst [.ref t])) p (.lst (ws.map rv_ ++ [.ref t]))) ∧ MtAt g (upd (upd (upd H t (.tup [.str n, v])) L (.lst [.ref t])) p (.lst (ws.map rv_ ++ [.ref t]))) p := by
  have k1 : Ext H (upd H t (.tup [.str n, v])) := Ext.new ht
  have k2 := k1.trans (Ext.new (o := .lst [.ref t]) hL)
  have k3 : Ext H (upd (upd (upd H t (.tup [.str n, v])) L (.lst [.ref t])) p (.lst (ws.map rv_ ++ [.ref t]))) := k2.trans (Ext.new hp)
  refine ⟨k3, fun e => ?_, ws ++ [(t, (n, q))], ?_, ?_, fun z hz => ?_, fun z hz => ?_⟩
  · obtain ⟨o, ho⟩ := hg
    rw [e, k2 _ _ ho] at hp
    cases hp
  · rw [upd_same, List.map_append]; rfl
  · rw [List.length_append]; show _ + 1 ≤ 9; omega
  · rcases List.mem_append.mp hz with h | h
    · exact (hw z h).ext k3
    · rw [List.mem_singleton] at h
      subst h
      refine ⟨?_, hn.ok, hq⟩
      have a1 : (upd H t (.tup [.str n, v])) t = some (.tup [.str n, parV q]) := by rw [upd_same, hv]
      exact Ext.new hp _ _ (Ext.new hL _ _ a1)
  · rcases List.mem_append.mp hz with h | h
    · exact hA z h
    · rw [List.mem_singleton] at h
      subst h
      exact hn
theorem at_last (zs : List Rw) (z : Rw) : atI ((zs ++ [z]).map rv_) (-1) = some (rv_ z) := by
  unfold atI ixN
  rw [if_neg (by omega), List.length_map, List.length_append]
  show (if -((zs.length + 1 : Nat) : Int) ≤ -1 then some (-1 + ((zs.length + 1 : Nat) : Int)).toNat else none).bind _ = _
  rw [if_pos (by omega), show (-1 + ((zs.length + 1 : Nat) : Int)).toNat = zs.length by omega]
  show ((zs ++ [z]).map rv_)[zs.length]? = _
  rw [List.getElem?_map, List.getElem?_append_right (Nat.le_refl _), Nat.sub_self]
  rfl
theorem cut_rv (zs : List Rw) (z : Rw) : cutV ((zs ++ [z]).map rv_) none (some (-1)) = zs.map rv_ := by
  rw [List.map_append]
  exact cut_last _ _
theorem tif_last {K : PySem.W.Frag} {σ : L2.St} {H : Hp} {Q : VK} {l : Addr} {zs : List Rw} {z0 : Rw} {p : Option Str} (h2 : σ[2]? = some (some (.ref l))) (h5 : σ[5]? = some (some (parV p))) (hl : H l = some (.lst (zs.map rv_))) (h0 : atI (zs.map rv_) ((0 : Nat) : Int) = some (rv_ z0)) (hz : ROk H z0)
    (k : ∀ q : Option Str, (∀ m, q = some m → PyData.strOk m = true) → Q (parV q) H) :
    tIf (tOr (tTest (tOp (fun x y H Q => y = V.non ∧ Q (V.bl !decide (x = V.non)) H) (tVar 5) (tC V.non))) (tTest (tOp rEq (tCB (fun xs H Q => ∃ p ys, xs = [V.ref p] ∧ (SqL K H p ys ∨ SqT K H p ys) ∧ Q (V.int ys.length) H) (tCons (tVar 2) tNil)) (tC (V.int 1))))) (tC V.non) (tOp (rIxT K) (tOp (rIxL K) (tVar 2) (tC (V.int 0))) (tC (V.int 0))) σ H Q := by
  refine ⟨_, h5, rfl, _, rfl, ?_⟩
  cases p with
  | some m =>
    show if (!decide (V.str m = V.non)) = true then _ else _
    rw [decide_eq_false (by intro z; cases z)]
    exact iteT (iteT (k none (fun m e => by cases e)))
  | none =>
    refine iteNS rfl ⟨_, h2, l, _, rfl, .inl (SqL.of hl), rfl, _, rfl, ?_⟩
    by_cases h1 : (zs.map rv_).length = 1
    · exact iteS (by rw [h1]; rfl) (k none (fun m e => by cases e))
    · refine iteN (by intro e; injection e with e; omega) ?_
      exact ⟨_, h2, l, _, _, _, rfl, rfl, SqL.of hl, h0, z0.1, _, _, _, rfl, rfl, SqT.of hz.1, (show atI [V.str z0.2.1, parV z0.2.2] ((0 : Nat) : Int) = some (V.str z0.2.1) from atI_nat rfl), k (some z0.2.1) (fun m e => by cases e; exact hz.2.1)⟩
theorem MtAt.put {g : Addr} {H : Hp} {m L : Addr} {u u' : List V} (h : MtAt g H m) (n : m ≠ L) (hL : H L = some (.lst u)) : MtAt g (upd H L (.lst u')) m := by
  obtain ⟨h1, ws, h2, h3, h4, h5⟩ := h
  exact ⟨h1, ws, by rw [upd_ne n]; exact h2, h3, fun z hz => (h4 z hz).put hL, h5⟩
theorem MtAt.ne {g : Addr} {H : Hp} {m L : Addr} (h : MtAt g H m) (hL : H L = none) : m ≠ L := by
  obtain ⟨_, ws, h2, _⟩ := h
  intro e
  rw [e, hL] at h2
  cases h2
theorem asc_zz : Asc 19 ("zzzzzzzz" : Str) := ⟨by decide +kernel, by decide +kernel⟩
theorem rowM_rowD {E : List Str} {r : FRow} (h1 : nameOk r.1 = true) (h2 : r.1 ∉ E) (h3 : ∀ m, r.2 = some m → m ∈ E) : rowM E (rowD r) = some r := by
  obtain ⟨n, p⟩ := r
  unfold rowD
  rw [rowM_two]
  unfold nmM parM parD
  dsimp only at *
  rw [if_pos ⟨h1, h2⟩]
  cases p with
  | none => rfl
  | some m => dsimp only; rw [if_pos (h3 m rfl)]; rfl
theorem rowM_eq {E : List Str} {r q : FRow} (h : rowM E (rowD r) = some q) : q = r := by
  obtain ⟨n, p⟩ := r
  unfold rowD at h
  rw [rowM_two] at h
  unfold nmM parM parD at h
  dsimp only at h
  split at h
  · cases p with
    | none => cases h; rfl
    | some m =>
      dsimp only at h
      split at h
      · cases h; rfl
      · cases h
  · cases h
theorem rowsM_good : ∀ {rs : List FRow} {E : List Str}, GoodF E rs → rowsM E (rs.map rowD) = some rs
  | [], _, _ => rfl
  | r :: t, E, h => by
    obtain ⟨⟨h1, h2, h3⟩, h4⟩ := h
    rw [List.map_cons]
    unfold rowsM
    rw [rowM_rowD h1 h2 h3]
    dsimp only
    rw [rowsM_good h4]
    rfl
theorem rowsM_eq : ∀ {rs qs : List FRow} {E : List Str}, rowsM E (rs.map rowD) = some qs → qs = rs
  | [], _, _, h => by cases h; rfl
  | r :: t, qs, E, h => by
    rw [List.map_cons] at h
    unfold rowsM at h
    cases hq : rowM E (rowD r) with
    | none => rw [hq] at h; cases h
    | some q =>
      rw [hq] at h
      obtain ⟨rs', e1, rfl⟩ := Option.map_eq_some_iff.mp h
      rw [rowsM_eq e1, rowM_eq hq]
theorem rd_map (zs : List Rw) : zs.map rd_ = (zs.map fun z => z.2).map rowD := by rw [List.map_map]; rfl
theorem good_of {zs : List Rw} {xs : List V} {H : Hp} {d g : Addr} {rs : List FRow} (hd : DkAll d g H xs (zs.map rd_)) (h : goodS (some (zs.map rd_)) = some rs) : Good (zs.map fun z => z.2) := by
  by_cases hl : 1 ≤ (zs.map rd_).length ∧ (zs.map rd_).length ≤ 8
  · rw [goodS_in hl.1 hl.2] at h
    obtain ⟨_, hg, _⟩ := rowsM_at hd h
    rw [rd_map] at h
    rw [rowsM_eq h] at hg
    rw [List.length_map] at hl
    exact ⟨by rw [List.length_map]; exact hl.1, by rw [List.length_map]; exact hl.2, hg⟩
  · rw [goodS_out hl] at h
    cases h
theorem goodS_rows {zs : List Rw} (G : Good (zs.map fun z => z.2)) : goodS (some (zs.map rd_)) = some (zs.map fun z => z.2) := by
  obtain ⟨g1, g8, g⟩ := G
  rw [List.length_map] at g1 g8
  rw [goodS_in (by rwa [List.length_map]) (by rwa [List.length_map]), rd_map]
  exact rowsM_good g
theorem dk_par {d g : Addr} {H : Hp} : ∀ p : Option Str, Dk d g H (parV p) (parD p)
  | none => .non
  | some m => .str m
theorem dk_rws {ns : List Int} {d g c : Addr} {b : Nat} {H : Hp} (D : Dw ns d g c b H) : ∀ {zs : List Rw}, (∀ z ∈ zs, ROk H z) → DkAll d g H (zs.map rv_) (zs.map rd_)
  | [], _ => .nil
  | z :: r, h => by
    have hz := (h z (List.mem_cons_self ..)).1
    have ih := dk_rws D (zs := r) fun y hy => h y (List.mem_cons_of_mem _ hy)
    obtain ⟨⟨gs, l, t, hd, hg, _, _⟩, _⟩ := D
    exact .cons (.tup hz (ne_of hz hd (by intro z; cases z)) (ne_of hz hg (by intro z; cases z)) (.cons (.str _) (.cons (dk_par _) .nil))) ih
theorem asc_rws {zs : List Rw} (h : ∀ z ∈ zs, Asc 19 z.2.1) : ∀ x ∈ zs.map rd_, AscD x := by
  intro x hx
  obtain ⟨z, hz, rfl⟩ := List.mem_map.mp hx
  exact h z hz
theorem sk_rws {ns : List Int} {d g c l : Addr} {b : Nat} {H : Hp} {zs : List Rw} (D : Dw ns d g c b H) (hl : ClAt H l (zs.map rv_)) (n2 : l ≠ g) (hz : ∀ z ∈ zs, ROk H z) (hA : ∀ z ∈ zs, Asc 19 z.2.1) (h100 : zs.length ≤ 100) : Sk d g H (.ref l) (some (zs.map rd_)) := by
  have hk := dk_rws D hz
  obtain ⟨⟨gs, l', t, hd, hg, _, _⟩, _⟩ := D
  refine .seq hl ?_ n2 hk (asc_rws hA) (by rwa [List.length_map])
  rcases hl with h | h
  · exact ne_of h hd (by intro z; cases z)
  · exact ne_of h hd (by intro z; cases z)
section
variable {P : Program} {w : World} {K : PySem.W.Frag} {mg : Str → Option Value} {base : Heap} {C fI CF : Addr} {mc : Value} {fdI : FuncData}
abbrev nEqR : List Str := ["_law_state", "_law_forest_here", "_law_stock", "_law_mates", "_law_name", "_law_parent", "_law_mate", "_law_other"]
def spEqR (C : Addr) (ns : List Int) : Sp := fun vs H Q _ => ∃ (d g c a l : Addr) (b : Nat) (zs : List Rw), vs = [.ref d, .ref a, .ref l] ∧ l ≠ g ∧ Dw ns d g c b H ∧ b ≤ 700000000 ∧ FoAt C H a (zs.map fun z => z.2) ∧ H l = some (.lst (zs.map rv_)) ∧ Good (zs.map fun z => z.2) ∧ (∀ z ∈ zs, ROk H z) ∧ (∀ z ∈ zs, Asc 19 z.2.1) ∧
  ∀ H', Dw ns d g c (b + 200) H' → Kp d g H H' → Q (.bl true) H'
theorem mk_rows {ns : List Int} {d g c l x dx : Addr} {b : Nat} {H : Hp} {zs : List Rw} {Q : Hp → Prop} (Z : FC K mg C fI mc) (D : Dw ns d g c b H) (hl : ClAt H l (zs.map rv_)) (n2 : l ≠ g) (hz : ∀ z ∈ zs, ROk H z) (hA : ∀ z ∈ zs, Asc 19 z.2.1) (G : Good (zs.map fun z => z.2))
    (k : ∀ H', Ext H H' → FoAt C H' x (zs.map fun z => z.2) → Q H') (hx : H x = none) (hdx : H dx = none) (_ : dx ≠ x) :
    spInitX C CF [.ref x, .ref l] (upd (upd H dx (.own x)) x (.ins C dx [])) (fun r H' => r = .non ∧ Q H') E0 := by
  have kx : Ext H (upd (upd H dx (.own x)) x (.ins C dx [])) := fun b o hb => by
    rw [upd_ne (ne_of_none hb hx), upd_ne (ne_of_none hb hdx)]
    exact hb
  have h100 : zs.length ≤ 100 := by have := G.2.1; rw [List.length_map] at this; omega
  refine ⟨x, dx, d, g, .ref l, _, rfl, upd_same, (sk_rws D hl n2 hz hA h100).ext kx, fun rs hrs H2 D2 k2 i2 d2 => ⟨rfl, ?_⟩, fun hn => ?_⟩
  · rw [goodS_rows G] at hrs
    cases hrs
    exact k H2 (fun b o hb => k2 _ _ (ne_of_none hb hx) (kx _ _ hb)) ⟨dx, D2, i2, d2⟩
  · rw [goodS_rows G] at hn
    cases hn
theorem scEqR : FnScope nEqR ["_law_state", "_law_forest_here", "_law_stock"] (defScope sLEqualRight) := ⟨rfl, rfl, rfl, by decide +kernel, rfl, by decide +kernel, by decide +kernel⟩
theorem ok_eqR {f fS fG fE : Addr} {fd fdS fdG fdE : FuncData} (ns : List Int) (F : Fun K "_law_equal_right" "_law_equal_right" sLEqualRight f fd) (T : Names mg) (Z : FC K mg C fI mc)
    (GI : FnOk P w K mg base (L2.CX P w) 4 fI fdI ["self", "rows"] (spInitX C CF)) (bI : Binds K fdI ["self", "rows"] [])
    (GE : FnOk P w K mg base CX0 1 fE fdE ["self", "other"] (spEqX C)) (bE : Binds K fdE ["self", "other"] []) (WE : OwnE K C fE)
    (GSo : FnOk P w K mg base CX0 4 fS fdS ["_law_state", "_law_stock"] (spSorted ns)) (bSo : Binds K fdS ["_law_state", "_law_stock"] []) (kSo : PySem.W.keepIn K (.ref fS) = true) (mSo : mg "_law_sorted_rows" = some (.ref fS))
    (GG : FnOk P w K mg base CX0 2 fG fdG ["_law_value"] spLGood) (bG : Binds K fdG ["_law_value"] []) (kG : PySem.W.keepIn K (.ref fG) = true) (mG : mg "_law_is_good" = some (.ref fG)) :
    FnOk P w K mg base CX0 6 f fd ["_law_state", "_law_forest_here", "_law_stock"] (spEqR C ns) := by
  refine F.ok scEqR (fun vs H Q E h => ?_) (fun cdv A outer s H vs Q E hr h => ?_)
  · obtain ⟨d, g, c, a, l, b, zs, rfl, _⟩ := h
    rfl
  · obtain ⟨d, g, c, a, l, b, zs, rfl, lg, D, hb, hF, hl, G, hz, hA, k⟩ := h
    have hu := hu_of hr
    have nd := scEqR.nd
    have hr4 : Room 4 (A.deeper (envOfC "_law_equal_right" (defScope sLEqualRight) s.heap.objs.size f cdv)) := hr.mono (by decide)
    have hr2 : Room 2 (A.deeper (envOfC "_law_equal_right" (defScope sLEqualRight) s.heap.objs.size f cdv)) := hr.mono (by decide)
    have hr1 : Room 1 (A.deeper (envOfC "_law_equal_right" (defScope sLEqualRight) s.heap.objs.size f cdv)) := hr.mono (by decide)
    refine ⟨_, pss_cons (ps_if (PW.pt (pw_or (pt_not (pt_cmpR (Go.op_eqO (E := E0) GE hr1 WE bE pass0) (pv 1) (pe_make (E := E0) Z.make GI hr rfl Z.g bI .nil passF (pa_cons (pe_call GSo hr4 rfl mSo kSo bSo .nil pass0 (pa_cons (pv 0) (pa_cons (pv 2) pa_nil))) pa_nil)) (nomark _))) (pw_or1 (pt_cmpR (Go.op_neO (E := E0) GE hr2 WE bE pass0) (pv 1) (pe_make (E := E0) Z.make GI hr rfl Z.g bI .nil passF (pa_cons (pe_callTy call_tuple_of rfl T.tuple (by decide +kernel) (pa_cons (pv 2) pa_nil)) pa_nil)) (nomark _))))) (pss_one (ps_ret pe_bl)) pss_nil)
(pss_cons (ps_set (i := 3) nd rfl (.inl rfl) (pe_lst (pa_cons (pe_slice sl_list (pv 2) po_none (po_some (pe_un un_neg pe_int))) (pa_cons (pe_op op_cat (pv 2) (pe_lst (pa_cons (pe_tup (pa_cons pe_str (pa_cons pe_non pa_nil))) pa_nil))) (pa_cons (pe_op op_cat (pv 2) (pe_lst (pa_cons (pe_tup (pa_cons pe_str (pa_cons (pe_ix ix_tup (pe_ix ix_list (pv 2) pe_int (fun _ _ => rfl)) pe_int (fun _ _ => rfl)) pa_nil))) pa_nil))) pa_nil)))))
(pss_cons (ps_asg (pe_ix ix_list (pv 2) (pe_un un_neg pe_int) (fun _ _ => rfl)) (by exact (pg_tup rfl (pgs_cons (pg_name (i := 4) nd rfl (.inl rfl)) (pgs_cons (pg_name (i := 5) nd rfl (.inl rfl)) pgs_nil)))))
(pss_cons (ps_expr (pe_bm PySem.F.plainAttrs_list PySem.F.slot_list_append PySem.F.type_list_append mt_append (pv 3) (pa_cons (pe_op op_cat (pe_slice sl_list (pv 2) po_none (po_some (pe_un un_neg pe_int))) (pe_lst (pa_cons (pe_tup (pa_cons (pv 4) (pa_cons (pe_ifExp (PW.pt (pw_or (pt_cmpR op_notN (pv 5) pe_non (nomark _)) (pw_or1 (pt_cmpR op_eq (pe_callB call_len_seq rfl T.len PySem.boot_len (pa_cons (pv 2) pa_nil)) pe_int (nomark _))))) pe_non (pe_ix ix_tup (pe_ix ix_list (pv 2) pe_int (fun _ _ => rfl)) pe_int (fun _ _ => rfl))) pa_nil))) pa_nil))) pa_nil)))
(pss_cons (ps_for PassesOwn.never rfl (pi_list (pv 3)) (pg_name (i := 6) nd rfl (.inl rfl))
(pss_one (ps_if (PW.pt (pw_and (pt_val (pe_call GG hr2 rfl mG kG bG .nil pass0 (pa_cons (pv 6) pa_nil))) (pw_and1 (pt_cmpR op_ne (pe_cmpR (Go.op_eqO (E := E0) GE hr1 WE bE pass0) (pv 1) (pe_make (E := E0) Z.make GI hr rfl Z.g bI .nil passF (pa_cons (pv 6) pa_nil)) (nomark _)) (pe_cmpR (Gdt.op_eqDX (Nat.lt_of_succ_lt hu)) (pe_callTy (call_dictP rfl) rfl T.dict (by decide +kernel) (pa_cons (pv 6) pa_nil)) (pe_callTy (call_dictP rfl) rfl T.dict (by decide +kernel) (pa_cons (pv 2) pa_nil)) (nomark _)) (nomark _))))) (pss_one (ps_ret pe_bl)) pss_nil)))
(pss_one (ps_ret (pe_cmpR (Gj.op_eqE hr.units) (pe_lc (own := [("_law_other", 7)]) (g := gName 7) rfl nd (pi_list (pe_lst (pa_cons pe_non (pa_cons (pv 2) (pa_cons (pe_ix ix_tup (pe_ix ix_list (pv 2) pe_int (fun _ _ => rfl)) pe_int (fun _ _ => rfl)) (pa_cons (pe_callB call_len_seq rfl T.len PySem.boot_len (pa_cons (pv 2) pa_nil)) (pa_cons (pe_callTy (call_dictP rfl) rfl T.dict (by decide +kernel) (pa_cons (pv 2) pa_nil)) pa_nil))))))) (blkOk_by (N := nEqR) (sc := defScope sLEqualRight) (by decide +kernel))
(fun _ _ _ _ _ => pg_name (i := 7) nd rfl (.inl rfl)) (fun _ _ _ _ _ => pts_one (pt_cmpR (Gdt.op_eqOV (E := E0) GE hr1 WE bE pass0) (pv 1) (pv 7) (nomark _))) (fun _ _ _ _ _ => pv 7)) (pe_lst pa_nil) (nomark _)))))))), ?_⟩
    have hnd := (good_nodup G.2.2).1
    refine ⟨_, rfl, _, rfl, _, rfl, d, g, c, l, b, zs, rfl, D, by omega, hl, G, hz, fun p ys H2 hp0 npd npg hp2 pm Gy hy D2 k2 => ?_⟩
    refine fun x dx hx hdx ne => mk_rows (CF := CF) Z D2 (.inl hp2) npg hy (fun z hz' => hA z (pm.mem_iff.mp hz')) Gy (fun H3 k3 f3 => ?_) hx hdx ne
    have F3 := (hF.kp G D k2).ext k3
    have l2 := k2 _ _ (fun e => by obtain ⟨⟨_, _, _, hd, _⟩, _⟩ := D; rw [e, hd] at hl; cases hl) lg hl
    have l3 := k3 _ _ l2
    have z2 : ∀ z ∈ zs, ROk H3 z := fun z h => ((hz z h).kp D k2).ext k3
    have D3 := D2.keep k3
    have K3 := k2.trans (Kp.of k3)
    clear hy hp2 D2 l2
    have hF' := F3
    obtain ⟨dA, qA, a1, a2⟩ := F3
    obtain ⟨dB, qB, b1, b2⟩ := f3
    refine ⟨a, x, dA, dB, _, _, rfl, rfl, a1, b1, a, _, ⟨dA, qA, a1, a2⟩, .inl ⟨x, _, rfl, ⟨dB, qB, b1, b2⟩, _, rfl, ?_⟩⟩
    rw [eqDB_perm (good_nodup Gy.2.2).1 (pm.map _).symm]
    refine ⟨true, rfl, iteF ?_⟩
    refine ⟨_, rfl, _, rfl, l, _, rfl, .inl ⟨SqL.of l3, fun tp htp => ?_⟩⟩
    have Dt := D3.new (o := .tup (zs.map rv_)) htp
    have kt : Ext H3 (upd H3 tp (.tup (zs.map rv_))) := Ext.new htp
    refine fun x2 dx2 hx2 hdx2 ne2 => mk_rows (CF := CF) Z Dt (.inr upd_same) (D3.ng htp) (fun z h => (z2 z h).ext kt) hA G (fun H4 k4 f4 => ?_) hx2 hdx2 ne2
    have k34 := kt.trans k4
    have F4 := hF'.ext k34
    have l4 := k34 _ _ l3
    have z4 : ∀ z ∈ zs, ROk H4 z := fun z h => (z2 z h).ext k34
    have D4 := D3.keep k34
    have K4 := K3.trans (Kp.of k34)
    have hF4 := F4
    obtain ⟨dA, qA, a1, a2⟩ := F4
    obtain ⟨dB, qB, b1, b2⟩ := f4
    refine ⟨a, x2, dA, dB, _, _, rfl, rfl, a1, b1, a, _, ⟨dA, qA, a1, a2⟩, .inl ⟨x2, _, rfl, ⟨dB, qB, b1, b2⟩, _, rfl, ?_⟩⟩
    rw [eqDB_perm hnd (List.Perm.refl _)]
    refine ⟨false, rfl, iteF ?_⟩
    clear D3 K3 z2 k34 kt Dt l3 a1 a2 b1 b2 k3 hF' k4
    obtain ⟨zi, zl, rfl⟩ : ∃ zi zl, zs = zi ++ [zl] := by
      have := G.1
      rw [List.length_map] at this
      exact ⟨zs.dropLast, zs.getLast (by intro e; rw [e] at this; exact absurd this (by decide)), (List.dropLast_concat_getLast _).symm⟩
    have g8 := G.2.1
    rw [List.length_map, List.length_append] at g8
    have g8 : zi.length + 1 ≤ 8 := g8
    have hw9 : (zi ++ [zl]).length ≤ 8 := by rw [List.length_append]; exact g8
    obtain ⟨z0, h0⟩ : ∃ z0, (zi ++ [zl])[0]? = some z0 := by cases zi <;> exact ⟨_, rfl⟩
    have at0 : atI ((zi ++ [zl]).map rv_) ((0 : Nat) : Int) = some (rv_ z0) := atI_nat (by rw [List.getElem?_map, h0]; rfl)
    have hzi : ∀ {H' : Hp}, Ext H4 H' → ∀ z ∈ zi, ROk H' z := fun kk z h => (z4 z (List.mem_append.mpr (.inl h))).ext kk
    have hAi : ∀ z ∈ zi, Asc 19 z.2.1 := fun z h => hA z (List.mem_append.mpr (.inl h))
    refine ⟨_, rfl, ?_⟩
    dsimp only [tNoPart]
    refine ⟨_, rfl, _, rfl, l, _, rfl, SqL.of l4, fun p1 hp1 => ?_⟩
    rw [cut_rv]
    have k5 : Ext H4 (upd H4 p1 (.lst (zi.map rv_))) := Ext.new hp1
    have M1 : MtAt g (upd H4 p1 (.lst (zi.map rv_))) p1 := ⟨D4.ng hp1, zi, upd_same, by omega, hzi k5, hAi⟩
    generalize upd H4 p1 (.lst (zi.map rv_)) = H5 at k5 M1 ⊢
    have hok5 : ∀ z ∈ zi ++ [zl], ROk H5 z := fun z h => (z4 z h).ext k5
    refine ⟨_, rfl, (by show 2 ≤ sizeLine; decide), fun t2 ht2 => ⟨(by show 1 ≤ sizeLine; decide), fun L2 hL2 => ⟨l, L2, _, _, rfl, rfl, Ext.new hL2 _ _ (Ext.new ht2 _ _ (k5 _ _ l4)), upd_same, Nat.le_of_lt (small1000 (by rw [List.length_map]; show _ + 1 ≤ _; omega)), fun p2 hp2 => ?_⟩⟩⟩
    obtain ⟨k6, M2⟩ := mt_app (q := none) (v := V.non) rfl (D4.keep k5).some.2 ht2 hL2 hp2 hok5 hA hw9 asc_zz (fun m e => by cases e)
    have M1 := M1.ext k6
    have k6 := k5.trans k6
    clear k5 hok5
    generalize upd (upd (upd H5 t2 _) L2 _) p2 _ = H6 at k6 M2 M1 ⊢
    have l6 := k6 _ _ l4
    have hok6 : ∀ z ∈ zi ++ [zl], ROk H6 z := fun z h => (z4 z h).ext k6
    have z0ok : ROk H6 z0 := hok6 z0 (List.mem_of_getElem? h0)
    refine ⟨_, rfl, _, rfl, l, _, _, _, rfl, rfl, SqL.of l6, at0, z0.1, _, _, _, rfl, rfl, SqT.of z0ok.1, (show atI [V.str z0.2.1, parV z0.2.2] ((0 : Nat) : Int) = some (V.str z0.2.1) from atI_nat rfl), (by show 2 ≤ sizeLine; decide), fun t3 ht3 => ⟨(by show 1 ≤ sizeLine; decide), fun L3 hL3 => ⟨l, L3, _, _, rfl, rfl, Ext.new hL3 _ _ (Ext.new ht3 _ _ l6), upd_same, Nat.le_of_lt (small1000 (by rw [List.length_map]; show _ + 1 ≤ _; omega)), fun p3 hp3 => ?_⟩⟩⟩
    obtain ⟨k7, M3⟩ := mt_app (q := some z0.2.1) (v := V.str z0.2.1) rfl (D4.keep k6).some.2 ht3 hL3 hp3 hok6 hA hw9 asc_zz (fun m e => by cases e; exact z0ok.2.1)
    have M1 := M1.ext k7
    have M2 := M2.ext k7
    have k7 := k6.trans k7
    clear k6 hok6 l6 z0ok
    generalize upd (upd (upd H6 t3 _) L3 _) p3 _ = H7 at k7 M3 M2 M1 ⊢
    refine ⟨(by show 3 ≤ sizeLine; decide), fun Lm hLm => ?_⟩
    have k8 : Ext H7 (upd H7 Lm (.lst [.ref p1, .ref p2, .ref p3])) := Ext.new hLm
    have m8 : (upd H7 Lm (.lst [.ref p1, .ref p2, .ref p3])) Lm = some (.lst [.ref p1, .ref p2, .ref p3]) := upd_same
    have nLm : H4 Lm = none := noneOf k7 hLm
    have n1 := M1.ne hLm
    have n2 := M2.ne hLm
    have n3 := M3.ne hLm
    have M1 := M1.ext k8
    have M2 := M2.ext k8
    have M3 := M3.ext k8
    have k8 := k7.trans k8
    clear k7 hLm
    generalize upd H7 Lm (.lst [.ref p1, .ref p2, .ref p3]) = H8 at k8 m8 M3 M2 M1 ⊢
    have l8 := k8 _ _ l4
    have hok8 : ∀ z ∈ zi ++ [zl], ROk H8 z := fun z h => (z4 z h).ext k8
    have zlok : ROk H8 zl := hok8 zl (List.mem_append.mpr (.inr (List.mem_singleton.mpr rfl)))
    refine ⟨_, rfl, _, rfl, l, _, _, _, rfl, rfl, SqL.of l8, at_last zi zl, zl.1, _, rfl, SqT.of zlok.1, rfl, _, _, rfl, _, _, rfl, rfl, ?_⟩
    refine ⟨_, rfl, .inl ⟨rfl, _, SqL.of m8⟩, ?_⟩
    refine ⟨_, rfl, ?_⟩
    dsimp only [tNoPart]
    refine ⟨_, rfl, _, rfl, l, _, rfl, SqL.of l8, fun p4 hp4 => ?_⟩
    rw [cut_rv]
    have k9 : Ext H8 (upd H8 p4 (.lst (zi.map rv_))) := Ext.new hp4
    have d9 : (upd H8 p4 (.lst (zi.map rv_))) p4 = some (.lst (zi.map rv_)) := upd_same
    generalize upd H8 p4 (.lst (zi.map rv_)) = H9 at k9 d9 ⊢
    refine ⟨_, rfl, ?_⟩
    refine tif_last (K := K) (l := l) (zs := zi ++ [zl]) (z0 := z0) (p := zl.2.2) rfl rfl (k9 _ _ l8) at0 ((hok8 z0 (List.mem_of_getElem? h0)).ext k9) fun q hq => ?_
    refine ⟨(by show 2 ≤ sizeLine; decide), fun t4 ht4 => ⟨(by show 1 ≤ sizeLine; decide), fun L4 hL4 => ⟨p4, L4, _, _, rfl, rfl, Ext.new hL4 _ _ (Ext.new ht4 _ _ d9), upd_same, Nat.le_of_lt (small1000 (by rw [List.length_map]; show _ + 1 ≤ _; omega)), fun p5 hp5 => ?_⟩⟩⟩
    have k49 := k8.trans k9
    obtain ⟨ka, M5⟩ := mt_app (q := q) (v := parV q) (n := zl.2.1) rfl (D4.keep k49).some.2 ht4 hL4 hp5 (hzi k49) hAi (by omega) (hA zl (List.mem_append.mpr (.inr (List.mem_singleton.mpr rfl)))) hq
    have m9 := k9 _ _ m8
    have n5 : p5 ≠ Lm := fun e => by rw [e] at hp5; rw [Ext.new hL4 _ _ (Ext.new ht4 _ _ m9)] at hp5; cases hp5
    have M1 := (M1.ext k9).ext ka
    have M2 := (M2.ext k9).ext ka
    have M3 := (M3.ext k9).ext ka
    have ma := ka _ _ m9
    have ka := k49.trans ka
    clear m8 m9 k8 k9 k49 l8 hok8 zlok d9
    generalize upd (upd (upd H9 t4 _) L4 _) p5 _ = Ha at ka M5 M3 M2 M1 ma ⊢
    refine ⟨Lm, _, _, rfl, rfl, ma, by show 3 < sizeLine; decide, ?_⟩
    have M1 := M1.put (u' := [.ref p1, .ref p2, .ref p3] ++ [.ref p5]) n1 ma
    have M2 := M2.put (u' := [.ref p1, .ref p2, .ref p3] ++ [.ref p5]) n2 ma
    have M3 := M3.put (u' := [.ref p1, .ref p2, .ref p3] ++ [.ref p5]) n3 ma
    have M5 := M5.put (u' := [.ref p1, .ref p2, .ref p3] ++ [.ref p5]) n5 ma
    have kb : Ext H4 (upd Ha Lm (.lst ([.ref p1, .ref p2, .ref p3] ++ [.ref p5]))) := fun y o e => by rw [upd_ne (ne_of_none e nLm)]; exact ka _ _ e
    have mb : (upd Ha Lm (.lst ([.ref p1, .ref p2, .ref p3] ++ [.ref p5]))) Lm = some (.lst ([.ref p1, .ref p2, .ref p3] ++ [.ref p5])) := upd_same
    generalize upd Ha Lm (.lst ([.ref p1, .ref p2, .ref p3] ++ [.ref p5])) = Hb at kb M5 M3 M2 M1 mb ⊢
    have all : ∀ y ∈ ([.ref p1, .ref p2, .ref p3] ++ [.ref p5] : List V), ∃ m, y = .ref m ∧ MtAt g Hb m := fun y hy => by
      have hy : y ∈ ([.ref p1, .ref p2, .ref p3, .ref p5] : List V) := hy
      simp only [List.mem_cons, List.not_mem_nil, or_false] at hy
      rcases hy with rfl | rfl | rfl | rfl
      · exact ⟨_, rfl, M1⟩
      · exact ⟨_, rfl, M2⟩
      · exact ⟨_, rfl, M3⟩
      · exact ⟨_, rfl, M5⟩
    have Db := D4.keep kb
    have Fb := hF4.ext kb
    have lb := kb _ _ l4
    have zb : ∀ z ∈ zi ++ [zl], ROk Hb z := fun z h => (z4 z h).ext kb
    have Kb := K4.trans (Kp.of kb)
    clear D4 hF4 l4 z4 K4 kb M1 M2 M3 M5
    have dct : ∀ {H' : Hp} {ws : List Rw}, (∀ z ∈ ws, ROk H' z) → ∃ ps : List Addr, ws.map rv_ = ps.map V.ref ∧ Paired (fun p kv => SqT K H' p [kV kv.1, kv.2]) ps (kvs (ws.map fun z => z.2)) := fun h => rows_refs (rows_of_rw h)
    refine ⟨_, rfl, Lm, rfl, ⟨_, SqL.of mb⟩, ?_⟩
    refine for_it walk_list (fun i σ H' => ∃ v6 : Option V, σ = [some (.ref d), some (.ref a), some (.ref l), some (.ref Lm), some (.str zl.2.1), some (parV zl.2.2), v6, none] ∧ Ext Hb H') ⟨none, rfl, Ext.refl⟩ (fun i σ H' _ ⟨_, _, e⟩ => SqL.of (e _ _ mb)) ?_ ?_
    · rintro i y σ H1 H1' hi ⟨v6, rfl, k1⟩ ⟨rfl, hy⟩
      obtain ⟨m, rfl, hm⟩ := all y (List.mem_of_getElem? hy)
      obtain ⟨mg', ws, w1, w9, wok, wA⟩ := hm.ext k1
      have D1 := Db.keep k1
      refine ⟨_, rfl, .ref m, d, g, _, rfl, sk_rws D1 (.inl w1) mg' wok wA (by omega), fun H5 k5 => ?_⟩
      have k15 := k1.trans k5
      cases hgs : goodS (some (ws.map rd_)) with
      | none => exact ⟨_, rfl, iteF ⟨_, rfl, k15⟩⟩
      | some rs =>
        have Gw := good_of (dk_rws D1 wok) hgs
        refine ⟨_, rfl, iteT ?_⟩
        have w5 := k5 _ _ w1
        have wo5 : ∀ z ∈ ws, ROk H5 z := fun z h => (wok z h).ext k5
        refine ⟨_, rfl, _, rfl, fun x5 dx5 hx5 hdx5 ne5 => mk_rows (CF := CF) Z (D1.keep k5) (.inl w5) mg' wo5 wA Gw (fun H6 k6 f6 => ?_) hx5 hdx5 ne5⟩
        have k16 := k15.trans k6
        have F6 := Fb.ext k16
        have F6' := F6
        obtain ⟨dA, qA, a1, a2⟩ := F6'
        have f6' := f6
        obtain ⟨dB, qB, b1, b2⟩ := f6'
        refine ⟨a, x5, dA, dB, _, _, rfl, rfl, a1, b1, a, _, F6, .inl ⟨x5, _, rfl, f6, _, rfl, ?_⟩⟩
        have w6 := k6 _ _ w5
        have wo6 : ∀ z ∈ ws, ROk H6 z := fun z h => (wo5 z h).ext k6
        obtain ⟨ps, e1, e2⟩ := dct wo6
        refine ⟨_, rfl, m, ps, _, rfl, SqL.of (by rw [← e1]; exact w6), e2, fun q1 hq1 => ?_⟩
        rw [merge_rows (good_nodup Gw.2.2).1]
        have d7 : (upd H6 q1 (.dK (kvs (ws.map fun z => z.2)))) q1 = some (.dK (kvs (ws.map fun z => z.2))) := upd_same
        have k7 := k16.trans (Ext.new (o := .dK (kvs (ws.map fun z => z.2))) hq1)
        generalize upd H6 q1 (.dK (kvs (ws.map fun z => z.2))) = H7 at k7 d7 ⊢
        obtain ⟨ps', e3, e4⟩ := dct (fun z h => (zb z h).ext k7)
        refine ⟨_, rfl, l, ps', _, rfl, SqL.of (by rw [← e3]; exact k7 _ _ lb), e4, fun q2 hq2 => ?_⟩
        rw [merge_rows hnd]
        have d8 := Ext.new (o := .dK (kvs ((zi ++ [zl]).map fun z => z.2))) hq2 _ _ d7
        refine ⟨q1, q2, _, _, rfl, rfl, d8, upd_same, flat_kvs _, flat_kvs _, ?_⟩
        rw [eqDB_comm hnd (good_nodup Gw.2.2).1]
        have k8 := k7.trans (Ext.new (o := .dK (kvs ((zi ++ [zl]).map fun z => z.2))) hq2)
        exact ⟨rfl, _, rfl, iteNS rfl ⟨_, rfl, k8⟩⟩
    · rintro σ H1 ⟨v6, rfl, k1⟩
      have l1 := k1 _ _ lb
      have zo1 : ROk H1 z0 := (zb z0 (List.mem_of_getElem? h0)).ext k1
      refine ⟨_, rfl, _, rfl, l, _, _, _, rfl, rfl, SqL.of l1, at0, z0.1, _, _, _, rfl, rfl, SqT.of zo1.1, (show atI [V.str z0.2.1, parV z0.2.2] ((0 : Nat) : Int) = some (V.str z0.2.1) from atI_nat rfl), _, rfl, l, _, rfl, .inl (SqL.of l1), ?_⟩
      obtain ⟨ps', e3, e4⟩ := dct (fun z h => (zb z h).ext k1)
      refine ⟨_, rfl, l, ps', _, rfl, SqL.of (by rw [← e3]; exact l1), e4, fun q2 hq2 => ?_⟩
      rw [merge_rows hnd]
      have d2 : (upd H1 q2 (.dK (kvs ((zi ++ [zl]).map fun z => z.2)))) q2 = some (.dK (kvs ((zi ++ [zl]).map fun z => z.2))) := upd_same
      have k2' := k1.trans (Ext.new (o := .dK (kvs ((zi ++ [zl]).map fun z => z.2))) hq2)
      generalize upd H1 q2 (.dK (kvs ((zi ++ [zl]).map fun z => z.2))) = H2' at k2' d2 ⊢
      refine ⟨(by show 5 ≤ sizeLine; decide), fun Lo hLo => ?_⟩
      have o3 : (upd H2' Lo (.lst [.non, .ref l, .str z0.2.1, .int ((zi ++ [zl]).map rv_).length, .ref q2])) Lo = some (.lst [.non, .ref l, .str z0.2.1, .int ((zi ++ [zl]).map rv_).length, .ref q2]) := upd_same
      have d3 := Ext.new (o := .lst [.non, .ref l, .str z0.2.1, .int ((zi ++ [zl]).map rv_).length, .ref q2]) hLo _ _ d2
      have k3 := k2'.trans (Ext.new (o := .lst [.non, .ref l, .str z0.2.1, .int ((zi ++ [zl]).map rv_).length, .ref q2]) hLo)
      generalize upd H2' Lo (.lst [.non, .ref l, .str z0.2.1, .int ((zi ++ [zl]).map rv_).length, .ref q2]) = H3' at o3 d3 k3 ⊢
      refine ⟨Lo, rfl, ⟨_, SqL.of o3⟩, fun Lr hLr => ?_⟩
      refine lc_it walk_list (fun i H' => H' Lr = some (.lst []) ∧ Ext H3' H') ⟨upd_same, Ext.new hLr⟩ (fun i H' _ ⟨_, e⟩ => SqL.of (e _ _ o3)) ?_ ?_
      · rintro i y H5 H5' hi ⟨d5, k5⟩ ⟨rfl, hy⟩
        have hy := List.mem_of_getElem? hy
        obtain ⟨T', hT⟩ : ∃ T', EqV H5' y T' := by
          simp only [List.mem_cons, List.not_mem_nil, or_false] at hy
          rcases hy with rfl | rfl | rfl | rfl | rfl
          · exact ⟨_, .non⟩
          · exact ⟨_, .lst (k5 _ _ (k3 _ _ lb))⟩
          · exact ⟨_, .str _⟩
          · exact ⟨_, .int _⟩
          · exact ⟨_, .dct (k5 _ _ d3)⟩
        have F5 := Fb.ext (k3.trans k5)
        have F5' := F5
        obtain ⟨dA, qA, a1, a2⟩ := F5'
        exact ⟨rfl, _, rfl, _, rfl, a, dA, _, T', rfl, a1, hT, ⟨a, _, F5, .inr ⟨y, T', rfl, hT, _, rfl, _, rfl, iteF ⟨d5, k5⟩⟩⟩⟩
      · rintro H5 ⟨d5, k5⟩
        refine ⟨Nat.zero_le _, fun e he => ?_⟩
        have ke := k3.trans (k5.trans (Ext.new (o := .lst []) he))
        refine ⟨Lr, e, [], rfl, rfl, SqL.of (Ext.new he _ _ d5), SqL.of upd_same, ?_⟩
        exact k _ (Db.keep ke) (Kb.trans (Kp.of ke))
end
end Lw

set_option Elab.async false
set_option linter.all false
set_option maxRecDepth 100000
set_option maxHeartbeats 4000000
namespace Lw
open L2 hiding Ext
open PySem PySem.Spec PyProof.Rows Gn Gr Gk Go Gt Gf Gu Gdo
/-! ### rows changed -/
/-- what may be a key -/
def KeyD : PyData → Prop
  | .none => True
  | .bool _ => True
  | .int i => 2 ≤ i
  | .str s => Asc 19 s
  | .tuple [.str _] => True
  | _ => False
def ParA (x : PyData) : Prop := ∀ s, x = .str s → Asc 19 s
theorem KeyD.par {x : PyData} (h : KeyD x) : ParA x := fun s e => by subst e; exact h
def ElP (B : Bool) (x : PyData) : Prop := ∃ k p, x = .tuple [k, p] ∧ KeyD k ∧ ParA p ∧ (B = true → KeyD p)
def ElQ (B : Bool) (x : PyData) : Prop := AscD x ∧ (B = true → ∀ k p, x = .tuple [k, p] → KeyD k ∧ ParA p)
theorem asc_two {k p : PyData} (h : ParA k) : AscD (.tuple [k, p]) := by
  unfold AscD
  cases k with
  | str s => exact h s rfl
  | _ => trivial
theorem asc_ne2 {ds : List PyData} (h : ds.length ≠ 2) : AscD (.tuple ds) := by
  unfold AscD
  split
  · next h' => cases h'; exact absurd rfl h
  · trivial
theorem elq_key {B : Bool} {k : PyData} (h : KeyD k) : ElQ B k := by
  refine ⟨?_, fun _ a p e => ?_⟩
  · cases k with
    | tuple ds =>
      match ds, h with
      | [.str s], _ => exact trivial
    | _ => trivial
  · subst e
    cases a <;> exact h.elim
theorem elq_two {B : Bool} {k p : PyData} (h1 : ParA k) (h2 : B = true → KeyD k) (h3 : B = true → ParA p) : ElQ B (.tuple [k, p]) :=
  ⟨asc_two h1, fun e k' p' e' => by cases e'; exact ⟨h2 e, h3 e⟩⟩
theorem ElP.q {B : Bool} {x : PyData} (h : ElP B x) : ElQ B x := by
  obtain ⟨k, p, rfl, hk, hp, _⟩ := h
  exact elq_two hk.par (fun _ => hk) fun _ => hp
def Ev (B : Bool) (d g : Addr) (H : Hp) (y : V) : Prop := ∃ x, Dk d g H y x ∧ ElQ B x
theorem Ev.kp {B : Bool} {d g : Addr} {H H' : Hp} {y : V} (h : Ev B d g H y) (k : Kp d g H H') : Ev B d g H' y := h.elim fun x hx => ⟨x, hx.1.kp k, hx.2⟩
def StV (B : Bool) (n : Nat) (d g : Addr) (H : Hp) (v : V) : Prop := (∃ t, Ot d g H v t) ∨ ∃ a xs, v = .ref a ∧ ClAt H a xs ∧ a ≠ d ∧ a ≠ g ∧ (∀ y ∈ xs, Ev B d g H y) ∧ xs.length ≤ n
theorem StV.kp {B : Bool} {n : Nat} {d g : Addr} {H H' : Hp} {v : V} (h : StV B n d g H v) (k : Kp d g H H') : StV B n d g H' v := by
  rcases h with ⟨t, h⟩ | ⟨a, xs, rfl, hc, n1, n2, hx, hl⟩
  · exact .inl ⟨t, h.kp fun a o n1 n2 e => k _ _ n1 n2 e⟩
  · refine .inr ⟨a, xs, rfl, ?_, n1, n2, fun y hy => (hx y hy).kp k, hl⟩
    rcases hc with e | e
    · exact .inl (k _ _ n1 n2 e)
    · exact .inr (k _ _ n1 n2 e)
theorem dkall_of {d g : Addr} {H : Hp} {P : PyData → Prop} : ∀ {xs : List V}, (∀ y ∈ xs, ∃ x, Dk d g H y x ∧ P x) → ∃ ds, DkAll d g H xs ds ∧ ∀ x ∈ ds, P x
  | [], _ => ⟨[], .nil, fun _ h => by cases h⟩
  | y :: r, h => by
    obtain ⟨x, h1, h2⟩ := h y (List.mem_cons_self ..)
    obtain ⟨ds, h3, h4⟩ := dkall_of (xs := r) fun z hz => h z (List.mem_cons_of_mem _ hz)
    refine ⟨x :: ds, .cons h1 h3, fun z hz => ?_⟩
    rcases List.mem_cons.mp hz with rfl | hz
    · exact h2
    · exact h4 z hz
theorem StV.sk {B : Bool} {n : Nat} {d g : Addr} {H : Hp} {v : V} (h : StV B n d g H v) (hn : n ≤ 100) : ∃ s, Sk d g H v s := by
  rcases h with ⟨t, h⟩ | ⟨a, xs, rfl, hc, n1, n2, hx, hl⟩
  · exact ⟨none, .oth h⟩
  · obtain ⟨ds, h1, h2⟩ := dkall_of hx
    exact ⟨some ds, .seq hc n1 n2 h1 (fun x hx => (h2 x hx).1) (by rw [← h1.len]; omega)⟩
theorem cutV_mem {xs : List V} {lo hi : Option Int} {y : V} (h : y ∈ cutV xs lo hi) : y ∈ xs := by
  unfold cutV at h
  exact List.mem_of_mem_drop (List.mem_of_mem_take h)
theorem dk_two {d g : Addr} {H : Hp} {y : V} {k p : PyData} (h : Dk d g H y (.tuple [k, p])) : ∃ a v1 v2, y = .ref a ∧ H a = some (.tup [v1, v2]) ∧ a ≠ d ∧ a ≠ g ∧ Dk d g H v1 k ∧ Dk d g H v2 p := by
  cases h with
  | tup h n1 n2 al =>
    cases al with
    | cons h1 al =>
      cases al with
      | cons h2 al =>
        cases al
        exact ⟨_, _, _, rfl, h, n1, n2, h1, h2⟩
theorem key_ok {d g : Addr} {H : Hp} {v : V} {k : PyData} (h : Dk d g H v k) (hk : KeyD k) : ∃ o : OK, KyV H o v ∧ Big o := by
  cases h with
  | non => exact ⟨.non, rfl, trivial⟩
  | bl b => exact ⟨.bo b, rfl, trivial⟩
  | int i => exact ⟨.sc (.inl i), rfl, hk⟩
  | str s => exact ⟨.sc (.inr s), rfl, trivial⟩
  | lst => exact hk.elim
  | dct => exact hk.elim
  | tup h n1 n2 al =>
    cases al with
    | nil => exact hk.elim
    | cons h1 al =>
      cases al with
      | cons => revert hk; cases h1 <;> exact fun h => h.elim
      | nil =>
        cases h1 with
        | str s => exact ⟨.tp [.inr s], ⟨_, rfl, h⟩, trivial⟩
        | _ => exact hk.elim
theorem keys_of {B : Bool} {d g : Addr} {H : Hp} : ∀ {xs : List V}, (∀ y ∈ xs, ∃ x, Dk d g H y x ∧ ElP B x) → ∃ (ps : List Addr) (es : List (OK × V × V)), xs = ps.map V.ref ∧ Paired (fun p e => H p = some (.tup [e.2.1, e.2.2]) ∧ KyV H e.1 e.2.1 ∧ Big e.1) ps es
  | [], _ => ⟨[], [], rfl, .nil⟩
  | y :: r, h => by
    obtain ⟨x, h1, k, p, rfl, hk, hp, _⟩ := h y (List.mem_cons_self ..)
    obtain ⟨a, v1, v2, rfl, ha, _, _, d1, d2⟩ := dk_two h1
    obtain ⟨o, o1, o2⟩ := key_ok d1 hk
    obtain ⟨ps, es, e1, e2⟩ := keys_of (xs := r) fun z hz => h z (List.mem_cons_of_mem _ hz)
    exact ⟨a :: ps, (o, v1, v2) :: es, by rw [e1]; rfl, .cons ⟨ha, o1, o2⟩ e2⟩
section
variable {P : Program} {w : World} {K : PySem.W.Frag} {mg : Str → Option Value} {base : Heap}
abbrev nLCh : List Str := ["_law_state", "_law_stock", "_law_way", "_law_at", "_law_name", "_law_parent", "_law_odd", "_law_names", "_law_parents"]
def spLCh (ns : List Int) : Sp := fun vs H Q _ => ∃ (B : Bool) (n : Nat) (d g c l : Addr) (b : Nat) (xs : List V), vs = [.ref d, .ref l] ∧ Dw ns d g c b H ∧ b ≤ 800000000 ∧ H l = some (.lst xs) ∧ l ≠ d ∧ l ≠ g ∧ xs ≠ [] ∧ xs.length ≤ n ∧ n ≤ 100 ∧ (∀ y ∈ xs, ∃ x, Dk d g H y x ∧ ElP B x) ∧
  ∀ v H', StV B (3 * n) d g H' v → Dw ns d g c (b + 10) H' → Kp d g H H' → Q v H'
theorem scLCh : FnScope nLCh ["_law_state", "_law_stock"] (defScope sLChanged) := ⟨rfl, rfl, rfl, by decide +kernel, rfl, by decide +kernel, by decide +kernel⟩
theorem ok_lch {f fT fP : Addr} {fd fdT fdP : FuncData} (ns : List Int) (F : Fun K "_law_changed" "_law_changed" sLChanged f fd) (T : Names mg) (R : Draw P w K mg base ns fT fP fdT fdP) : FnOk P w K mg base CX0 4 f fd ["_law_state", "_law_stock"] (spLCh ns) := by
  refine F.ok scLCh (fun vs H Q E h => ?_) (fun cdv A outer s H vs Q E hr h => ?_)
  · obtain ⟨B, n, d, g, c, l, b, xs, rfl, _⟩ := h
    rfl
  · obtain ⟨B, n, d, g, c, l, b, xs, rfl, D, hb, hl, nld, nlg, hne, hln, hn, hx, k⟩ := h
    have hu := hu_of hr
    have nd := scLCh.nd
    have hr3 : Room 3 (A.deeper (envOfC "_law_changed" (defScope sLChanged) s.heap.objs.size f cdv)) := hr
    have hr2 : Room 2 (A.deeper (envOfC "_law_changed" (defScope sLChanged) s.heap.objs.size f cdv)) := hr.mono (by decide)
    have hu8 : (A.deeper (envOfC "_law_changed" (defScope sLChanged) s.heap.objs.size f cdv)).units + 8 < cLine := by have := hr.un; omega
    refine ⟨_, pss_cons (ps_par (i := 2) (j := 3) (by rfl) nd rfl rfl (by decide) rfl rfl (pa_cons (pe_call R.GT hr2 rfl R.mT R.kT R.bT .nil pass0 (pa_cons (pv 0) (pa_cons pe_int pa_nil))) (pa_cons (pe_call R.GT hr2 rfl R.mT R.kT R.bT .nil pass0 (pa_cons (pv 0) (pa_cons (pe_callB call_len_seq rfl T.len PySem.boot_len (pa_cons (pv 1) pa_nil)) pa_nil))) pa_nil)) (by rfl))
(pss_cons (ps_asg (pe_ix ix_list (pv 1) (pv 3) (fun _ _ => rfl)) (by exact (pg_tup rfl (pgs_cons (pg_name (i := 4) nd rfl (.inl rfl)) (pgs_cons (pg_name (i := 5) nd rfl (.inl rfl)) pgs_nil)))))
(pss_cons (ps_if (pt_cmpR op_eq (pv 2) pe_int (nomark _)) (pss_one (ps_ret (pe_call R.GP hr3 rfl R.mP R.kP R.bP .nil pass0 (pa_cons (pv 0) (pa_cons (pe_lst (pa_cons pe_non (pa_cons pe_int (pa_cons pe_str (pa_cons pe_dnewK (pa_cons (pe_lst pa_nil) (pa_cons (pe_tup pa_nil) (pa_cons pe_bl (pa_cons (pe_lst (pa_cons (pv 1) pa_nil)) (pa_cons (pe_callTy (cr_dictO rfl hu8) rfl T.dict (by decide +kernel) (pa_cons (pv 1) pa_nil)) pa_nil)))))))))) pa_nil))))) pss_nil)
(pss_cons (ps_if (pt_cmpR op_eq (pv 2) pe_int (nomark _)) (pss_one (ps_ret (pe_op op_cat (pe_slice sl_list (pv 1) po_none (po_some (pv 3))) (pe_slice sl_list (pv 1) (po_some (pe_op op_add (pv 3) pe_int)) po_none)))) pss_nil)
(pss_cons (ps_if (pt_cmpR op_eq (pv 2) pe_int (nomark _)) (pss_one (ps_ret (pe_op op_cat (pe_op op_cat (pe_slice sl_list (pv 1) po_none (po_some (pv 3))) (pe_slice sl_list (pv 1) (po_some (pv 3)) (po_some (pe_op op_add (pv 3) pe_int)))) (pe_slice sl_list (pv 1) (po_some (pv 3)) po_none)))) pss_nil)
(pss_cons (ps_if (pt_cmpR op_eq (pv 2) pe_int (nomark _)) (pss_one (ps_ret (pe_op op_cat (pe_slice sl_list (pv 1) (po_some pe_int) po_none) (pe_slice sl_list (pv 1) po_none (po_some pe_int))))) pss_nil)
(pss_cons (ps_if (pt_cmpR op_eq (pv 2) pe_int (nomark _)) (pss_cons (ps_set (i := 6) nd rfl (.inl rfl) (pe_lst (pa_cons (pe_callTy call_list_of rfl T.list (by decide +kernel) (pa_cons (pe_ix ix_list (pv 1) (pv 3) (fun _ _ => rfl)) pa_nil)) (pa_cons (pe_tup (pa_cons (pv 4) pa_nil)) (pa_cons (pe_tup (pa_cons (pv 4) (pa_cons (pv 5) (pa_cons pe_non pa_nil)))) (pa_cons pe_non (pa_cons (pv 4) (pa_cons (pe_tup (pa_cons (pv 5) (pa_cons (pv 4) pa_nil))) (pa_cons (pe_tup (pa_cons (pe_tup (pa_cons (pv 4) (pa_cons (pv 5) pa_nil))) pa_nil)) pa_nil)))))))))
(pss_one (ps_ret (pe_op op_cat (pe_op op_cat (pe_slice sl_list (pv 1) po_none (po_some (pv 3))) (pe_lst (pa_cons (pe_call R.GP hr3 rfl R.mP R.kP R.bP .nil pass0 (pa_cons (pv 0) (pa_cons (pv 6) pa_nil))) pa_nil))) (pe_slice sl_list (pv 1) (po_some (pe_op op_add (pv 3) pe_int)) po_none))))) pss_nil)
(pss_cons (ps_if (pt_cmpR op_lt (pv 2) pe_int (nomark _)) (pss_cons (ps_set (i := 7) nd rfl (.inl rfl) (pe_lst (pa_cons pe_str (pa_cons pe_str (pa_cons pe_str (pa_cons pe_str (pa_cons pe_str (pa_cons pe_str (pa_cons pe_non (pa_cons pe_int (pa_cons pe_bl (pa_cons (pe_tup (pa_cons pe_str pa_nil)) (pa_cons (pe_ix ix_tup (pe_ix ix_list (pv 1) pe_int (fun _ _ => rfl)) pe_int (fun _ _ => rfl)) (pa_cons (pe_ix ix_tup (pe_ix ix_list (pv 1) (pe_un un_neg pe_int) (fun _ _ => rfl)) pe_int (fun _ _ => rfl)) pa_nil))))))))))))))
(pss_one (ps_ret (pe_op op_cat (pe_op op_cat (pe_slice sl_list (pv 1) po_none (po_some (pv 3))) (pe_lst (pa_cons (pe_tup (pa_cons (pe_call R.GP hr3 rfl R.mP R.kP R.bP .nil pass0 (pa_cons (pv 0) (pa_cons (pv 7) pa_nil))) (pa_cons (pv 5) pa_nil))) pa_nil))) (pe_slice sl_list (pv 1) (po_some (pe_op op_add (pv 3) pe_int)) po_none))))) pss_nil)
(pss_cons (ps_set (i := 8) nd rfl (.inl rfl) (pe_lst (pa_cons pe_str (pa_cons pe_str (pa_cons (pv 4) (pa_cons (pe_ix ix_tup (pe_ix ix_list (pv 1) (pe_un un_neg pe_int) (fun _ _ => rfl)) pe_int (fun _ _ => rfl)) (pa_cons (pe_ix ix_tup (pe_ix ix_list (pv 1) pe_int (fun _ _ => rfl)) pe_int (fun _ _ => rfl)) (pa_cons pe_non (pa_cons pe_int (pa_cons pe_bl (pa_cons (pe_tup (pa_cons (pe_ix ix_tup (pe_ix ix_list (pv 1) pe_int (fun _ _ => rfl)) pe_int (fun _ _ => rfl)) pa_nil)) (pa_cons (pe_lst (pa_cons (pe_ix ix_tup (pe_ix ix_list (pv 1) pe_int (fun _ _ => rfl)) pe_int (fun _ _ => rfl)) pa_nil)) pa_nil))))))))))))
(pss_one (ps_ret (pe_op op_cat (pe_op op_cat (pe_slice sl_list (pv 1) po_none (po_some (pv 3))) (pe_lst (pa_cons (pe_tup (pa_cons (pv 4) (pa_cons (pe_call R.GP hr3 rfl R.mP R.kP R.bP .nil pass0 (pa_cons (pv 0) (pa_cons (pv 8) pa_nil))) pa_nil))) pa_nil))) (pe_slice sl_list (pv 1) (po_some (pe_op op_add (pv 3) pe_int)) po_none)))))))))))), ?_⟩
    have lpos : 1 ≤ xs.length := by cases xs with
      | nil => exact absurd rfl hne
      | cons _ _ => rw [List.length_cons]; omega
    refine ⟨_, rfl, d, g, c, b, 9, rfl, D, by omega, by decide, by decide, fun wy H1 w0 w1 D1 k1 => ?_⟩
    have l1 := k1 _ _ nld nlg hl
    refine ⟨_, rfl, _, rfl, l, _, rfl, .inl (SqL.of l1), d, g, c, _, _, rfl, D1, by omega, by omega, by omega, fun r H2 r0 r1 D2 k2 => ?_⟩
    refine ⟨_, _, rfl, ?_⟩
    have l2 := k2 _ _ nld nlg l1
    have k2 := k1.trans k2
    clear l1 k1 D1
    have hx2 : ∀ y ∈ xs, ∃ x, Dk d g H2 y x ∧ ElP B x := fun y hy => (hx y hy).elim fun x h => ⟨x, h.1.kp k2, h.2⟩
    have E2 : ∀ y ∈ xs, Ev B d g H2 y := fun y hy => (hx2 y hy).elim fun x h => ⟨x, h.1, h.2.q⟩
    obtain ⟨j, rfl⟩ : ∃ j : Nat, r = j := ⟨r.toNat, by omega⟩
    have hj : j < xs.length := by omega
    obtain ⟨x, hk, kd, pd, rfl, hkd, hpd, hB⟩ := hx2 _ (List.getElem_mem hj)
    obtain ⟨za, vk, vp, ez, hz, _, _, dk1, dk2⟩ := dk_two hk
    have atj : atI xs ((j : Nat) : Int) = some (.ref za) := by rw [← ez]; exact atI_nat (List.getElem?_eq_getElem hj)
    refine ⟨_, rfl, _, rfl, l, _, _, _, rfl, rfl, SqL.of l2, atj, za, _, rfl, SqT.of hz, rfl, _, _, rfl, _, _, rfl, rfl, ?_⟩
    refine ⟨_, rfl, rfl, _, rfl, ?_⟩
    have hxx : ∀ {H' : Hp}, Ext H2 H' → ∀ y ∈ xs, ∃ x, Dk d g H' y x ∧ ElP B x := fun kk y hy => (hx2 y hy).elim fun x h => ⟨x, h.1.ext kk, h.2⟩
    by_cases e0 : V.int wy = V.int 0
    · refine iteS e0 ?_
      refine ⟨_, rfl, ?_⟩
      intro q1 hq1
      have j1 : Ext H2 (upd H2 q1 (.dK [])) := Ext.new hq1
      have S1 : StV B (3 * n) d g (upd H2 q1 (.dK [])) (.ref q1) := .inl ⟨_, .dct upd_same (D2.nd hq1) (D2.ng hq1)⟩
      generalize upd H2 q1 (.dK []) = H3 at j1 S1 ⊢
      have D3 := D2.keep j1
      refine ⟨Nat.zero_le _, fun q2 hq2 => ?_⟩
      have j2 := Ext.new (o := .lst []) hq2
      have S2 : StV B (3 * n) d g (upd H3 q2 (.lst [])) (.ref q2) := .inr ⟨q2, [], rfl, .inl upd_same, D3.nd hq2, D3.ng hq2, (fun y h => by cases h), Nat.zero_le _⟩
      have S1 := S1.kp (Kp.of j2)
      have j2 := j1.trans j2
      generalize upd H3 q2 (.lst []) = H4 at j2 S1 S2 ⊢
      have D4 := D2.keep j2
      refine ⟨Nat.zero_le _, fun q3 hq3 => ?_⟩
      have j3 := Ext.new (o := .tup []) hq3
      have S3 : StV B (3 * n) d g (upd H4 q3 (.tup [])) (.ref q3) := .inr ⟨q3, [], rfl, .inr upd_same, D4.nd hq3, D4.ng hq3, (fun y h => by cases h), Nat.zero_le _⟩
      have S1 := S1.kp (Kp.of j3)
      have S2 := S2.kp (Kp.of j3)
      have j3 := j2.trans j3
      generalize upd H4 q3 (.tup []) = H5 at j3 S1 S2 S3 ⊢
      have D5 := D2.keep j3
      refine ⟨_, rfl, (by show 1 ≤ sizeLine; decide), fun q4 hq4 => ?_⟩
      have j4 := Ext.new (o := .lst [.ref l]) hq4
      have k4 := j3.trans j4
      have S4 : StV B (3 * n) d g (upd H5 q4 (.lst [.ref l])) (.ref q4) := by
        refine .inr ⟨q4, [.ref l], rfl, .inl upd_same, D5.nd hq4, D5.ng hq4, fun y hy => ?_, by show 1 ≤ 3 * n; omega⟩
        rw [List.mem_singleton] at hy
        subst hy
        obtain ⟨ds, h1, _⟩ := dkall_of (hxx k4)
        exact ⟨.list ds, .lst (k4 _ _ l2) nld nlg h1, trivial, fun _ k p e => by cases e⟩
      have S1 := S1.kp (Kp.of j4)
      have S2 := S2.kp (Kp.of j4)
      have S3 := S3.kp (Kp.of j4)
      clear j4
      generalize upd H5 q4 (.lst [.ref l]) = H6 at k4 S1 S2 S3 S4 ⊢
      have D6 := D2.keep k4
      obtain ⟨ps, es, e1, e2⟩ := keys_of (hxx k4)
      have p500 : ps.length ≤ 500 := by
        have : ps.length = xs.length := by rw [e1, List.length_map]
        omega
      refine ⟨_, rfl, l, ps, es, rfl, (by rw [← e1]; exact k4 _ _ l2), e2, p500, fun q5 ents ep hq5 => ?_⟩
      have j5 := Ext.new (o := RawO q5 ents ep) hq5
      have S5 : StV B (3 * n) d g (upd H6 q5 (RawO q5 ents ep)) (.ref q5) := .inl ⟨_, .raw upd_same (D6.nd hq5) (D6.ng hq5)⟩
      have S1 := S1.kp (Kp.of j5)
      have S2 := S2.kp (Kp.of j5)
      have S3 := S3.kp (Kp.of j5)
      have S4 := S4.kp (Kp.of j5)
      have k5 := k4.trans j5
      clear j5
      generalize upd H6 q5 (RawO q5 ents ep) = H7 at k5 S1 S2 S3 S4 S5 ⊢
      have D7 := D2.keep k5
      refine ⟨(by show 9 ≤ sizeLine; decide), fun q6 hq6 => ?_⟩
      have all : ∀ y ∈ ([.non, .int 5, .str "a", .ref q1, .ref q2, .ref q3, .bl true, .ref q4, .ref q5] : List V), StV B (3 * n) d g H7 y := fun y hy => by
        simp only [List.mem_cons, List.not_mem_nil, or_false] at hy
        rcases hy with rfl | rfl | rfl | rfl | rfl | rfl | rfl | rfl | rfl
        · exact .inl ⟨_, .non⟩
        · exact .inl ⟨_, .int _⟩
        · exact .inl ⟨_, .str _⟩
        · exact S1
        · exact S2
        · exact S3
        · exact .inl ⟨_, .bl _⟩
        · exact S4
        · exact S5
      have k6 := Ext.new (o := .lst [.non, .int 5, .str "a", .ref q1, .ref q2, .ref q3, .bl true, .ref q4, .ref q5]) hq6
      refine ⟨d, g, c, _, D7.keep k6, by omega, .inl ⟨q6, _, rfl, upd_same, D7.nd hq6, D7.ng hq6, by show 0 < 9; decide, by show 9 ≤ 1000000; decide, fun y H' hy D' k' => ?_⟩⟩
      exact k y H' ((all y hy).kp ((Kp.of k6).trans k')) (D'.mono (by omega)) (k2.trans ((Kp.of (k5.trans k6)).trans k'))
    refine iteN e0 ?_
    refine ⟨_, rfl, rfl, _, rfl, ?_⟩
    -- parts
    have cut : ∀ {H' : Hp} (lo hi : Option Int), Ext H2 H' → ∀ y ∈ cutV xs lo hi, Ev B d g H' y := fun lo hi kk y hy => (E2 y (cutV_mem hy)).kp (Kp.of kk)
    have fin : ∀ {H' : Hp} {p : Addr} {ys : List V}, Ext H2 H' → H' p = none → (∀ y ∈ ys, Ev B d g H' y) → ys.length ≤ 3 * n → Q (.ref p) (upd H' p (.lst ys)) := fun {H' p ys} kk hp he hl => by
      have kn := Ext.new (o := .lst ys) hp
      have D' := D2.keep kk
      exact k (.ref p) _ (.inr ⟨p, ys, rfl, .inl upd_same, D'.nd hp, D'.ng hp, fun y hy => (he y hy).kp (Kp.of kn), hl⟩) ((D'.keep kn).mono (by omega)) (k2.trans (Kp.of (kk.trans kn)))
    have cl : ∀ lo hi, (cutV xs lo hi).length ≤ n := fun lo hi => Nat.le_trans (cutV_length ..) hln
    have tail : ∀ {H' : Hp} {p1 q : Addr} {y : V} {σ : L2.St}, σ[1]? = some (some (.ref l)) → σ[3]? = some (some (.int j)) → Kp d g H2 H' → Dw ns d g c (b + 10) H' → H' p1 = some (.lst (cutV xs none (some (j : Int)))) → H' q = some (.lst [y]) → Ev B d g H' y →
        rCat (.ref p1) (.ref q) H' (fun x H1 => tSl (rSlL K) (tVar 1) (tPart (tOp (rI0 fun i j => V.int (i + j)) (tVar 3) (tC (V.int 1)))) tNoPart σ H1 (fun y H2 => rCat x y H2 Q)) := fun {H' p1 q y σ} s1 s3 kk DD h1 hq hy => by
      have c1 := cl none (some (j : Int))
      have c2 := cl (some ((j : Int) + 1)) none
      refine ⟨p1, q, _, _, rfl, rfl, h1, hq, Nat.le_of_lt (small1000 (by show _ + 1 ≤ _; omega)), fun p3 hp3 => ?_⟩
      have j3 := Ext.new (o := .lst (cutV xs none (some (j : Int)) ++ [y])) hp3
      have d3 : (upd H' p3 (.lst (cutV xs none (some (j : Int)) ++ [y]))) p3 = some (.lst (cutV xs none (some (j : Int)) ++ [y])) := upd_same
      have D3 := DD.keep j3
      have hy3 := hy.kp (Kp.of j3)
      have k3 := kk.trans (Kp.of j3)
      clear hy
      generalize upd H' p3 (.lst (cutV xs none (some (j : Int)) ++ [y])) = H5 at d3 D3 hy3 k3 ⊢
      refine ⟨_, s1, ?_⟩
      refine ⟨_, s3, _, _, rfl, rfl, _, rfl, ?_⟩
      refine ⟨l, _, rfl, SqL.of (k3 _ _ nld nlg l2), fun p2 hp2 => ?_⟩
      have j2 := Ext.new (o := .lst (cutV xs (some ((j : Int) + 1)) none)) hp2
      have d2 : (upd H5 p2 (.lst (cutV xs (some ((j : Int) + 1)) none))) p2 = some (.lst (cutV xs (some ((j : Int) + 1)) none)) := upd_same
      have d3 := j2 _ _ d3
      have D4 := D3.keep j2
      have hy4 := hy3.kp (Kp.of j2)
      have k4 := k3.trans (Kp.of j2)
      clear hy3 D3 k3
      generalize upd H5 p2 (.lst (cutV xs (some ((j : Int) + 1)) none)) = H6 at d3 d2 D4 hy4 k4 ⊢
      refine ⟨p3, p2, _, _, rfl, rfl, d3, d2, Nat.le_of_lt (small1000 (by rw [List.length_append]; show _ + 1 + _ ≤ _; omega)), fun p hp => ?_⟩
      have jn := Ext.new (o := .lst ((cutV xs none (some (j : Int)) ++ [y]) ++ cutV xs (some ((j : Int) + 1)) none)) hp
      refine k (.ref p) _ (.inr ⟨p, _, rfl, .inl upd_same, D4.nd hp, D4.ng hp, fun y' hy' => ?_, ?_⟩) (D4.keep jn) (k2.trans (k4.trans (Kp.of jn)))
      · rcases List.mem_append.mp hy' with hy' | hy'
        · rcases List.mem_append.mp hy' with hy' | hy'
          · exact (E2 y' (cutV_mem hy')).kp (k4.trans (Kp.of jn))
          · rw [List.mem_singleton] at hy'
            subst hy'
            exact hy4.kp (Kp.of jn)
        · exact (E2 y' (cutV_mem hy')).kp (k4.trans (Kp.of jn))
      · rw [List.length_append, List.length_append]
        show _ + 1 + _ ≤ _
        omega
    by_cases e1 : V.int wy = V.int 1
    · refine iteS e1 ?_
      refine ⟨_, rfl, ?_⟩
      dsimp only [tNoPart]
      refine ⟨_, rfl, _, rfl, l, _, rfl, SqL.of l2, fun p1 hp1 => ?_⟩
      have j1 := Ext.new (o := .lst (cutV xs none (some (j : Int)))) hp1
      have d1 : (upd H2 p1 (.lst (cutV xs none (some (j : Int))))) p1 = some (.lst (cutV xs none (some (j : Int)))) := upd_same
      generalize upd H2 p1 (.lst (cutV xs none (some (j : Int)))) = H3 at j1 d1 ⊢
      refine ⟨_, rfl, ?_⟩
      refine ⟨_, rfl, _, _, rfl, rfl, _, rfl, ?_⟩
      refine ⟨l, _, rfl, SqL.of (j1 _ _ l2), fun p2 hp2 => ?_⟩
      have j2 := Ext.new (o := .lst (cutV xs (some ((j : Int) + 1)) none)) hp2
      have d2 : (upd H3 p2 (.lst (cutV xs (some ((j : Int) + 1)) none))) p2 = some (.lst (cutV xs (some ((j : Int) + 1)) none)) := upd_same
      have d1 := j2 _ _ d1
      have j2 := j1.trans j2
      generalize upd H3 p2 (.lst (cutV xs (some ((j : Int) + 1)) none)) = H4 at j2 d1 d2 ⊢
      have c1 := cl none (some (j : Int))
      have c2 := cl (some ((j : Int) + 1)) none
      refine ⟨p1, p2, _, _, rfl, rfl, d1, d2, Nat.le_of_lt (small1000 (by omega)), fun p3 hp3 => ?_⟩
      refine fin j2 hp3 (fun y hy => ?_) (by rw [List.length_append]; omega)
      rcases List.mem_append.mp hy with hy | hy
      · exact cut _ _ j2 y hy
      · exact cut _ _ j2 y hy
    refine iteN e1 ?_
    refine ⟨_, rfl, rfl, _, rfl, ?_⟩
    by_cases e2 : V.int wy = V.int 2
    · refine iteS e2 ?_
      refine ⟨_, rfl, ?_⟩
      dsimp only [tNoPart]
      refine ⟨_, rfl, _, rfl, l, _, rfl, SqL.of l2, fun p1 hp1 => ?_⟩
      have j1 := Ext.new (o := .lst (cutV xs none (some (j : Int)))) hp1
      have d1 : (upd H2 p1 (.lst (cutV xs none (some (j : Int))))) p1 = some (.lst (cutV xs none (some (j : Int)))) := upd_same
      generalize upd H2 p1 (.lst (cutV xs none (some (j : Int)))) = H3 at j1 d1 ⊢
      refine ⟨_, rfl, _, rfl, _, rfl, _, rfl, _, _, rfl, rfl, _, rfl, l, _, rfl, SqL.of (j1 _ _ l2), fun p2 hp2 => ?_⟩
      have j2 := Ext.new (o := .lst (cutV xs (some (j : Int)) (some ((j : Int) + 1)))) hp2
      have d2 : (upd H3 p2 (.lst (cutV xs (some (j : Int)) (some ((j : Int) + 1))))) p2 = some (.lst (cutV xs (some (j : Int)) (some ((j : Int) + 1)))) := upd_same
      have d1 := j2 _ _ d1
      have j2 := j1.trans j2
      generalize upd H3 p2 (.lst (cutV xs (some (j : Int)) (some ((j : Int) + 1)))) = H4 at j2 d1 d2 ⊢
      have c1 := cl none (some (j : Int))
      have c2 := cl (some (j : Int)) (some ((j : Int) + 1))
      have c3 := cl (some (j : Int)) none
      refine ⟨p1, p2, _, _, rfl, rfl, d1, d2, Nat.le_of_lt (small1000 (by omega)), fun p3 hp3 => ?_⟩
      have j3 := Ext.new (o := .lst (cutV xs none (some (j : Int)) ++ cutV xs (some (j : Int)) (some ((j : Int) + 1)))) hp3
      have d3 : (upd H4 p3 (.lst (cutV xs none (some (j : Int)) ++ cutV xs (some (j : Int)) (some ((j : Int) + 1))))) p3 = some (.lst (cutV xs none (some (j : Int)) ++ cutV xs (some (j : Int)) (some ((j : Int) + 1)))) := upd_same
      have j3 := j2.trans j3
      generalize upd H4 p3 (.lst (cutV xs none (some (j : Int)) ++ cutV xs (some (j : Int)) (some ((j : Int) + 1)))) = H5 at j3 d3 ⊢
      refine ⟨_, rfl, _, rfl, _, rfl, ?_⟩
      dsimp only [tNoPart]
      refine ⟨l, _, rfl, SqL.of (j3 _ _ l2), fun p4 hp4 => ?_⟩
      have j4 := Ext.new (o := .lst (cutV xs (some (j : Int)) none)) hp4
      have d4 : (upd H5 p4 (.lst (cutV xs (some (j : Int)) none))) p4 = some (.lst (cutV xs (some (j : Int)) none)) := upd_same
      have d3 := j4 _ _ d3
      have j4 := j3.trans j4
      generalize upd H5 p4 (.lst (cutV xs (some (j : Int)) none)) = H6 at j4 d3 d4 ⊢
      refine ⟨p3, p4, _, _, rfl, rfl, d3, d4, Nat.le_of_lt (small1000 (by rw [List.length_append]; omega)), fun p5 hp5 => ?_⟩
      refine fin j4 hp5 (fun y hy => ?_) (by rw [List.length_append, List.length_append]; omega)
      rcases List.mem_append.mp hy with hy | hy
      · rcases List.mem_append.mp hy with hy | hy
        · exact cut _ _ j4 y hy
        · exact cut _ _ j4 y hy
      · exact cut _ _ j4 y hy
    refine iteN e2 ?_
    refine ⟨_, rfl, rfl, _, rfl, ?_⟩
    by_cases e3 : V.int wy = V.int 3
    · refine iteS e3 ?_
      refine ⟨_, rfl, ?_⟩
      refine ⟨_, rfl, ?_⟩
      dsimp only [tNoPart]
      refine ⟨l, _, rfl, SqL.of l2, fun p1 hp1 => ?_⟩
      have j1 := Ext.new (o := .lst (cutV xs (some 1) none)) hp1
      have d1 : (upd H2 p1 (.lst (cutV xs (some 1) none))) p1 = some (.lst (cutV xs (some 1) none)) := upd_same
      generalize upd H2 p1 (.lst (cutV xs (some 1) none)) = H3 at j1 d1 ⊢
      refine ⟨_, rfl, ?_⟩
      dsimp only [tNoPart]
      refine ⟨_, rfl, l, _, rfl, SqL.of (j1 _ _ l2), fun p2 hp2 => ?_⟩
      have j2 := Ext.new (o := .lst (cutV xs none (some 1))) hp2
      have d2 : (upd H3 p2 (.lst (cutV xs none (some 1)))) p2 = some (.lst (cutV xs none (some 1))) := upd_same
      have d1 := j2 _ _ d1
      have j2 := j1.trans j2
      generalize upd H3 p2 (.lst (cutV xs none (some 1))) = H4 at j2 d1 d2 ⊢
      have c1 := cl none (some 1)
      have c2 := cl (some 1) none
      refine ⟨p1, p2, _, _, rfl, rfl, d1, d2, Nat.le_of_lt (small1000 (by omega)), fun p3 hp3 => ?_⟩
      refine fin j2 hp3 (fun y hy => ?_) (by rw [List.length_append]; omega)
      rcases List.mem_append.mp hy with hy | hy
      · exact cut _ _ j2 y hy
      · exact cut _ _ j2 y hy
    refine iteN e3 ?_
    refine ⟨_, rfl, rfl, _, rfl, ?_⟩
    by_cases e4 : V.int wy = V.int 4
    · refine iteS e4 ?_
      refine ⟨_, rfl, _, rfl, l, _, _, _, rfl, rfl, SqL.of l2, atj, za, _, rfl, .inr (SqT.of hz), fun q1 hq1 => ?_⟩
      have j1 := Ext.new (o := .lst [vk, vp]) hq1
      have S1 : Ev B d g (upd H2 q1 (.lst [vk, vp])) (.ref q1) := ⟨.list [kd, pd], .lst upd_same (D2.nd hq1) (D2.ng hq1) (.cons (dk1.ext j1) (.cons (dk2.ext j1) .nil)), trivial, fun _ k p e => by cases e⟩
      generalize upd H2 q1 (.lst [vk, vp]) = H3 at j1 S1 ⊢
      have D3 := D2.keep j1
      refine ⟨_, rfl, (by show 1 ≤ sizeLine; decide), fun q2 hq2 => ?_⟩
      have j2 := j1.trans (Ext.new (o := .tup [vk]) hq2)
      have S1 := S1.kp (Kp.of (Ext.new (o := .tup [vk]) hq2))
      have S2 : Ev B d g (upd H3 q2 (.tup [vk])) (.ref q2) := ⟨.tuple [kd], .tup upd_same (D3.nd hq2) (D3.ng hq2) (.cons (dk1.ext j2) .nil), asc_ne2 (show (1 : Nat) ≠ 2 by decide), fun _ k p e => by cases e⟩
      generalize upd H3 q2 (.tup [vk]) = H4 at j2 S1 S2 ⊢
      have D4 := D2.keep j2
      refine ⟨_, rfl, _, rfl, (by show 3 ≤ sizeLine; decide), fun q3 hq3 => ?_⟩
      have j3 := j2.trans (Ext.new (o := .tup [vk, vp, .non]) hq3)
      have S1 := S1.kp (Kp.of (Ext.new (o := .tup [vk, vp, .non]) hq3))
      have S2 := S2.kp (Kp.of (Ext.new (o := .tup [vk, vp, .non]) hq3))
      have S3 : Ev B d g (upd H4 q3 (.tup [vk, vp, .non])) (.ref q3) := ⟨.tuple [kd, pd, .none], .tup upd_same (D4.nd hq3) (D4.ng hq3) (.cons (dk1.ext j3) (.cons (dk2.ext j3) (.cons .non .nil))), asc_ne2 (show (3 : Nat) ≠ 2 by decide), fun _ k p e => by cases e⟩
      generalize upd H4 q3 (.tup [vk, vp, .non]) = H5 at j3 S1 S2 S3 ⊢
      have D5 := D2.keep j3
      refine ⟨_, rfl, _, rfl, _, rfl, (by show 2 ≤ sizeLine; decide), fun q4 hq4 => ?_⟩
      have j4 := j3.trans (Ext.new (o := .tup [vp, vk]) hq4)
      have S1 := S1.kp (Kp.of (Ext.new (o := .tup [vp, vk]) hq4))
      have S2 := S2.kp (Kp.of (Ext.new (o := .tup [vp, vk]) hq4))
      have S3 := S3.kp (Kp.of (Ext.new (o := .tup [vp, vk]) hq4))
      have S4 : Ev B d g (upd H5 q4 (.tup [vp, vk])) (.ref q4) := ⟨.tuple [pd, kd], .tup upd_same (D5.nd hq4) (D5.ng hq4) (.cons (dk2.ext j4) (.cons (dk1.ext j4) .nil)), elq_two hpd hB fun _ => hkd.par⟩
      generalize upd H5 q4 (.tup [vp, vk]) = H6 at j4 S1 S2 S3 S4 ⊢
      have D6 := D2.keep j4
      refine ⟨_, rfl, _, rfl, (by show 2 ≤ sizeLine; decide), fun q5 hq5 => ?_⟩
      have j5 := j4.trans (Ext.new (o := .tup [vk, vp]) hq5)
      have S1 := S1.kp (Kp.of (Ext.new (o := .tup [vk, vp]) hq5))
      have S2 := S2.kp (Kp.of (Ext.new (o := .tup [vk, vp]) hq5))
      have S3 := S3.kp (Kp.of (Ext.new (o := .tup [vk, vp]) hq5))
      have S4 := S4.kp (Kp.of (Ext.new (o := .tup [vk, vp]) hq5))
      have I5 : Dk d g (upd H6 q5 (.tup [vk, vp])) (.ref q5) (.tuple [kd, pd]) := .tup upd_same (D6.nd hq5) (D6.ng hq5) (.cons (dk1.ext j5) (.cons (dk2.ext j5) .nil))
      generalize upd H6 q5 (.tup [vk, vp]) = H7 at j5 S1 S2 S3 S4 I5 ⊢
      have D7 := D2.keep j5
      refine ⟨(by show 1 ≤ sizeLine; decide), fun q6 hq6 => ?_⟩
      have n6 := Ext.new (o := .tup [.ref q5]) hq6
      have j6 := j5.trans n6
      have S1 := S1.kp (Kp.of n6)
      have S2 := S2.kp (Kp.of n6)
      have S3 := S3.kp (Kp.of n6)
      have S4 := S4.kp (Kp.of n6)
      have S5 : Ev B d g (upd H7 q6 (.tup [.ref q5])) (.ref q6) := ⟨.tuple [.tuple [kd, pd]], .tup upd_same (D7.nd hq6) (D7.ng hq6) (.cons (I5.ext n6) .nil), asc_ne2 (show (1 : Nat) ≠ 2 by decide), fun _ k p e => by cases e⟩
      clear n6 I5
      generalize upd H7 q6 (.tup [.ref q5]) = H8 at j6 S1 S2 S3 S4 S5 ⊢
      have D8 := D2.keep j6
      have S6 : Ev B d g H8 vk := ⟨kd, dk1.ext j6, elq_key hkd⟩
      have S7 : Ev B d g H8 .non := ⟨.none, .non, trivial, fun _ k p e => by cases e⟩
      clear j1 j2 j3 j4 j5 D3 D4 D5 D6 D7
      refine ⟨(by show 7 ≤ sizeLine; decide), fun p6 hp6 => ?_⟩
      have all : ∀ y ∈ ([.ref q1, .ref q2, .ref q3, .non, vk, .ref q4, .ref q6] : List V), Ev B d g H8 y := fun y hy => by
        simp only [List.mem_cons, List.not_mem_nil, or_false] at hy
        rcases hy with rfl | rfl | rfl | rfl | rfl | rfl | rfl
        · exact S1
        · exact S2
        · exact S3
        · exact S7
        · exact S6
        · exact S4
        · exact S5
      have n9 := Ext.new (o := .lst [.ref q1, .ref q2, .ref q3, .non, vk, .ref q4, .ref q6]) hp6
      have j9 := j6.trans n9
      have d9 : (upd H8 p6 (.lst [.ref q1, .ref q2, .ref q3, .non, vk, .ref q4, .ref q6])) p6 = some (.lst [.ref q1, .ref q2, .ref q3, .non, vk, .ref q4, .ref q6]) := upd_same
      have all9 : ∀ y ∈ ([.ref q1, .ref q2, .ref q3, .non, vk, .ref q4, .ref q6] : List V), Ev B d g (upd H8 p6 (.lst [.ref q1, .ref q2, .ref q3, .non, vk, .ref q4, .ref q6])) y := fun y hy => (all y hy).kp (Kp.of n9)
      have p6d := D8.nd hp6
      have p6g := D8.ng hp6
      clear n9 j6 all S1 S2 S3 S4 S5 S6 S7
      generalize upd H8 p6 (.lst [.ref q1, .ref q2, .ref q3, .non, vk, .ref q4, .ref q6]) = H9 at j9 d9 all9 ⊢
      have D9 := D2.keep j9
      refine ⟨_, rfl, ?_⟩
      dsimp only [tNoPart]
      refine ⟨_, rfl, _, rfl, l, _, rfl, SqL.of (j9 _ _ l2), fun p1 hp1 => ?_⟩
      have n1 := Ext.new (o := .lst (cutV xs none (some (j : Int)))) hp1
      have d1 : (upd H9 p1 (.lst (cutV xs none (some (j : Int))))) p1 = some (.lst (cutV xs none (some (j : Int)))) := upd_same
      refine ⟨_, rfl, _, rfl, d, g, c, _, D9.keep n1, by omega, .inl ⟨p6, _, rfl, n1 _ _ d9, p6d, p6g, by show 0 < 7; decide, by show 7 ≤ 1000000; decide, fun y Ha hy Da ka => ?_⟩⟩
      have kA := (Kp.of (j9.trans n1)).trans ka
      have dA := ka _ _ (D9.nd hp1) (D9.ng hp1) d1
      have eA := (all9 y hy).kp ((Kp.of n1).trans ka)
      refine ⟨(by show 1 ≤ sizeLine; decide), fun q hq => ?_⟩
      have nq := Ext.new (o := .lst [y]) hq
      exact tail rfl rfl (kA.trans (Kp.of nq)) ((Da.keep nq).mono (by omega)) (nq _ _ dA) upd_same (eA.kp (Kp.of nq))
    refine iteN e4 ?_
    obtain ⟨a0, v0, v0', k0, at0, h0, b0, kk0⟩ : ∃ a0 v0 v0' k0, atI xs ((0 : Nat) : Int) = some (.ref a0) ∧ H2 a0 = some (.tup [v0, v0']) ∧ Dk d g H2 v0 k0 ∧ KeyD k0 := by
      obtain ⟨x, h1, k', p', rfl, h2, _⟩ := hx2 _ (List.getElem_mem (show 0 < xs.length by omega))
      obtain ⟨a, v1, v2, e, ha, _, _, d1, _⟩ := dk_two h1
      exact ⟨a, v1, v2, k', by rw [← e]; exact atI_nat (List.getElem?_eq_getElem (by omega)), ha, d1, h2⟩
    obtain ⟨a9, v9, v9', k9, atl, h9, b9, kk9⟩ : ∃ a0 v0 v0' k0, atI xs (-1) = some (.ref a0) ∧ H2 a0 = some (.tup [v0, v0']) ∧ Dk d g H2 v0 k0 ∧ KeyD k0 := by
      obtain ⟨x, h1, k', p', rfl, h2, _⟩ := hx2 _ (List.getLast_mem hne)
      obtain ⟨a, v1, v2, e, ha, _, _, d1, _⟩ := dk_two h1
      refine ⟨a, v1, v2, k', ?_, ha, d1, h2⟩
      rw [← e]
      conv => lhs; rw [← List.dropLast_concat_getLast hne]
      exact atI_last _ _
    refine ⟨_, rfl, _, _, rfl, rfl, _, rfl, ite2 (fun e => ?_) (fun e => ?_)⟩
    · -- names
      refine ⟨(by show 1 ≤ sizeLine; decide), fun q1 hq1 => ?_⟩
      have j1 := Ext.new (o := .tup [.str "a"]) hq1
      have S1 : Dk d g (upd H2 q1 (.tup [.str "a"])) (.ref q1) (.tuple [.str "a"]) := .tup upd_same (D2.nd hq1) (D2.ng hq1) (.cons (.str _) .nil)
      generalize upd H2 q1 (.tup [.str "a"]) = H8 at j1 S1 ⊢
      have D8 := D2.keep j1
      refine ⟨_, rfl, l, _, _, _, rfl, rfl, SqL.of (j1 _ _ l2), at0, a0, _, _, _, rfl, rfl, SqT.of (j1 _ _ h0), (show atI [v0, v0'] ((0 : Nat) : Int) = some v0 from atI_nat rfl), ?_⟩
      refine ⟨_, rfl, _, rfl, l, _, _, _, rfl, rfl, SqL.of (j1 _ _ l2), atl, a9, _, _, _, rfl, rfl, SqT.of (j1 _ _ h9), (show atI [v9, v9'] ((0 : Nat) : Int) = some v9 from atI_nat rfl), ?_⟩
      refine ⟨(by show 12 ≤ sizeLine; decide), fun p6 hp6 => ?_⟩
      have all : ∀ y ∈ ([.str "", .str "A", .str "a1", .str "abcdefghi", .str "abcdefgh", .str "a b", .non, .int 5, .bl true, .ref q1, v0, v9] : List V), ∃ x, Dk d g H8 y x ∧ KeyD x := fun y hy => by
        simp only [List.mem_cons, List.not_mem_nil, or_false] at hy
        rcases hy with rfl | rfl | rfl | rfl | rfl | rfl | rfl | rfl | rfl | rfl | rfl | rfl
        · exact ⟨_, .str _, ⟨by decide +kernel, by decide +kernel⟩⟩
        · exact ⟨_, .str _, ⟨by decide +kernel, by decide +kernel⟩⟩
        · exact ⟨_, .str _, ⟨by decide +kernel, by decide +kernel⟩⟩
        · exact ⟨_, .str _, ⟨by decide +kernel, by decide +kernel⟩⟩
        · exact ⟨_, .str _, ⟨by decide +kernel, by decide +kernel⟩⟩
        · exact ⟨_, .str _, ⟨by decide +kernel, by decide +kernel⟩⟩
        · exact ⟨_, .non, trivial⟩
        · exact ⟨_, .int _, show (2 : Int) ≤ 5 by decide⟩
        · exact ⟨_, .bl _, trivial⟩
        · exact ⟨_, S1, trivial⟩
        · exact ⟨_, b0.ext j1, kk0⟩
        · exact ⟨_, b9.ext j1, kk9⟩
      obtain ⟨L, eL⟩ : ∃ L : List V, L = [.str "", .str "A", .str "a1", .str "abcdefghi", .str "abcdefgh", .str "a b", .non, .int 5, .bl true, .ref q1, v0, v9] := ⟨_, rfl⟩
      have nL : L.length = 12 := by rw [eL]; rfl
      rw [← eL] at all ⊢
      have n9 := Ext.new (o := .lst L) hp6
      have j9 := j1.trans n9
      have d9 : (upd H8 p6 (.lst L)) p6 = some (.lst L) := upd_same
      have all9 : ∀ y ∈ L, ∃ x, Dk d g (upd H8 p6 (.lst L)) y x ∧ KeyD x := fun y hy => (all y hy).elim fun x h => ⟨x, h.1.ext n9, h.2⟩
      have p6d := D8.nd hp6
      have p6g := D8.ng hp6
      clear n9 j1 all S1 eL
      generalize upd H8 p6 (.lst L) = H9 at j9 d9 all9 ⊢
      have D9 := D2.keep j9
      refine ⟨_, rfl, ?_⟩
      dsimp only [tNoPart]
      refine ⟨_, rfl, _, rfl, l, _, rfl, SqL.of (j9 _ _ l2), fun p1 hp1 => ?_⟩
      have n1 := Ext.new (o := .lst (cutV xs none (some (j : Int)))) hp1
      have d1 : (upd H9 p1 (.lst (cutV xs none (some (j : Int))))) p1 = some (.lst (cutV xs none (some (j : Int)))) := upd_same
      refine ⟨_, rfl, _, rfl, d, g, c, _, D9.keep n1, by omega, .inl ⟨p6, _, rfl, n1 _ _ d9, p6d, p6g, by omega, by omega, fun y Ha hy Da ka => ?_⟩⟩
      have kA := (Kp.of (j9.trans n1)).trans ka
      have dA := ka _ _ (D9.nd hp1) (D9.ng hp1) d1
      obtain ⟨xn, e1', e2'⟩ := all9 y hy
      have eA := e1'.kp ((Kp.of n1).trans ka)
      refine ⟨_, rfl, (by show 2 ≤ sizeLine; decide), fun t ht => ?_⟩
      have nt := Ext.new (o := .tup [y, vp]) ht
      have T1 : Ev B d g (upd Ha t (.tup [y, vp])) (.ref t) := ⟨.tuple [xn, pd], .tup upd_same (Da.nd ht) (Da.ng ht) (.cons (eA.ext nt) (.cons ((dk2.kp kA).ext nt) .nil)), elq_two e2'.par (fun _ => e2') fun _ => hpd⟩
      refine ⟨(by show 1 ≤ sizeLine; decide), fun q hq => ?_⟩
      have nq := Ext.new (o := .lst [.ref t]) hq
      exact tail rfl rfl ((kA.trans (Kp.of nt)).trans (Kp.of nq)) (((Da.keep nt).keep nq).mono (by omega)) (nq _ _ (nt _ _ dA)) upd_same (T1.kp (Kp.of nq))
    · -- parents
      refine ⟨_, rfl, _, rfl, _, rfl, l, _, _, _, rfl, rfl, SqL.of l2, atl, a9, _, _, _, rfl, rfl, SqT.of h9, (show atI [v9, v9'] ((0 : Nat) : Int) = some v9 from atI_nat rfl), ?_⟩
      refine ⟨_, rfl, l, _, _, _, rfl, rfl, SqL.of l2, at0, a0, _, _, _, rfl, rfl, SqT.of h0, (show atI [v0, v0'] ((0 : Nat) : Int) = some v0 from atI_nat rfl), ?_⟩
      refine ⟨_, rfl, l, _, _, _, rfl, rfl, SqL.of l2, at0, a0, _, _, _, rfl, rfl, SqT.of h0, (show atI [v0, v0'] ((0 : Nat) : Int) = some v0 from atI_nat rfl), (by show 1 ≤ sizeLine; decide), fun q1 hq1 => ?_⟩
      have j1 := Ext.new (o := .tup [v0]) hq1
      have S1 : Dk d g (upd H2 q1 (.tup [v0])) (.ref q1) (.tuple [k0]) := .tup upd_same (D2.nd hq1) (D2.ng hq1) (.cons (b0.ext j1) .nil)
      generalize upd H2 q1 (.tup [v0]) = H3 at j1 S1 ⊢
      have D3 := D2.keep j1
      refine ⟨_, rfl, l, _, _, _, rfl, rfl, SqL.of (j1 _ _ l2), at0, a0, _, _, _, rfl, rfl, SqT.of (j1 _ _ h0), (show atI [v0, v0'] ((0 : Nat) : Int) = some v0 from atI_nat rfl), (by show 1 ≤ sizeLine; decide), fun q2 hq2 => ?_⟩
      have j2 := j1.trans (Ext.new (o := .lst [v0]) hq2)
      have S1 := S1.ext (Ext.new (o := .lst [v0]) hq2)
      have S2 : Dk d g (upd H3 q2 (.lst [v0])) (.ref q2) (.list [k0]) := .lst upd_same (D3.nd hq2) (D3.ng hq2) (.cons (b0.ext j2) .nil)
      generalize upd H3 q2 (.lst [v0]) = H8 at j2 S1 S2 ⊢
      have D8 := D2.keep j2
      refine ⟨(by show 10 ≤ sizeLine; decide), fun p6 hp6 => ?_⟩
      have all : ∀ y ∈ ([.str "", .str "zz", vk, v9, v0, .non, .int 0, .bl false, .ref q1, .ref q2] : List V), ∃ x, Dk d g H8 y x ∧ ParA x := fun y hy => by
        simp only [List.mem_cons, List.not_mem_nil, or_false] at hy
        rcases hy with rfl | rfl | rfl | rfl | rfl | rfl | rfl | rfl | rfl | rfl
        · exact ⟨_, .str _, fun s e => by cases e; exact (show Asc 19 ("" : Str) from ⟨by decide +kernel, by decide +kernel⟩)⟩
        · exact ⟨_, .str _, fun s e => by cases e; exact (show Asc 19 ("zz" : Str) from ⟨by decide +kernel, by decide +kernel⟩)⟩
        · exact ⟨_, dk1.ext j2, hkd.par⟩
        · exact ⟨_, b9.ext j2, kk9.par⟩
        · exact ⟨_, b0.ext j2, kk0.par⟩
        · exact ⟨_, .non, fun s e => by cases e⟩
        · exact ⟨_, .int _, fun s e => by cases e⟩
        · exact ⟨_, .bl _, fun s e => by cases e⟩
        · exact ⟨_, S1, fun s e => by cases e⟩
        · exact ⟨_, S2, fun s e => by cases e⟩
      obtain ⟨L, eL⟩ : ∃ L : List V, L = [.str "", .str "zz", vk, v9, v0, .non, .int 0, .bl false, .ref q1, .ref q2] := ⟨_, rfl⟩
      have nL : L.length = 10 := by rw [eL]; rfl
      rw [← eL] at all ⊢
      have n9 := Ext.new (o := .lst L) hp6
      have j9 := j2.trans n9
      have d9 : (upd H8 p6 (.lst L)) p6 = some (.lst L) := upd_same
      have all9 : ∀ y ∈ L, ∃ x, Dk d g (upd H8 p6 (.lst L)) y x ∧ ParA x := fun y hy => (all y hy).elim fun x h => ⟨x, h.1.ext n9, h.2⟩
      have p6d := D8.nd hp6
      have p6g := D8.ng hp6
      clear n9 j1 j2 all S1 S2 eL
      generalize upd H8 p6 (.lst L) = H9 at j9 d9 all9 ⊢
      have D9 := D2.keep j9
      refine ⟨_, rfl, ?_⟩
      dsimp only [tNoPart]
      refine ⟨_, rfl, _, rfl, l, _, rfl, SqL.of (j9 _ _ l2), fun p1 hp1 => ?_⟩
      have n1 := Ext.new (o := .lst (cutV xs none (some (j : Int)))) hp1
      have d1 : (upd H9 p1 (.lst (cutV xs none (some (j : Int))))) p1 = some (.lst (cutV xs none (some (j : Int)))) := upd_same
      refine ⟨_, rfl, _, rfl, _, rfl, d, g, c, _, D9.keep n1, by omega, .inl ⟨p6, _, rfl, n1 _ _ d9, p6d, p6g, by omega, by omega, fun y Ha hy Da ka => ?_⟩⟩
      have kA := (Kp.of (j9.trans n1)).trans ka
      have dA := ka _ _ (D9.nd hp1) (D9.ng hp1) d1
      obtain ⟨xn, e1', e2'⟩ := all9 y hy
      have eA := e1'.kp ((Kp.of n1).trans ka)
      refine ⟨(by show 2 ≤ sizeLine; decide), fun t ht => ?_⟩
      have nt := Ext.new (o := .tup [vk, y]) ht
      have T1 : Ev B d g (upd Ha t (.tup [vk, y])) (.ref t) := ⟨.tuple [kd, xn], .tup upd_same (Da.nd ht) (Da.ng ht) (.cons ((dk1.kp kA).ext nt) (.cons (eA.ext nt) .nil)), elq_two hkd.par (fun _ => hkd) fun _ => e2'⟩
      refine ⟨(by show 1 ≤ sizeLine; decide), fun q hq => ?_⟩
      have nq := Ext.new (o := .lst [.ref t]) hq
      exact tail rfl rfl ((kA.trans (Kp.of nt)).trans (Kp.of nq)) (((Da.keep nt).keep nq).mono (by omega)) (nq _ _ (nt _ _ dA)) upd_same (T1.kp (Kp.of nq))
end
end Lw

set_option Elab.async false
set_option linter.all false
set_option maxRecDepth 100000
set_option maxHeartbeats 4000000
namespace Lw
open L2 hiding Ext
open PySem PySem.Spec PyProof.Rows Gn Gr Gk Go Gt Gf Gu Gdo Ge
/-- what the items may be after k changes -/
def Lv (k : Nat) (x : PyData) : Prop := AscD x ∧ (k ≤ 1 → ∀ a p, x = .tuple [a, p] → KeyD a ∧ ParA p) ∧ (k = 0 → ∀ a p, x = .tuple [a, p] → KeyD p)
def mN : Nat → Nat
  | 0 => 9
  | k + 1 => 3 * mN k
def LvV (k : Nat) (d g : Addr) (H : Hp) (y : V) : Prop := ∃ x, Dk d g H y x ∧ Lv k x
def StL (k : Nat) (d g : Addr) (H : Hp) (v : V) : Prop := (∃ t, Ot d g H v t) ∨ ∃ a xs, v = .ref a ∧ ClAt H a xs ∧ a ≠ d ∧ a ≠ g ∧ (∀ y ∈ xs, LvV k d g H y) ∧ xs.length ≤ mN k
theorem StL.of {k : Nat} {d g : Addr} {H : Hp} {v : V} (h : StV (decide (k = 0)) (3 * mN k) d g H v) : StL (k + 1) d g H v := by
  rcases h with h | ⟨a, xs, e, hc, n1, n2, hx, hl⟩
  · exact .inl h
  · refine .inr ⟨a, xs, e, hc, n1, n2, fun y hy => ?_, hl⟩
    obtain ⟨x, h1, h2, h3⟩ := hx y hy
    exact ⟨x, h1, h2, fun hk => h3 (decide_eq_true (by omega)), fun hk => by omega⟩
theorem StL.up {k : Nat} {d g : Addr} {H : Hp} {v : V} (h : StL k d g H v) : StL (k + 1) d g H v := by
  rcases h with h | ⟨a, xs, e, hc, n1, n2, hx, hl⟩
  · exact .inl h
  · refine .inr ⟨a, xs, e, hc, n1, n2, fun y hy => ?_, by show xs.length ≤ 3 * mN k; omega⟩
    obtain ⟨x, h1, h2, h3, h4⟩ := hx y hy
    exact ⟨x, h1, h2, fun hk => h3 (by omega), fun hk => by omega⟩
theorem StL.kp {k : Nat} {d g : Addr} {H H' : Hp} {v : V} (h : StL k d g H v) (kk : Kp d g H H') : StL k d g H' v := by
  rcases h with ⟨t, h⟩ | ⟨a, xs, rfl, hc, n1, n2, hx, hl⟩
  · exact .inl ⟨t, h.kp fun a o n1 n2 e => kk _ _ n1 n2 e⟩
  · refine .inr ⟨a, xs, rfl, ?_, n1, n2, fun y hy => (hx y hy).elim fun x h => ⟨x, h.1.kp kk, h.2⟩, hl⟩
    rcases hc with e | e
    · exact .inl (kk _ _ n1 n2 e)
    · exact .inr (kk _ _ n1 n2 e)
/-- a list or a tuple, or no such thing -/
theorem StL.cases {k : Nat} {d g : Addr} {H : Hp} {v : V} (h : StL k d g H v) (hk : mN k ≤ 100) :
    (∃ t, Ot d g H v t ∧ Sk d g H v none) ∨ ∃ a xs ds, v = .ref a ∧ ClAt H a xs ∧ a ≠ d ∧ a ≠ g ∧ DkAll d g H xs ds ∧ (∀ x ∈ ds, AscD x) ∧ ds.length ≤ 100 := by
  rcases h with ⟨t, h⟩ | ⟨a, xs, rfl, hc, n1, n2, hx, hl⟩
  · exact .inl ⟨t, h, .oth h⟩
  · obtain ⟨ds, h1, h2⟩ := dkall_of hx
    exact .inr ⟨a, xs, ds, rfl, hc, n1, n2, h1, fun x hx => (h2 x hx).1, by rw [← h1.len]; omega⟩
theorem eqv_same {d : PyData} (h : SeqAt.shaped d = true) : PyData.eqv d d = true := by
  rw [SeqAt.eqv_refl]
  exact SeqAt.canLay_of_shaped h
theorem shaped_tstrs {ns : List Str} (h : ∀ x ∈ ns, PyData.strOk x = true) : SeqAt.shaped (.tuple (ns.map PyData.str)) = true := by
  obtain ⟨b1, b2⟩ := lay_all (n := 2) (ds := ns.map PyData.str) fun x hx => by
    obtain ⟨s, hs, rfl⟩ := List.mem_map.mp hx
    exact ⟨by simp [PyData.canLay0, h s hs], by simp [PyData.depth]⟩
  have e : PyData.depth (.tuple (ns.map PyData.str)) = PyData.depthAll (ns.map PyData.str) + 1 := by simp only [PyData.depth]
  unfold SeqAt.shaped
  rw [e]
  simp only [PyData.canLay0, b1, Bool.true_and, decide_eq_true_eq]
  omega
theorem if_tc {b : Bool} {x y : V} {σ : L2.St} {H : Hp} {Q : VK} (h : Q (if b = true then x else y) H) : if b = true then tC x σ H Q else tC y σ H Q := by cases b <;> exact h
theorem name_kd {rs : List FRow} (g : GoodF [] rs) {r : FRow} (h : r ∈ rs) : Asc 19 r.1 ∧ ∀ m, r.2 = some m → Asc 19 m := by
  obtain ⟨i, hi⟩ := List.mem_iff_getElem?.mp h
  have hg := good_at g hi
  rw [List.nil_append] at hg
  refine ⟨name_asc19 hg.1, fun m hm => ?_⟩
  obtain ⟨r', h1, h2⟩ := List.mem_map.mp (hg.2.2 m hm)
  rw [← h2]
  obtain ⟨i2, hi2⟩ := List.mem_iff_getElem?.mp (List.mem_of_mem_take h1)
  exact name_asc19 (good_at g hi2).1
section
variable {P : Program} {w : World} {K : PySem.W.Frag} {mg : Str → Option Value} {base : Heap} {C fI CF pN fN : Addr} {mc : Value} {fdI fdN : FuncData} {gg : List Value → List Value → List Value}
abbrev nLaw : List Str := ["_law_script", "_law_state", "_law_turn", "_law_changes", "_law_stock", "_law_k", "_law_good", "_law_handed", "_law_forest_here", "_law_row"]
theorem scLaw : FnScope nLaw ["_law_script"] (defScope sLaw) := ⟨rfl, rfl, rfl, by decide +kernel, rfl, by decide +kernel, by decide +kernel⟩
theorem ok_law {fB fT fP fF fLc fG fRf fEq f : Addr} {fdB fdT fdP fdF fdLc fdG fdRf fdEq : FuncData} {ns : List Int} {a : Addr} {A : Around} {s : Shared} {H : Hp} {cdv : Value} (hl : ns.length ≤ 63) (B : Bed K mg base A) (hr : Room 7 (A.deeper (envOfC "law" (defScope sLaw) s.heap.objs.size f cdv))) (hS : SqL K H a (ns.map V.int))
    (R : Draw P w K mg base ns fT fP fdT fdP) (T : Names mg) (Z : FC K mg C fI mc)
    (GI : FnOk P w K mg base (L2.CX P w) 4 fI fdI ["self", "rows"] (spInitX C CF)) (kbI : KBn K fdI ["self", "rows"] 1 ["rows"] gg fun vs zs => vs ++ zs)
    (hSN : PropOf K C "names" pN fN) (GS : FnOk P w K mg base CX0 1 fN fdN ["self"] (spNames C)) (bS : Binds K fdN ["self"] [])
    (GB : FnOk P w K mg base CX0 1 fB fdB ["_law_script"] (spBegun K ns)) (bB : Binds K fdB ["_law_script"] []) (kB : PySem.W.keepIn K (.ref fB) = true) (mB : mg "_law_begun" = some (.ref fB))
    (GF : FnOk P w K mg base CX0 5 fF fdF ["_law_state", "_law_most"] (spForest ns)) (bF : Binds K fdF ["_law_state", "_law_most"] []) (kF : PySem.W.keepIn K (.ref fF) = true) (mF : mg "_law_forest" = some (.ref fF))
    (GLc : FnOk P w K mg base CX0 4 fLc fdLc ["_law_state", "_law_stock"] (spLCh ns)) (bLc : Binds K fdLc ["_law_state", "_law_stock"] []) (kLc : PySem.W.keepIn K (.ref fLc) = true) (mLc : mg "_law_changed" = some (.ref fLc))
    (GG : FnOk P w K mg base CX0 2 fG fdG ["_law_value"] spLGood) (bG : Binds K fdG ["_law_value"] []) (kG : PySem.W.keepIn K (.ref fG) = true) (mG : mg "_law_is_good" = some (.ref fG))
    (GRf : FnOk P w K mg base CX0 6 fRf fdRf ["_law_value"] spRefD) (bRf : Binds K fdRf ["_law_value"] []) (kRf : PySem.W.keepIn K (.ref fRf) = true) (mRf : mg "_law_refusal" = some (.ref fRf))
    (GEq : FnOk P w K mg base CX0 6 fEq fdEq ["_law_state", "_law_forest_here", "_law_stock"] (spEqR C ns)) (bEq : Binds K fdEq ["_law_state", "_law_forest_here", "_law_stock"] []) (kEq : PySem.W.keepIn K (.ref fEq) = true) (mEq : mg "_law_equal_right" = some (.ref fEq)) :
    ∃ t, PSs (cxOf CX0 P w K mg base nLaw "law" (defScope sLaw) f cdv A [] s H E0).nox (defBody sLaw) t ∧ t { nx := fun _ _ => False, rt := fun v _ => v = .bl true } (L2.start nLaw [.ref a]) H := by
  have nd := scLaw.nd
  have hu := hu_of hr
  have hgd : (A.deeper (envOfC "law" (defScope sLaw) s.heap.objs.size f cdv)).guards = some [] := B.gd
  have hr6 : Room 6 (A.deeper (envOfC "law" (defScope sLaw) s.heap.objs.size f cdv)) := hr.mono (by decide)
  have hr5 : Room 5 (A.deeper (envOfC "law" (defScope sLaw) s.heap.objs.size f cdv)) := hr.mono (by decide)
  have hr4 : Room 4 (A.deeper (envOfC "law" (defScope sLaw) s.heap.objs.size f cdv)) := hr.mono (by decide)
  have hr3 : Room 3 (A.deeper (envOfC "law" (defScope sLaw) s.heap.objs.size f cdv)) := hr.mono (by decide)
  have hr2 : Room 2 (A.deeper (envOfC "law" (defScope sLaw) s.heap.objs.size f cdv)) := hr.mono (by decide)
  have hr1 : Room 1 (A.deeper (envOfC "law" (defScope sLaw) s.heap.objs.size f cdv)) := hr.mono (by decide)
  obtain ⟨um, hM⟩ := Z.most
  refine ⟨_, pss_cons (ps_set (i := 1) nd rfl (.inl rfl) (pe_call GB hr1 rfl mB kB bB .nil pass0 (pa_cons (pv 0) pa_nil)))
(pss_cons (ps_if (pt_cmpR op_ne (ClX.pe_cval (pe_glob (v := .ref C) rfl Z.g rfl)) pe_int (nomark _)) (pss_one (ps_ret pe_bl)) pss_nil)
(pss_cons (ps_for PassesOwn.never rfl (pi_range1 rfl T.range (pa_cons pe_int pa_nil)) (pg_name (i := 2) nd rfl (.inl rfl))
(pss_cons (ps_set (i := 3) nd rfl (.inl rfl) (pe_call R.GT hr2 rfl R.mT R.kT R.bT .nil pass0 (pa_cons (pv 1) (pa_cons pe_int pa_nil))))
(pss_cons (ps_set (i := 4) nd rfl (.inl rfl) (pe_call GF hr5 rfl mF kF bF .nil pass0 (pa_cons (pv 1) (pa_cons pe_int pa_nil))))
(pss_cons (ps_for PassesOwn.never rfl (pi_range1 rfl T.range (pa_cons (pv 3) pa_nil)) (pg_name (i := 5) nd rfl (.inl rfl))
(pss_one (ps_if (PW.pt (pw_and (pt_val (pe_callB call_isD rfl T.isi (by decide +kernel) (pa_cons (pv 4) (pa_cons (pe_bltn (v := .ty "list") rfl T.list (by decide +kernel) rfl) pa_nil)))) (pw_and (pt_cmpR (Gj.op_neE hr.units) (pv 4) (pe_lst pa_nil) (nomark _)) (pw_and1 (pt_cmpR (Gj.op_eqE hr.units) (pe_lc (own := [("_law_row", 9)]) (g := gName 9) rfl nd (pi_seqV (pv 4)) (blkOk_by (N := nLaw) (sc := defScope sLaw) (by decide +kernel))
(fun _ _ _ _ _ => pg_name (i := 9) nd rfl (.inl rfl)) (fun _ _ _ _ _ => pts_one (pt_not (pt_val (pe_callB (id := "isinstance") (r := rIsi K) call_isi rfl T.isi (by decide +kernel) (pa_cons (pv 9) (pa_cons (pe_bltn (v := .ty "tuple") rfl T.tuple (by decide +kernel) rfl) pa_nil)))))) (fun _ _ _ _ _ => pv 9)) (pe_lst pa_nil) (nomark _)))))) (pss_one (ps_set (i := 4) nd rfl (.inl rfl) (pe_ifExp (pt_cmpR (Gj.op_eqE hr.units) (pe_lc (own := [("_law_row", 9)]) (g := gName 9) rfl nd (pi_seqV (pv 4)) (blkOk_by (N := nLaw) (sc := defScope sLaw) (by decide +kernel))
(fun _ _ _ _ _ => pg_name (i := 9) nd rfl (.inl rfl)) (fun _ _ _ _ _ => pts_one (pt_cmpR op_ne (pe_callB (id := "len") (r := fun xs H Q => ∃ p ys, xs = [V.ref p] ∧ (SqL K H p ys ∨ SqT K H p ys) ∧ Q (V.int ys.length) H) call_len_seq rfl T.len PySem.boot_len (pa_cons (pv 9) pa_nil)) pe_int (nomark _))) (fun _ _ _ _ _ => pv 9)) (pe_lst pa_nil) (nomark _)) (pe_call GLc hr4 rfl mLc kLc bLc .nil pass0 (pa_cons (pv 1) (pa_cons (pv 4) pa_nil))) (pv 4)))) pss_nil)))
(pss_cons (ps_set (i := 6) nd rfl (.inl rfl) (pe_call GG hr2 rfl mG kG bG .nil pass0 (pa_cons (pv 4) pa_nil)))
(pss_cons (ps_if (pt_cmpR op_ne (pe_call GRf hr6 rfl mRf kRf bRf .nil pass0 (pa_cons (pv 4) pa_nil)) (pe_ifExp (pt_val (pv 6)) pe_str pe_str) (nomark _)) (pss_one (ps_ret pe_bl)) pss_nil)
(pss_cons (ps_if (PW.pt (pw_and (pt_val (pe_callB call_isD rfl T.isi (by decide +kernel) (pa_cons (pv 4) (pa_cons (pe_bltn (v := .ty "list") rfl T.list (by decide +kernel) rfl) pa_nil)))) (pw_and1 (pt_cmpR op_ne (pe_call GRf hr6 rfl mRf kRf bRf .nil pass0 (pa_cons (pe_callTy call_tuple_of rfl T.tuple (by decide +kernel) (pa_cons (pv 4) pa_nil)) pa_nil)) (pe_ifExp (pt_val (pv 6)) pe_str pe_str) (nomark _))))) (pss_one (ps_ret pe_bl)) pss_nil)
(pss_one (ps_if (pt_val (pv 6)) (pss_cons (ps_set (i := 7) nd rfl (.inl rfl) (pe_callTy call_list_of rfl T.list (by decide +kernel) (pa_cons (pv 4) pa_nil)))
(pss_cons (ps_set (i := 8) nd rfl (.inl rfl) (pe_makeK0 (E := E0) Z.make GI hr5 rfl Z.g kbI passF (pk_cons (pv 7) pk_nil)))
(pss_cons (ps_expr (pe_bm0 PySem.F.plainAttrs_list PySem.F.slot_list_clear PySem.F.type_list_clear mt_clear (pv 7)))
(pss_one (ps_if (PW.pt (pw_or (pt_cmpR (op_neD hr.units) (pe_prop (pv 8) Z.cl hSN GS hr2 bS .nil pass0 rfl) (pe_callTy call_tuple_of rfl T.tuple (by decide +kernel) (pa_cons (pe_lc (own := [("_law_row", 9)]) (g := gName 9) (tt := tYes) rfl nd (pi_seqV (pv 4)) (blkOk_by (N := nLaw) (sc := defScope sLaw) (by decide +kernel))
(fun _ _ _ _ _ => pg_name (i := 9) nd rfl (.inl rfl)) (fun _ _ _ _ _ => pts_nil) (fun _ _ _ _ _ => pe_ix (r := rIxT K) ix_tup (pv 9) pe_int (fun _ _ => rfl))) pa_nil)) (nomark _)) (pw_or1 (pt_not (pt_val (pe_call GEq hr6 rfl mEq kEq bEq .nil pass0 (pa_cons (pv 1) (pa_cons (pv 8) (pa_cons (pe_callTy call_list_of rfl T.list (by decide +kernel) (pa_cons (pv 4) pa_nil)) pa_nil))))))))) (pss_one (ps_ret pe_bl)) pss_nil))))) pss_nil)))))))))
(pss_one (ps_ret pe_bl)))), ?_⟩
  refine ⟨_, rfl, a, rfl, hS, hl, fun d g c H1 D1 x1 fd fg fc => ?_⟩
  refine ⟨C, mc, _, um, rfl, Z.cr, hM, rfl, _, rfl, iteNS rfl ?_⟩
  refine ⟨4, rfl, by decide, by decide, for_range (lo := 0) (n := 4) (fun i σ H' => ∃ (v2 v3 v4 v5 v6 v7 v8 : Option V), σ = [some (.ref a), some (.ref d), v2, v3, v4, v5, v6, v7, v8, none] ∧ Dw ns d g c (i * 1000) H') ⟨none, none, none, none, none, none, none, rfl, D1⟩ ?_ ?_⟩
  · rintro i σ H2 hi ⟨v2, v3, v4, v5, v6, v7, v8, rfl, D2⟩
    refine ⟨_, rfl, d, g, c, _, 3, rfl, D2, by omega, by decide, by decide, fun n H3 n0 n1 D3 k3 => ?_⟩
    refine ⟨_, rfl, d, g, c, _, 9, rfl, D3, by omega, by decide, by decide, fun lr rx rs H4 lr0 nrd nrg r4 R4 G D4 k4 => ?_⟩
    have S0 : StL 0 d g H4 (.ref lr) := by
      refine .inr ⟨lr, rx, rfl, .inl r4, nrd, nrg, fun y hy => ?_, by rw [R4.1]; exact G.2.1⟩
      obtain ⟨i', hi'⟩ := List.mem_iff_getElem?.mp hy
      have hlt : i' < rs.length := by
        have := (List.getElem?_eq_some_iff.mp hi').1
        rw [R4.1] at this
        exact this
      obtain ⟨r, e1⟩ : ∃ r, rs[i']? = some r := ⟨_, List.getElem?_eq_getElem hlt⟩
      obtain ⟨p, e0, e2⟩ := R4.2 i' r e1
      rw [e0] at hi'
      cases hi'
      have hg := good_at G.2.2 e1
      rw [List.nil_append] at hg
      have an := name_asc19 hg.1
      have ap : ∀ m, r.2 = some m → Asc 19 m := fun m hm => by
        obtain ⟨r', h1, h2⟩ := List.mem_map.mp (hg.2.2 m hm)
        rw [← h2]
        obtain ⟨i2, hi2⟩ := List.mem_iff_getElem?.mp (List.mem_of_mem_take h1)
        exact name_asc19 (good_at G.2.2 hi2).1
      have kp : KeyD (parD r.2) := by
        cases hq : r.2 with
        | none => exact trivial
        | some m => exact ap m hq
      refine ⟨rowD r, ?_, ?_, fun _ a p e => ?_, fun _ a p e => ?_⟩
      · obtain ⟨⟨gs, l, t, hd, hg', _, _⟩, _⟩ := D4
        exact .tup e2 (ne_of e2 hd (by intro z; cases z)) (ne_of e2 hg' (by intro z; cases z)) (.cons (.str _) (.cons (dk_par _) .nil))
      · exact an
      · cases e
        exact ⟨an, kp.par⟩
      · cases e
        exact kp
    refine ⟨_, rfl, n, rfl, by omega, by omega, for_range (lo := 0) (n := n.toNat) (fun k σ H' => ∃ (v5 : Option V) (v : V), σ = [some (.ref a), some (.ref d), some (.int (0 + (i : Int))), some (.int n), some v, v5, v6, v7, v8, none] ∧ StL k d g H' v ∧ Dw ns d g c (i * 1000 + 400 + k * 10) H')
      ⟨v5, _, rfl, S0, D4.mono (by omega)⟩ ?_ ?_⟩
    · rintro k σ Hk hk ⟨v5', v, rfl, Sv, Dk_⟩
      have hk2 : k ≤ 1 := by omega
      have mk : mN k ≤ 27 := by
        rcases (by omega : k = 0 ∨ k = 1) with rfl | rfl <;> decide
      have nop : ∀ {H' : Hp} {v5 : Option V}, Ext Hk H' → ∃ (v5' : Option V) (v' : V), [some (.ref a), some (.ref d), some (.int (0 + (i : Int))), some (.int n), some v, v5, v6, v7, v8, none] = [some (.ref a), some (.ref d), some (.int (0 + (i : Int))), some (.int n), some v', v5', v6, v7, v8, none] ∧ StL (k + 1) d g H' v' ∧ Dw ns d g c (i * 1000 + 400 + (k + 1) * 10) H' := fun kk =>
        ⟨_, v, rfl, (Sv.kp (Kp.of kk)).up, (Dk_.keep kk).mono (by omega)⟩
      have Sv' := Sv
      rcases Sv' with ⟨t, ht⟩ | ⟨l, xs, rfl, hc, nld, nlg, hx, hlen⟩
      · obtain ⟨h0, h1, _⟩ := Ot.ty (K := K) ht
        exact ⟨_, rfl, _, _, _, _, false, rfl, .ty _, h0, kit_ty h1, false, rfl, iteF (nop Ext.refl)⟩
      rcases hc with hL | hT
      rotate_left
      · exact ⟨_, rfl, _, _, _, _, false, rfl, .ty _, .x (TyT.tup hT).x, kit_ty (by decide +kernel), false, rfl, iteF (nop Ext.refl)⟩
      refine ⟨_, rfl, _, _, _, _, true, rfl, .ty _, .x (TyT.lst hL).x, kit_ty (by decide +kernel), true, rfl, iteT ?_⟩
      refine ⟨_, rfl, Nat.zero_le _, fun e he => ⟨l, e, xs, rfl, rfl, SqL.of (Ext.new he _ _ hL), SqL.of upd_same, ?_⟩⟩
      have k1 := Ext.new (o := .lst []) he
      generalize upd Hk e (.lst []) = H5 at k1 ⊢
      by_cases hne : xs = []
      · subst hne
        exact ⟨false, rfl, iteF (nop k1)⟩
      have hie : xs.isEmpty = false := by cases xs with
        | nil => exact absurd rfl hne
        | cons => rfl
      rw [hie]
      refine ⟨true, rfl, iteT ?_⟩
      have l5 := k1 _ _ hL
      refine ⟨l, xs, rfl, .inl l5, fun J wJ D hD => ?_⟩
      have nlD : l ≠ D := ne_of_none l5 hD
      refine lc_it wJ (fun i' H' => ∃ zs : List V, H' D = some (.lst zs) ∧ zs.length ≤ i' ∧ (zs = [] → ∀ y ∈ xs.take i', ∃ ds, Dk d g Hk y (.tuple ds) ∧ Lv k (.tuple ds)) ∧ Ext Hk H' ∧ H' l = H5 l)
        ⟨[], upd_same, Nat.le_refl _, (fun _ y hy => by simp at hy), k1.trans (Ext.new hD), upd_ne nlD⟩ (fun i' H' _ ⟨_, _, _, _, _, e⟩ => e) ?_ ?_
      · rintro i' y H6 H6' hi' ⟨zs, z1, z2, z3, z4, z5⟩ ⟨rfl, hy⟩
        obtain ⟨x, dx, lx⟩ := hx y (List.mem_of_getElem? hy)
        rcases (dx.ext z4).nt with ⟨a', ys, ds, rfl, rfl, ha, _⟩ | ⟨T', ht, hk', _⟩
        · refine ⟨rfl, _, rfl, _, _, _, _, true, rfl, .ty _, (TyT.tup ha).x, kit_ty (by decide +kernel), true, rfl, iteF ?_⟩
          refine ⟨zs, z1, by omega, fun e y' hy' => ?_, z4, z5⟩
          rw [List.take_add_one, hy] at hy'
          rcases List.mem_append.mp hy' with h | h
          · exact z3 e y' h
          · have h : y' ∈ ([.ref a'] : List V) := h
            rw [List.mem_singleton] at h
            subst h
            exact ⟨ds, dx, lx⟩
        · refine ⟨rfl, _, rfl, _, _, _, _, false, rfl, .ty _, ht.x, kit_ty hk', false, rfl, iteT ?_⟩
          have hi2 : i' < xs.length := hi'
          refine ⟨_, rfl, zs, z1, small1000 (by omega), zs ++ [y], upd_same, by rw [List.length_append]; show _ + 1 ≤ _; omega, fun e => absurd e (by simp), fun b o hb => ?_, ?_⟩
          · rw [upd_ne (ne_of_none (k1 _ _ hb) hD)]
            exact z4 _ _ hb
          · rw [upd_ne nlD]
            exact z5
      rintro H6 ⟨zs, z1, z2, z3, z4, z5⟩
      rw [List.take_length] at z3
      refine ⟨Nat.zero_le _, fun e2 he2 => ⟨D, e2, zs, rfl, rfl, SqL.of (Ext.new he2 _ _ z1), SqL.of upd_same, ?_⟩⟩
      have k6 := z4.trans (Ext.new (o := .lst []) he2)
      generalize upd H6 e2 (.lst []) = H7 at k6 ⊢
      cases zs with
      | cons => exact ⟨false, rfl, iteF (nop k6)⟩
      | nil =>
        have hx3 := z3 rfl
        refine ⟨true, rfl, iteT ?_⟩
        have l7 := k6 _ _ hL
        refine ⟨l, xs, rfl, .inl l7, fun J2 wJ2 D7 hD7 => ?_⟩
        have nl7 : l ≠ D7 := ne_of_none l7 hD7
        refine lc_it wJ2 (fun i' H' => ∃ zs : List V, H' D7 = some (.lst zs) ∧ zs.length ≤ i' ∧ (zs = [] → ∀ y ∈ xs.take i', ∃ a p, Dk d g Hk y (.tuple [a, p]) ∧ Lv k (.tuple [a, p])) ∧ Ext Hk H' ∧ H' l = H7 l)
          ⟨[], upd_same, Nat.le_refl _, (fun _ y hy => by simp at hy), k6.trans (Ext.new hD7), upd_ne nl7⟩ (fun i' H' _ ⟨_, _, _, _, _, e⟩ => e) ?_ ?_
        · rintro i' y H8 H8' hi' ⟨zs, w1, w2, w3, w4, w5⟩ ⟨rfl, hy⟩
          obtain ⟨ds, dx, lx⟩ := hx3 y (List.mem_of_getElem? hy)
          have dx' := dx
          cases dx with
          | @tup a' ys _ ha m1 m2 al =>
            have hl2 := DkAll.len al
            refine ⟨rfl, _, rfl, a', ys, rfl, .inr (SqT.of (w4 _ _ ha)), rfl, _, rfl, ?_⟩
            by_cases h2 : ys.length = 2
            · refine iteNS (by rw [h2]; rfl) ⟨zs, w1, by omega, fun e y' hy' => ?_, w4, w5⟩
              rw [List.take_add_one, hy] at hy'
              rcases List.mem_append.mp hy' with h | h
              · exact w3 e y' h
              · have h : y' ∈ ([.ref a'] : List V) := h
                rw [List.mem_singleton] at h
                subst h
                match ds, (by omega : ds.length = 2), dx', lx with
                | [x1, x2], _, dx', lx => exact ⟨x1, x2, dx', lx⟩
            · show if (!decide (V.int (ys.length : Nat) = V.int 2)) = true then _ else _
              rw [decide_eq_false (by intro e; injection e with e; omega)]
              have hi2 : i' < xs.length := hi'
              refine iteT ⟨_, rfl, zs, w1, small1000 (by omega), zs ++ [.ref a'], upd_same, by rw [List.length_append]; show _ + 1 ≤ _; omega, fun e => absurd e (by simp), fun b o hb => ?_, ?_⟩
              · rw [upd_ne (ne_of_none (k6 _ _ hb) hD7)]
                exact w4 _ _ hb
              · rw [upd_ne nl7]
                exact w5
        rintro H8 ⟨zs, w1, w2, w3, w4, w5⟩
        rw [List.take_length] at w3
        refine ⟨Nat.zero_le _, fun e3 he3 => ⟨D7, e3, zs, rfl, rfl, SqL.of (Ext.new he3 _ _ w1), SqL.of upd_same, ?_⟩⟩
        have k8 := w4.trans (Ext.new (o := .lst []) he3)
        generalize upd H8 e3 (.lst []) = H9 at k8 ⊢
        cases zs with
        | cons => exact ⟨false, rfl, iteF ⟨_, rfl, nop k8⟩⟩
        | nil =>
          have hx4 := w3 rfl
          refine ⟨true, rfl, iteT ⟨_, rfl, _, rfl, decide (k = 0), mN k, d, g, c, l, _, xs, rfl, Dk_.keep k8, by omega, k8 _ _ hL, nld, nlg, hne, hlen, by omega, fun y hy => ?_, fun v' Ha sv Da ka => ⟨_, v', rfl, StL.of sv, Da.mono (by omega)⟩⟩⟩
          obtain ⟨x1, x2, dx, lx⟩ := hx4 y hy
          have kx := lx.2.1 (by omega) _ _ rfl
          exact ⟨_, dx.ext k8, x1, x2, rfl, kx.1, kx.2, fun e => lx.2.2 (of_decide_eq_true e) _ _ rfl⟩
    · rintro σ Hn ⟨v5', v, rfl, Sv, Dn⟩
      have mn : mN n.toNat ≤ 100 := by
        rcases (by omega : n.toNat = 0 ∨ n.toNat = 1 ∨ n.toNat = 2) with e | e | e <;> rw [e] <;> decide
      rcases Sv.cases mn with ⟨t, ht, sk⟩ | ⟨l, xs, ds, rfl, hc, nld, nlg, hd, hA, h100⟩
      · obtain ⟨h0, h1, _⟩ := Ot.ty (K := K) ht
        refine ⟨_, rfl, v, d, g, none, rfl, sk, fun H5 k5 => ?_⟩
        refine ⟨_, rfl, d, g, v, none, rfl, sk.ext k5, fun H6 k6 => ?_⟩
        refine ⟨_, rfl, _, rfl, if_tc ⟨rfl, _, rfl, iteNS rfl ?_⟩⟩
        obtain ⟨h0, h1, _⟩ := Ot.ty (K := K) (ht.kp (d := d) (g := g) fun a o _ _ e => k6 _ _ (k5 _ _ e))
        refine ⟨_, rfl, _, _, _, _, false, rfl, .ty _, h0, kit_ty h1, false, rfl, iteF ?_⟩
        exact ⟨_, rfl, _, rfl, iteF ⟨_, _, _, _, _, _, _, rfl, (Dn.keep (k5.trans k6)).mono (by omega)⟩⟩
      · have hS' : Sk d g Hn (.ref l) (some ds) := .seq hc nld nlg hd hA h100
        obtain ⟨bq, hbq⟩ : ∃ b, (goodS (some ds)).isSome = b := ⟨_, rfl⟩
        refine ⟨_, rfl, .ref l, d, g, _, rfl, hS', fun H5 k5 => ?_⟩
        refine ⟨_, rfl, d, g, .ref l, _, rfl, hS'.ext k5, fun H6 k6 => ?_⟩
        rw [hbq]
        have k56 := k5.trans k6
        refine ⟨_, rfl, _, rfl, if_tc ⟨by cases bq <;> rfl, _, rfl, iteNS (by cases bq <;> rfl) ?_⟩⟩
        refine (fun (rest : ∀ H7 : Hp, Ext Hn H7 → (?R : Hp → Prop) H7) => ?first) ?second
        case first =>
          rcases hc with hL | hT
          · refine ⟨_, rfl, _, _, _, _, true, rfl, .ty _, .x (TyT.lst (k56 _ _ hL)).x, kit_ty (by decide +kernel), true, rfl, iteT ?_⟩
            refine ⟨_, rfl, l, _, rfl, .inl ⟨SqL.of (k56 _ _ hL), fun t ht => ?_⟩⟩
            have kt := k56.trans (Ext.new (o := .tup xs) ht)
            have Dt := Dn.keep k56
            refine ⟨d, g, .ref t, _, rfl, .seq (.inr upd_same) (Dt.nd ht) (Dt.ng ht) (hd.ext kt) hA h100, fun H7 k7 => ?_⟩
            rw [hbq]
            refine ⟨_, rfl, _, rfl, if_tc ⟨by cases bq <;> rfl, _, rfl, iteNS (by cases bq <;> rfl) ?_⟩⟩
            exact rest _ (kt.trans k7)
          · refine ⟨_, rfl, _, _, _, _, false, rfl, .ty _, .x (TyT.tup (k56 _ _ hT)).x, kit_ty (by decide +kernel), false, rfl, iteF ?_⟩
            exact rest _ k56
        case second =>
          intro H7 k7
          refine ⟨_, rfl, _, rfl, ?_⟩
          have D7 := Dn.keep k7
          cases bq with
          | false => exact iteF ⟨_, _, _, _, _, _, _, rfl, D7.mono (by omega)⟩
          | true =>
            refine iteT ?_
            obtain ⟨rs', hgs⟩ := Option.isSome_iff_exists.mp hbq
            have hlen : 1 ≤ ds.length ∧ ds.length ≤ 8 := by
              by_cases h : 1 ≤ ds.length ∧ ds.length ≤ 8
              · exact h
              · rw [goodS_out h] at hgs
                cases hgs
            obtain ⟨hR, hg, rl⟩ := rowsM_at hd (by rw [← hgs, goodS_in hlen.1 hlen.2])
            have Gd : Good rs' := ⟨by omega, by omega, hg⟩
            have hnd := (good_nodup hg).1
            have xl : xs.length = rs'.length := hR.1
            have hc7 := hc.ext k7
            refine ⟨_, rfl, l, xs, rfl, hc7.sq, fun q hq => ?_⟩
            have nq := Ext.new (o := .lst xs) hq
            have qd := D7.nd hq
            have qg := D7.ng hq
            have qc : q ≠ c := fun e => by rw [e, D7.cl] at hq; cases hq
            have nlq : l ≠ q := by rcases hc7 with e | e <;> exact ne_of_none e hq
            have q8 : (upd H7 q (.lst xs)) q = some (.lst xs) := upd_same
            have k8 := k7.trans nq
            have hc8 := hc7.ext nq
            generalize upd H7 q (.lst xs) = H8 at q8 k8 hc8 ⊢
            have D8 := Dn.keep k8
            refine ⟨_, rfl, rfl, rfl, fun x dx hx hdx ne => ?_⟩
            have kx : Ext H8 (upd (upd H8 dx (.own x)) x (.ins C dx [])) := fun b o hb => by
              rw [upd_ne (ne_of_none hb hx), upd_ne (ne_of_none hb hdx)]
              exact hb
            refine ⟨x, dx, d, g, .ref q, some ds, rfl, upd_same, .seq (.inl (kx _ _ q8)) qd qg (hd.ext (k8.trans kx)) hA h100, fun rs2 hrs2 H9 D9 k9 i9 d9 => ⟨rfl, ?_⟩, fun hn => by rw [hgs] at hn; cases hn⟩
            rw [hgs] at hrs2
            cases hrs2
            have k89 : Ext H8 H9 := fun b o hb => k9 _ _ (ne_of_none hb hx) (kx _ _ hb)
            have q9 := k89 _ _ q8
            refine ⟨_, rfl, .inl ⟨rfl, _, SqL.of q9⟩, q, _, rfl, rfl, q9, ?_⟩
            have F9 : FoAt C (upd H9 q (.lst [])) x rs' := ⟨dx, D9, by rw [upd_ne (ne_of i9 q9 (by intro z; cases z))]; exact i9, by rw [upd_ne (ne_of d9 q9 (by intro z; cases z))]; exact d9⟩
            have Da := ((D8.keep k89).put (o := .lst []) q9 qd qg qc)
            have tups : ∀ p ys, Hn p = some (.tup ys) → (upd H9 q (.lst [])) p = some (.tup ys) := fun p ys hp => by
              have h9 := k89 _ _ (k8 _ _ hp)
              rw [upd_ne (ne_of h9 q9 (by intro z; cases z))]
              exact h9
            have Ra : RowsAt (upd H9 q (.lst [])) xs rs' := ⟨hR.1, fun i' r hr' => by
              obtain ⟨p, h1, h2⟩ := hR.2 i' r hr'
              exact ⟨p, h1, tups _ _ h2⟩⟩
            have ca : ClAt (upd H9 q (.lst [])) l xs := by
              rcases hc8 with e | e
              · exact .inl (by rw [upd_ne nlq]; exact k89 _ _ e)
              · exact .inr (by rw [upd_ne nlq]; exact k89 _ _ e)
            clear hd
            generalize upd H9 q (.lst []) = Ha at F9 Da Ra ca ⊢
            have F9' := F9
            obtain ⟨dx', Dp', i10, d10⟩ := F9'
            refine ⟨_, rfl, x, dx', _, rfl, i10, x, rs', rfl, F9, fun Hb tb kb htb hTb => ?_⟩
            have cb := ca.ext kb
            refine ⟨l, xs, rfl, cb, fun J wJ L hL => ?_⟩
            have nlL : l ≠ L := by rcases cb with e | e <;> exact ne_of_none e hL
            refine lc_it wJ (fun i' H' => H' L = some (.lst (((fNames rs').take i').map V.str)) ∧ Ext Hb H' ∧ H' l = Hb l) ⟨upd_same, Ext.new hL, upd_ne nlL⟩ (fun i' H' _ ⟨_, _, e⟩ => e) ?_ ?_
            · rintro i' z H6 H6' hi' ⟨d6, e6, l6⟩ ⟨rfl, hz⟩
              have hlt : i' < rs'.length := by have hi' : i' < xs.length := hi'; omega
              obtain ⟨p, h1, h2⟩ := Ra.2 i' _ (List.getElem?_eq_getElem hlt)
              rw [h1] at hz
              cases hz
              have hrn : (fNames rs')[i']? = some rs'[i'].1 := by unfold fNames; rw [List.getElem?_map, List.getElem?_eq_getElem hlt]; rfl
              refine ⟨rfl, yes_of ?_⟩
              refine ⟨_, rfl, p, _, _, _, rfl, rfl, SqT.of (e6 _ _ (kb _ _ h2)), (show atI [V.str rs'[i'].1, parV rs'[i'].2] ((0 : Nat) : Int) = some (V.str rs'[i'].1) from atI_nat rfl), _, d6, ?_, ?_, fun b o hb => ?_, ?_⟩
              · rw [List.length_map, List.length_take]
                exact small1000 (by omega)
              · rw [upd_same, List.take_add_one, hrn, List.map_append]
                rfl
              · rw [upd_ne (ne_of_none hb hL)]
                exact e6 _ _ hb
              · rw [upd_ne nlL]
                exact l6
            rintro H6 ⟨d6, e6, _⟩
            have et : (fNames rs').take xs.length = fNames rs' := List.take_of_length_le (by unfold fNames; rw [List.length_map]; omega)
            rw [et] at d6
            refine ⟨L, _, rfl, .inl ⟨SqL.of d6, fun t2 ht2 => ?_⟩⟩
            have nt := Ext.new (o := .tup ((fNames rs').map V.str)) ht2
            have oks : ∀ y ∈ fNames rs', PyData.strOk y = true := fun y hy => by
              obtain ⟨r, hr', rfl⟩ := List.mem_map.mp hy
              exact (name_kd hg hr').1.ok
            have shp := shaped_tstrs oks
            refine ⟨_, _, .tup (SqT.of (nt _ _ (e6 _ _ hTb))) (dp_strs _), .tup (SqT.of upd_same) (dp_strs _), shp, shp, _, rfl, ?_⟩
            rw [eqv_same shp]
            refine iteF ?_
            have kz := kb.trans (e6.trans nt)
            have Dz := Da.keep kz
            have cz := ca.ext kz
            have Rz := Ra.ext kz
            have Fz := F9.ext kz
            generalize upd H6 t2 (.tup ((fNames rs').map V.str)) = Hz at kz Dz cz Rz Fz ⊢
            obtain ⟨zs, ez, er, hz⟩ := rw_of Rz fun r hr' => ⟨(name_kd hg hr').1.ok, fun m hm => ((name_kd hg hr').2 m hm).ok⟩
            refine ⟨_, rfl, _, rfl, _, rfl, l, xs, rfl, cz.sq, fun q2 hq2 => ?_⟩
            have n2 := Ext.new (o := .lst xs) hq2
            refine ⟨d, g, c, x, q2, _, zs, rfl, Dz.ng hq2, Dz.keep n2, by omega, by rw [← er]; exact Fz.ext n2, by rw [← ez]; exact upd_same, by rw [← er]; exact Gd, fun z hz' => (hz z hz').ext n2, fun z hz' => ?_, fun Hy Dy ky => ?_⟩
            · have : z.2 ∈ rs' := by rw [er]; exact List.mem_map.mpr ⟨z, hz', rfl⟩
              exact (name_kd hg this).1
            · exact ⟨_, rfl, iteF ⟨_, _, _, _, _, _, _, rfl, Dy.mono (by omega)⟩⟩
  · rintro σ H2 ⟨v2, v3, v4, v5, v6, v7, v8, rfl, D2⟩
    rfl
end
end Lw

set_option Elab.async false
set_option linter.all false
set_option maxRecDepth 100000
set_option maxHeartbeats 8000000
namespace Lw
open L2 hiding Ext
open PySem PySem.Spec PyProof.Rows Gn Gr Gk Go Gt Gf Gu Ge
theorem kit_self {K : PySem.W.Frag} {C : Addr} : PySem.W.kitOne K (.ref C) (.ref C) = some true := by
  unfold PySem.W.kitOne
  rw [if_pos (by simp)]
theorem kbn_one {K : PySem.W.Frag} {fd : FuncData} (b : ∀ (s : Shared) (u w : Value), BindsTo s fd ⟨[u], [("rows", w)]⟩ [("self", u), ("rows", w)]) : KBn K fd ["self", "rows"] 1 ["rows"] (fun us ws => us ++ ws) (fun vs zs => vs ++ zs) :=
  ⟨fun s us ws _ h1 h2 => match us, ws, h1, h2 with | [u], [w], _, _ => b s u w, fun r z => Vals.append r z⟩
theorem ns_ok {K : PySem.W.Frag} {N nQQ : Nat} {oc : Value} {od : Option Addr} {es : Array DictEntry} {sl : Array (Option Value)} (l : K.lookup N = some ⟨oc, od, .dict es nQQ, sl⟩) (e : (es.all fun e => match e.key with | .str _ _ => true | _ => false) = true) : PySem.W.nsOkIn K N = true := by
  unfold PySem.W.nsOkIn
  rw [l]
  exact e
theorem kit_ref {K : PySem.W.Frag} {A B : Addr} (d : PySem.W.hasDictIn K B = true) (u : PySem.W.typeIn K (.ref B) = some (.type "type")) (n : ((Value.ref A) == (Value.ref B)) = false) (s : PySem.W.subIn K (.ref A) (.ref B) = some false) : PySem.W.kitOne K (.ref A) (.ref B) = some false := by
  obtain ⟨cd, hc, _⟩ := PySem.W.any_some d
  have e2 : ((PySem.W.clsIn K B).isSome && PySem.W.typeIn K (.ref B) == some (.type "type")) = true := by rw [hc, u] <;> rfl
  show (if ((Value.ref A) == (Value.ref B)) = true then some true else (if ((PySem.W.clsIn K B).isSome && PySem.W.typeIn K (.ref B) == some (.type "type")) = true then PySem.W.subIn K (.ref A) (.ref B) else none)) = some false
  rw [n, if_pos e2]
  exact s
theorem kit_typ {K : PySem.W.Frag} {A : Addr} {T : String} (m : PySem.W.kitMeta T = true) (s : PySem.W.subIn K (.ref A) (.type T) = some true) : PySem.W.kitOne K (.ref A) (.type T) = some true := by
  show (if ((Value.ref A) == (Value.type T)) = true then some true else (if PySem.W.kitMeta T = true then PySem.W.subIn K (.ref A) (.type T) else none)) = some true
  rw [if_pos m, s]
  split <;> rfl
theorem nf_mk {K : PySem.W.Frag} {C : Addr} (d : PySem.W.hasDictIn K C = true) (u : PySem.W.typeIn K (.ref C) = some (.type "type")) : NF K C := by
  obtain ⟨cd, hc, _⟩ := PySem.W.any_some d
  have e2 : ((PySem.W.clsIn K C).isSome && PySem.W.typeIn K (.ref C) == some (.type "type")) = true := by rw [hc, u] <;> rfl
  have g : ∀ (T : String) (l : List Value), fastBuiltinMro T = some l → l.contains (.ref C) = false → PySem.W.kitOne K (.type T) (.ref C) = some false := fun T l h1 h2 => by
    show (if ((Value.type T) == (Value.ref C)) = true then some true else (if ((PySem.W.clsIn K C).isSome && PySem.W.typeIn K (.ref C) == some (.type "type")) = true then PySem.W.subIn K (.type T) (.ref C) else none)) = some false
    rw [show ((Value.type T) == (Value.ref C)) = false from rfl, if_pos e2]
    unfold PySem.W.subIn
    dsimp only
    rw [h1, Option.map_some, h2]
    rfl
  exact ⟨g _ [.type "NoneType", .type "object"] (by decide +kernel) rfl, g _ [.type "int", .type "object"] (by decide +kernel) rfl, g _ [.type "str", .type "object"] (by decide +kernel) rfl, g _ [.type "list", .type "object"] (by decide +kernel) rfl, g _ [.type "tuple", .type "object"] (by decide +kernel) rfl, g _ [.type "dict", .type "object"] (by decide +kernel) rfl⟩
/-- what the top has left, def by def -/
theorem all_mk {P : Program} {w : World} {K : PySem.W.Frag} {h : Heap} {mg : Str → Option Value} {fa : Addr} (X : K.In h) (G : h.Ns mainGlobals mg) (hfa : mg "law" = some (.ref fa))
    {fq0 : Addr} {odq0 anq0 : Option Addr} {slq0 : Array (Option Value)} {ocq0 kVq0 dcq0 pmq0 cdq0 ctq0 : Value}
    (aq0 : PySem.W.nsIn K mainGlobals "_law_begun" = some (some (.ref fq0))) (lq0 : K.lookup fq0 = some ⟨ocq0, odq0, .func (PySem.W.fnOf "_law_begun" "_law_begun" (defArgs sBegun) (defBody sBegun) (defScope sBegun) .none kVq0 dcq0 pmq0 anq0 cdq0 ctq0), slq0⟩) (cq0 : PySem.W.codeIn K cdq0 "_law_begun" = true) (kq0 : PySem.W.keepIn K (.ref fq0) = true)
    {fq1 : Addr} {odq1 anq1 : Option Addr} {slq1 : Array (Option Value)} {ocq1 kVq1 dcq1 pmq1 cdq1 ctq1 : Value}
    (aq1 : PySem.W.nsIn K mainGlobals "_law_mixed" = some (some (.ref fq1))) (lq1 : K.lookup fq1 = some ⟨ocq1, odq1, .func (PySem.W.fnOf "_law_mixed" "_law_mixed" (defArgs sMixed) (defBody sMixed) (defScope sMixed) .none kVq1 dcq1 pmq1 anq1 cdq1 ctq1), slq1⟩) (cq1 : PySem.W.codeIn K cdq1 "_law_mixed" = true) (kq1 : PySem.W.keepIn K (.ref fq1) = true)
    {fq2 : Addr} {odq2 anq2 : Option Addr} {slq2 : Array (Option Value)} {ocq2 kVq2 dcq2 pmq2 cdq2 ctq2 : Value}
    (aq2 : PySem.W.nsIn K mainGlobals "_law_take" = some (some (.ref fq2))) (lq2 : K.lookup fq2 = some ⟨ocq2, odq2, .func (PySem.W.fnOf "_law_take" "_law_take" (defArgs sTake) (defBody sTake) (defScope sTake) .none kVq2 dcq2 pmq2 anq2 cdq2 ctq2), slq2⟩) (cq2 : PySem.W.codeIn K cdq2 "_law_take" = true) (kq2 : PySem.W.keepIn K (.ref fq2) = true)
    {fq3 : Addr} {odq3 anq3 : Option Addr} {slq3 : Array (Option Value)} {ocq3 kVq3 dcq3 pmq3 cdq3 ctq3 : Value}
    (aq3 : PySem.W.nsIn K mainGlobals "_law_pick" = some (some (.ref fq3))) (lq3 : K.lookup fq3 = some ⟨ocq3, odq3, .func (PySem.W.fnOf "_law_pick" "_law_pick" (defArgs sPick) (defBody sPick) (defScope sPick) .none kVq3 dcq3 pmq3 anq3 cdq3 ctq3), slq3⟩) (cq3 : PySem.W.codeIn K cdq3 "_law_pick" = true) (kq3 : PySem.W.keepIn K (.ref fq3) = true)
    {fq4 : Addr} {odq4 anq4 : Option Addr} {slq4 : Array (Option Value)} {ocq4 kVq4 dcq4 pmq4 cdq4 ctq4 : Value}
    (aq4 : PySem.W.nsIn K mainGlobals "_law_words" = some (some (.ref fq4))) (lq4 : K.lookup fq4 = some ⟨ocq4, odq4, .func (PySem.W.fnOf "_law_words" "_law_words" (defArgs sWords) (defBody sWords) (defScope sWords) .none kVq4 dcq4 pmq4 anq4 cdq4 ctq4), slq4⟩) (cq4 : PySem.W.codeIn K cdq4 "_law_words" = true) (kq4 : PySem.W.keepIn K (.ref fq4) = true)
    {fq5 : Addr} {odq5 anq5 : Option Addr} {slq5 : Array (Option Value)} {ocq5 kVq5 dcq5 pmq5 cdq5 ctq5 : Value}
    (aq5 : PySem.W.nsIn K mainGlobals "_law_forest" = some (some (.ref fq5))) (lq5 : K.lookup fq5 = some ⟨ocq5, odq5, .func (PySem.W.fnOf "_law_forest" "_law_forest" (defArgs sForest) (defBody sForest) (defScope sForest) .none kVq5 dcq5 pmq5 anq5 cdq5 ctq5), slq5⟩) (cq5 : PySem.W.codeIn K cdq5 "_law_forest" = true) (kq5 : PySem.W.keepIn K (.ref fq5) = true)
    {fq6 : Addr} {odq6 anq6 : Option Addr} {slq6 : Array (Option Value)} {ocq6 kVq6 dcq6 pmq6 cdq6 ctq6 : Value}
    (aq6 : PySem.W.nsIn K mainGlobals "is_name" = some (some (.ref fq6))) (lq6 : K.lookup fq6 = some ⟨ocq6, odq6, .func (PySem.W.fnOf "is_name" "is_name" (defArgs sName) (defBody sName) (defScope sName) .none kVq6 dcq6 pmq6 anq6 cdq6 ctq6), slq6⟩) (cq6 : PySem.W.codeIn K cdq6 "is_name" = true) (kq6 : PySem.W.keepIn K (.ref fq6) = true)
    {fq7 : Addr} {odq7 anq7 : Option Addr} {slq7 : Array (Option Value)} {ocq7 kVq7 dcq7 pmq7 cdq7 ctq7 : Value}
    (aq7 : PySem.W.nsIn K mainGlobals "is_row" = some (some (.ref fq7))) (lq7 : K.lookup fq7 = some ⟨ocq7, odq7, .func (PySem.W.fnOf "is_row" "is_row" (defArgs sRow) (defBody sRow) (defScope sRow) .none kVq7 dcq7 pmq7 anq7 cdq7 ctq7), slq7⟩) (cq7 : PySem.W.codeIn K cdq7 "is_row" = true) (kq7 : PySem.W.keepIn K (.ref fq7) = true)
    {fq8 : Addr} {odq8 anq8 : Option Addr} {slq8 : Array (Option Value)} {ocq8 kVq8 dcq8 pmq8 cdq8 ctq8 : Value}
    (aq8 : PySem.W.nsIn K mainGlobals "first_wrong" = some (some (.ref fq8))) (lq8 : K.lookup fq8 = some ⟨ocq8, odq8, .func (PySem.W.fnOf "first_wrong" "first_wrong" (defArgs sWrong) (defBody sWrong) (defScope sWrong) .none kVq8 dcq8 pmq8 anq8 cdq8 ctq8), slq8⟩) (cq8 : PySem.W.codeIn K cdq8 "first_wrong" = true) (kq8 : PySem.W.keepIn K (.ref fq8) = true)
    {fq9 : Addr} {odq9 anq9 : Option Addr} {slq9 : Array (Option Value)} {ocq9 kVq9 dcq9 pmq9 cdq9 ctq9 : Value}
    (aq9 : PySem.W.nsIn K mainGlobals "law" = some (some (.ref fq9))) (lq9 : K.lookup fq9 = some ⟨ocq9, odq9, .func (PySem.W.fnOf "law" "law" (defArgs sLaw) (defBody sLaw) (defScope sLaw) .none kVq9 dcq9 pmq9 anq9 cdq9 ctq9), slq9⟩) (cq9 : PySem.W.codeIn K cdq9 "law" = true) (kq9 : PySem.W.keepIn K (.ref fq9) = true)
    {fq10 : Addr} {odq10 anq10 : Option Addr} {slq10 : Array (Option Value)} {ocq10 kVq10 dcq10 pmq10 cdq10 ctq10 : Value}
    (aq10 : PySem.W.nsIn K mainGlobals "_law_order" = some (some (.ref fq10))) (lq10 : K.lookup fq10 = some ⟨ocq10, odq10, .func (PySem.W.fnOf "_law_order" "_law_order" (defArgs sLOrder) (defBody sLOrder) (defScope sLOrder) .none kVq10 dcq10 pmq10 anq10 cdq10 ctq10), slq10⟩) (cq10 : PySem.W.codeIn K cdq10 "_law_order" = true) (kq10 : PySem.W.keepIn K (.ref fq10) = true)
    {fq11 : Addr} {odq11 anq11 : Option Addr} {slq11 : Array (Option Value)} {ocq11 kVq11 dcq11 pmq11 cdq11 ctq11 : Value}
    (aq11 : PySem.W.nsIn K mainGlobals "_law_is_name" = some (some (.ref fq11))) (lq11 : K.lookup fq11 = some ⟨ocq11, odq11, .func (PySem.W.fnOf "_law_is_name" "_law_is_name" (defArgs sLIsName) (defBody sLIsName) (defScope sLIsName) .none kVq11 dcq11 pmq11 anq11 cdq11 ctq11), slq11⟩) (cq11 : PySem.W.codeIn K cdq11 "_law_is_name" = true) (kq11 : PySem.W.keepIn K (.ref fq11) = true)
    {fq12 : Addr} {odq12 anq12 : Option Addr} {slq12 : Array (Option Value)} {ocq12 kVq12 dcq12 pmq12 cdq12 ctq12 : Value}
    (aq12 : PySem.W.nsIn K mainGlobals "_law_is_good" = some (some (.ref fq12))) (lq12 : K.lookup fq12 = some ⟨ocq12, odq12, .func (PySem.W.fnOf "_law_is_good" "_law_is_good" (defArgs sLIsGood) (defBody sLIsGood) (defScope sLIsGood) .none kVq12 dcq12 pmq12 anq12 cdq12 ctq12), slq12⟩) (cq12 : PySem.W.codeIn K cdq12 "_law_is_good" = true) (kq12 : PySem.W.keepIn K (.ref fq12) = true)
    {fq13 : Addr} {odq13 anq13 : Option Addr} {slq13 : Array (Option Value)} {ocq13 kVq13 dcq13 pmq13 cdq13 ctq13 : Value}
    (aq13 : PySem.W.nsIn K mainGlobals "_law_changed" = some (some (.ref fq13))) (lq13 : K.lookup fq13 = some ⟨ocq13, odq13, .func (PySem.W.fnOf "_law_changed" "_law_changed" (defArgs sLChanged) (defBody sLChanged) (defScope sLChanged) .none kVq13 dcq13 pmq13 anq13 cdq13 ctq13), slq13⟩) (cq13 : PySem.W.codeIn K cdq13 "_law_changed" = true) (kq13 : PySem.W.keepIn K (.ref fq13) = true)
    {fq14 : Addr} {odq14 anq14 : Option Addr} {slq14 : Array (Option Value)} {ocq14 kVq14 dcq14 pmq14 cdq14 ctq14 : Value}
    (aq14 : PySem.W.nsIn K mainGlobals "_law_refusal" = some (some (.ref fq14))) (lq14 : K.lookup fq14 = some ⟨ocq14, odq14, .func (PySem.W.fnOf "_law_refusal" "_law_refusal" (defArgs sLRefusal) (defBody sLRefusal) (defScope sLRefusal) .none kVq14 dcq14 pmq14 anq14 cdq14 ctq14), slq14⟩) (cq14 : PySem.W.codeIn K cdq14 "_law_refusal" = true) (kq14 : PySem.W.keepIn K (.ref fq14) = true)
    {fq15 : Addr} {odq15 anq15 : Option Addr} {slq15 : Array (Option Value)} {ocq15 kVq15 dcq15 pmq15 cdq15 ctq15 : Value}
    (aq15 : PySem.W.nsIn K mainGlobals "_law_sorted_rows" = some (some (.ref fq15))) (lq15 : K.lookup fq15 = some ⟨ocq15, odq15, .func (PySem.W.fnOf "_law_sorted_rows" "_law_sorted_rows" (defArgs sLSortedRows) (defBody sLSortedRows) (defScope sLSortedRows) .none kVq15 dcq15 pmq15 anq15 cdq15 ctq15), slq15⟩) (cq15 : PySem.W.codeIn K cdq15 "_law_sorted_rows" = true) (kq15 : PySem.W.keepIn K (.ref fq15) = true)
    {fq16 : Addr} {odq16 anq16 : Option Addr} {slq16 : Array (Option Value)} {ocq16 kVq16 dcq16 pmq16 cdq16 ctq16 : Value}
    (aq16 : PySem.W.nsIn K mainGlobals "_law_equal_right" = some (some (.ref fq16))) (lq16 : K.lookup fq16 = some ⟨ocq16, odq16, .func (PySem.W.fnOf "_law_equal_right" "_law_equal_right" (defArgs sLEqualRight) (defBody sLEqualRight) (defScope sLEqualRight) .none kVq16 dcq16 pmq16 anq16 cdq16 ctq16), slq16⟩) (cq16 : PySem.W.codeIn K cdq16 "_law_equal_right" = true) (kq16 : PySem.W.keepIn K (.ref fq16) = true)
    {C : Addr} (aC : PySem.W.nsIn K mainGlobals "Forest" = some (some (.ref C)))
    {fI : Addr} {odI anI : Option Addr} {slI : Array (Option Value)} {ocI kVI dcI pmI cdI ctI : Value}
    (aI : PySem.W.findIn K (.ref C) "__init__" = some (some (.ref fI))) (iI : PySem.W.isFn K (.ref fI) = true)
    (lI : K.lookup fI = some ⟨ocI, odI, .func (PySem.W.fnOf "__init__" "Forest.__init__" (defArgs sInit) (defBody sInit) (defScope sInit) .none kVI dcI pmI anI cdI ctI), slI⟩) (cI : PySem.W.codeIn K cdI "Forest.__init__" = true) (kI : PySem.W.keepIn K (.ref fI) = true)
    {fS : Addr} {odS anS : Option Addr} {slS : Array (Option Value)} {ocS kVS dcS pmS cdS ctS : Value}
    {pS : Addr} {rrS : List Value} (aS : PySem.W.findIn K (.ref C) "names" = some (some (.ref pS))) (gS : PySem.W.specialIn K (.ref pS) "__get__" = some (some (.builtin "property.__get__"))) (tS : PySem.W.takesIn K (.ref pS) = some true) (rS : PySem.W.recIn K pS "property" = some (.ref fS :: rrS))
    (lS : K.lookup fS = some ⟨ocS, odS, .func (PySem.W.fnOf "names" "Forest.names" (defArgs sNames) (defBody sNames) (defScope sNames) .none kVS dcS pmS anS cdS ctS), slS⟩) (cS : PySem.W.codeIn K cdS "Forest.names" = true) (kS : PySem.W.keepIn K (.ref fS) = true)
    {fE : Addr} {odE anE : Option Addr} {slE : Array (Option Value)} {kVE dcE pmE cdE ctE : Value}
    (aE : PySem.W.findIn K (.ref C) "__eq__" = some (some (.ref fE))) (iE : PySem.W.isFn K (.ref fE) = true)
    (lE : K.lookup fE = some ⟨.type "function", odE, .func (PySem.W.fnOf "__eq__" "Forest.__eq__" (defArgs sEq) (defBody sEq) (defScope sEq) .none kVE dcE pmE anE cdE ctE), slE⟩) (cE : PySem.W.codeIn K cdE "Forest.__eq__" = true) (kE : PySem.W.keepIn K (.ref fE) = true)
    {tM : Tok}
    (pg : PySem.W.plainGet K C Str.empty = true)
    (hd : PySem.W.hasDictIn K C = true)
    (po : PySem.W.plainOver K C = true)
    (sa : PySem.W.findIn K (.ref C) "__setattr__" = some (some (.builtin "object.__setattr__")))
    (mk : PySem.W.makesIn K C = true)
    (kc : PySem.W.keepIn K (.ref C) = true)
    (nP : PySem.W.findIn K (.ref C) "_parents" = some none)
    (rd : PySem.W.readsIn K C (.type "type") = true)
    (ga : PySem.W.specialIn K (.ref C) "__getattribute__" = some (some (.builtin "type.__getattribute__")))
    (mo : PySem.W.findCls K (.ref C) (.type "type") "MOST" = some (.val (.int 8 tM)))
    (ha : PySem.W.findIn K (.ref C) "__class__" = some (some (.builtin "object.__class__")))
    (hn : PySem.W.specialIn K (.builtin "object.__class__") "__get__" = some (some (.builtin "getset_descriptor.__get__")))
    (ht : PySem.W.takesIn K (.builtin "object.__class__") = some true)
    (hm : PySem.W.mroIn K C (.type "object") = some true)
    {tk0 : Tok} (kg0 : PySem.W.nsIn K mainGlobals "LETTERS" = some (some (.str letters tk0)))
    {tk1 : Tok} (kg1 : PySem.W.nsIn K mainGlobals "LONGEST" = some (some (.int 8 tk1)))
    (z0 : PySem.W.nsIn K mainGlobals "isinstance" = some none)
    (z1 : PySem.W.nsIn K mainGlobals "str" = some none)
    (z2 : PySem.W.nsIn K mainGlobals "int" = some none)
    (z3 : PySem.W.nsIn K mainGlobals "bool" = some none)
    (z4 : PySem.W.nsIn K mainGlobals "list" = some none)
    (z5 : PySem.W.nsIn K mainGlobals "tuple" = some none)
    (z6 : PySem.W.nsIn K mainGlobals "dict" = some none)
    (z7 : PySem.W.nsIn K mainGlobals "len" = some none)
    (z8 : PySem.W.nsIn K mainGlobals "all" = some none)
    (z9 : PySem.W.nsIn K mainGlobals "enumerate" = some none)
    (z10 : PySem.W.nsIn K mainGlobals "range" = some none)
    (z11 : PySem.W.nsIn K mainGlobals "min" = some none)
    (z12 : PySem.W.nsIn K mainGlobals "zip" = some none)
    (z13 : PySem.W.nsIn K mainGlobals "repr" = some none)
    (z14 : PySem.W.nsIn K mainGlobals "ValueError" = some none)
    {nm q : Str} {N : Addr} {bs : List Value} {hdct : Bool} {sn : List Str} {sub : List Value} {ab : Bool} {col : Option Bool} {dd : Option Addr} {k0 k1 k2 k3 k5 : Option Value} {newId : String} {ocN : Value} {odN : Option Addr} {esN : Array DictEntry} {nQQ_ : Nat} {slN : Array (Option Value)} {CF CT CP CU : Addr}
    (lC : K.lookup C = some (excClassObj nm q C N bs [.type "object"] hdct sn sub ab col dd k0 k1 k2 k3 k5 newId))
    (lQQ : K.lookup N = some ⟨ocN, odN, .dict esN nQQ_, slN⟩)
    (eQQ : (esN.all fun e => match e.key with | .str _ _ => true | _ => false) = true)
    (nE : PySem.W.nsIn K N "__eq__" = some (some (.ref fE)))
    (nQQ : PySem.W.nsIn K N "__ne__" = some none)
    (uC : PySem.W.typeIn K (.ref C) = some (.type "type"))
    (CF_a : PySem.W.nsIn K mainGlobals "InvalidForest" = some (some (.ref CF)))
    (CT_a : PySem.W.nsIn K mainGlobals "InvalidText" = some (some (.ref CT)))
    (CU_a : PySem.W.nsIn K mainGlobals "UnknownAccount" = some (some (.ref CU)))
    (CP_a : PySem.W.nsIn K mainGlobals "PurseError" = some (some (.ref CP)))
    (gF0 : PySem.W.findIn K (.ref CF) "__getattribute__" = some (some (.builtin "BaseException.__getattribute__")))
    (hF0 : PySem.W.findIn K (.ref CF) "__getattr__" = some none)
    (sF : PySem.W.subIn K (.ref CF) (.type "BaseException") = some true)
    (dF : PySem.W.hasDictIn K CF = true)
    (xF : PySem.W.findIn K (.ref CF) "__class__" = some (some (.builtin "object.__class__")))
    (yF : PySem.W.mroIn K CF (.type "object") = some true)
    (qF : PySem.W.keepIn K (.ref CF) = true)
    (uF : PySem.W.typeIn K (.ref CF) = some (.type "type"))
    (dT : PySem.W.hasDictIn K CT = true)
    (uT : PySem.W.typeIn K (.ref CT) = some (.type "type"))
    (dU : PySem.W.hasDictIn K CU = true)
    (uU : PySem.W.typeIn K (.ref CU) = some (.type "type"))
    (sP : PySem.W.subIn K (.ref CP) (.type "BaseException") = some true)
    (dP : PySem.W.hasDictIn K CP = true)
    (uP : PySem.W.typeIn K (.ref CP) = some (.type "type"))
    (sFP : PySem.W.subIn K (.ref CF) (.ref CP) = some true)
    (sFT : PySem.W.subIn K (.ref CF) (.ref CT) = some false)
    (nFT : ((Value.ref CF) == (Value.ref CT)) = false)
    (sFU : PySem.W.subIn K (.ref CF) (.ref CU) = some false)
    (nFU : ((Value.ref CF) == (Value.ref CU)) = false)
    (sFV : PySem.W.subIn K (.ref CF) (.type "ValueError") = some true)
    (xF_ : PySem.W.excIn K CF [.type "ValueError", .type "Exception", .type "BaseException", .type "object"] "ValueError.__new__" = true)
    : ∃ fd : FuncData, Fun K "law" "law" sLaw fa fd ∧ (∀ (s : Shared) (u : Value), BindsTo s fd ⟨[u], []⟩ [("_law_script", u)]) ∧
      ∀ (base : Heap) (A : Around) (s : Shared) (H : Hp) (cdv : Value) (a : Addr) (ns : List Int), ns.length ≤ 63 → Bed K mg base A → Room 7 (A.deeper (envOfC "law" (defScope sLaw) s.heap.objs.size fa cdv)) → SqL K H a (ns.map V.int) →
        ∃ t, PSs (cxOf CX0 P w K mg base nLaw "law" (defScope sLaw) fa cdv A [] s H E0).nox (defBody sLaw) t ∧ t { nx := fun _ _ => False, rt := fun v _ => v = .bl true } (L2.start nLaw [.ref a]) H := by
  have e := hfa.symm.trans (PySem.W.mg_of X G aq9)
  cases e
  have Fq0 := fun_mk (st := sBegun) lq0 cq0 kq0
  have mq0 := PySem.W.mg_of X G aq0
  have bq0 := Fq0.binds (ps := ["_law_script"]) fun _ _ _ _ _ _ us hl => match us, hl with | [_], _ => rfl
  have Fq1 := fun_mk (st := sMixed) lq1 cq1 kq1
  have mq1 := PySem.W.mg_of X G aq1
  have bq1 := Fq1.binds (ps := ["_law_state"]) fun _ _ _ _ _ _ us hl => match us, hl with | [_], _ => rfl
  have Fq2 := fun_mk (st := sTake) lq2 cq2 kq2
  have mq2 := PySem.W.mg_of X G aq2
  have bq2 := Fq2.binds (ps := ["_law_state", "_law_size"]) fun _ _ _ _ _ _ us hl => match us, hl with | [_, _], _ => rfl
  have Fq3 := fun_mk (st := sPick) lq3 cq3 kq3
  have mq3 := PySem.W.mg_of X G aq3
  have bq3 := Fq3.binds (ps := ["_law_state", "_law_some"]) fun _ _ _ _ _ _ us hl => match us, hl with | [_, _], _ => rfl
  have Fq4 := fun_mk (st := sWords) lq4 cq4 kq4
  have mq4 := PySem.W.mg_of X G aq4
  have bq4 := Fq4.binds (ps := ["_law_state", "_law_size"]) fun _ _ _ _ _ _ us hl => match us, hl with | [_, _], _ => rfl
  have Fq5 := fun_mk (st := sForest) lq5 cq5 kq5
  have mq5 := PySem.W.mg_of X G aq5
  have bq5 := Fq5.binds (ps := ["_law_state", "_law_most"]) fun _ _ _ _ _ _ us hl => match us, hl with | [_, _], _ => rfl
  have Fq6 := fun_mk (st := sName) lq6 cq6 kq6
  have mq6 := PySem.W.mg_of X G aq6
  have bq6 := Fq6.binds (ps := ["value"]) fun _ _ _ _ _ _ us hl => match us, hl with | [_], _ => rfl
  have Fq7 := fun_mk (st := sRow) lq7 cq7 kq7
  have mq7 := PySem.W.mg_of X G aq7
  have bq7 := Fq7.binds (ps := ["value", "earlier"]) fun _ _ _ _ _ _ us hl => match us, hl with | [_, _], _ => rfl
  have Fq8 := fun_mk (st := sWrong) lq8 cq8 kq8
  have mq8 := PySem.W.mg_of X G aq8
  have bq8 := Fq8.binds (ps := ["rows"]) fun _ _ _ _ _ _ us hl => match us, hl with | [_], _ => rfl
  have Fq9 := fun_mk (st := sLaw) lq9 cq9 kq9
  have mq9 := PySem.W.mg_of X G aq9
  have bq9 := Fq9.binds (ps := ["_law_script"]) fun _ _ _ _ _ _ us hl => match us, hl with | [_], _ => rfl
  have Fq10 := fun_mk (st := sLOrder) lq10 cq10 kq10
  have mq10 := PySem.W.mg_of X G aq10
  have bq10 := Fq10.binds (ps := ["_law_state", "_law_some"]) fun _ _ _ _ _ _ us hl => match us, hl with | [_, _], _ => rfl
  have Fq11 := fun_mk (st := sLIsName) lq11 cq11 kq11
  have mq11 := PySem.W.mg_of X G aq11
  have bq11 := Fq11.binds (ps := ["_law_value"]) fun _ _ _ _ _ _ us hl => match us, hl with | [_], _ => rfl
  have Fq12 := fun_mk (st := sLIsGood) lq12 cq12 kq12
  have mq12 := PySem.W.mg_of X G aq12
  have bq12 := Fq12.binds (ps := ["_law_value"]) fun _ _ _ _ _ _ us hl => match us, hl with | [_], _ => rfl
  have Fq13 := fun_mk (st := sLChanged) lq13 cq13 kq13
  have mq13 := PySem.W.mg_of X G aq13
  have bq13 := Fq13.binds (ps := ["_law_state", "_law_stock"]) fun _ _ _ _ _ _ us hl => match us, hl with | [_, _], _ => rfl
  have Fq14 := fun_mk (st := sLRefusal) lq14 cq14 kq14
  have mq14 := PySem.W.mg_of X G aq14
  have bq14 := Fq14.binds (ps := ["_law_value"]) fun _ _ _ _ _ _ us hl => match us, hl with | [_], _ => rfl
  have Fq15 := fun_mk (st := sLSortedRows) lq15 cq15 kq15
  have mq15 := PySem.W.mg_of X G aq15
  have bq15 := Fq15.binds (ps := ["_law_state", "_law_stock"]) fun _ _ _ _ _ _ us hl => match us, hl with | [_, _], _ => rfl
  have Fq16 := fun_mk (st := sLEqualRight) lq16 cq16 kq16
  have mq16 := PySem.W.mg_of X G aq16
  have bq16 := Fq16.binds (ps := ["_law_state", "_law_forest_here", "_law_stock"]) fun _ _ _ _ _ _ us hl => match us, hl with | [_, _, _], _ => rfl
  have FI := fun_mk (st := sInit) lI cI kI
  have bI := FI.binds (ps := ["self", "rows"]) fun _ _ _ _ _ _ us hl => match us, hl with | [_, _], _ => rfl
  have FS := fun_mk (st := sNames) lS cS kS
  have bS := FS.binds (ps := ["self"]) fun _ _ _ _ _ _ us hl => match us, hl with | [_], _ => rfl
  have FE := fun_mk (st := sEq) lE cE kE
  have bE := FE.binds (ps := ["self", "other"]) fun _ _ _ _ _ _ us hl => match us, hl with | [_, _], _ => rfl
  have Z0 : FC K mg C fI (.type "type") := ⟨⟨pg, hd, po, sa⟩, ⟨mk, aI, iI, kc⟩, nP, ⟨rd, ga⟩, ⟨_, mo, ⟨_, rfl⟩⟩, ha, hn, ht, hm, kit_self, PySem.W.mg_of X G aC⟩
  have T : Names mg := ⟨(PySem.W.mg_none_of X G z0), (PySem.W.mg_none_of X G z1), (PySem.W.mg_none_of X G z2), (PySem.W.mg_none_of X G z3), (PySem.W.mg_none_of X G z4), (PySem.W.mg_none_of X G z5), (PySem.W.mg_none_of X G z6), (PySem.W.mg_none_of X G z7), (PySem.W.mg_none_of X G z8), (PySem.W.mg_none_of X G z9), (PySem.W.mg_none_of X G z10), (PySem.W.mg_none_of X G z11), (PySem.W.mg_none_of X G z12), (PySem.W.mg_none_of X G z13), ⟨_, PySem.W.mg_of X G kg0⟩, ⟨_, PySem.W.mg_of X G kg1⟩⟩
  refine ⟨_, Fq9, fun s v => .of_eq rfl, fun base A s H cdv a ns hl B hr hS => ?_⟩
  have GM : FnOk P w K mg base CX0 1 _ _ ["_law_state"] (spMixed ns) := ok_mixed ns Fq1
  have GT : FnOk P w K mg base CX0 2 _ _ ["_law_state", "_law_size"] (spTake ns) := ok_take ns Fq2 GM bq1 kq1 mq1
  have GP : FnOk P w K mg base CX0 3 _ _ ["_law_state", "_law_some"] (spPick K ns) := ok_pick ns Fq3 GT bq2 kq2 mq2 T.len
  have R : Draw P w K mg base ns fq2 fq3 _ _ := ⟨GT, bq2, kq2, mq2, GP, bq3, kq3, mq3, T.len, T.range⟩
  have GW := ok_words (P := P) (w := w) (base := base) ns Fq4 R
  have GF := ok_forest (P := P) (w := w) (base := base) ns Fq5 R GW bq4 kq4 mq4
  have GN : FnOk P w K mg base CX0 1 _ _ ["value"] spName := ok_name Fq6 T
  have GS := ok_names (P := P) (w := w) (base := base) FS T Z0
  have hS' : PropOf K C "names" pS fS := ⟨aS, gS, tS, ⟨_, rS⟩⟩
  have Y : XF K mg CF := ⟨xF_, PySem.W.mg_of X G CF_a, qF, sF, uF⟩
  have NFK : NF K C := nf_mk hd uC
  have YR : XR K mg CF CP CT CU := ⟨⟨gF0, hF0, sF, dF, xF, hn, ht, yF⟩, PySem.W.mg_of X G CP_a, PySem.W.exm_ref sP dP uP sFP, PySem.W.mg_of X G CF_a, PySem.W.mg_of X G CT_a, PySem.W.mg_of X G CU_a, (PySem.W.mg_none_of X G z14), kit_ref dT uT nFT sFT, kit_ref dU uU nFU sFU, kit_typ (by decide +kernel) sFV, kit_self⟩
  have GO := ok_rowX (P := P) (w := w) (base := base) Fq7 T GN  bq6 kq6 mq6
  have GX := ok_wrongX (P := P) (w := w) (base := base) Fq8 T GO  bq7 kq7 mq7
  have GI := ok_initX (P := P) (w := w) (base := base) FI T Z0 Y GX  bq8 kq8 mq8
  have oE : OwnE K C fE := ⟨aE, iE, ⟨_, _, _, _, _, _, _, _, _, _, _, _, _, _, _, _, lC, ns_ok lQQ eQQ, nE, nQQ⟩, ⟨_, lE, rfl⟩⟩
  have GE := ok_eqX (P := P) (w := w) (base := base) FE T Z0 NFK
  have GLn := ok_lname (P := P) (w := w) (base := base) Fq11 T
  have GG := ok_lgood (P := P) (w := w) (base := base) Fq12 T GLn  bq11 kq11 mq11
  have GLc := ok_lch (P := P) (w := w) (base := base) ns Fq13 T R
  have GRf := ok_ref (P := P) (w := w) (base := base) Fq14 T Z0 YR GI bI
  have GOr := ok_orderR (P := P) (w := w) (base := base) ns Fq10 T R
  have GSo := ok_sorted (P := P) (w := w) (base := base) ns Fq15 T GOr  bq10 kq10 mq10
  have GEq := ok_eqR (P := P) (w := w) (base := base) ns Fq16 T Z0 GI bI GE bE oE GSo  bq15 kq15 mq15 GG  bq12 kq12 mq12
  exact ok_law hl B hr hS R T Z0 GI (kbn_one fun s u w => .of_eq rfl) hS' GS bS (ok_begun ns Fq0 T.list) bq0 kq0 mq0 GF bq5 kq5 mq5 GLc  bq13 kq13 mq13 GG  bq12 kq12 mq12 GRf  bq14 kq14 mq14 GEq  bq16 kq16 mq16
end Lw
open PySem PySem.W PyProof.Rows
set_option maxRecDepth 100000 in
set_option maxHeartbeats 0 in
theorem PySem.Challenge.cw_hearpurse_k01_forests_made_holds : PySem.Challenge.rw_hearpurse_k01_forests_made.Holds := by
  w_on; o_law; k_head; (case hw => w_witness2)
  k_fill
  refine Ge.walk_law (l := PySem.Challenge.rw_hearpurse_k01_forests_made) (n := 63) (k := 7) (x := "_law_script") (st := Lw.sLaw) (N := Lw.nLaw) rfl (by decide) rfl ⟨rfl, by decide, by decide⟩ (by decide +kernel) Lw.scLaw (fun w h Y => PySem.W.kIn_of Y) ?F
  case F =>
    intro w mg fa h KX G hmg
    refine' Lw.all_mk KX G hmg ?aq0 ?lq0 ?cq0 ?kq0 ?aq1 ?lq1 ?cq1 ?kq1 ?aq2 ?lq2 ?cq2 ?kq2 ?aq3 ?lq3 ?cq3 ?kq3 ?aq4 ?lq4 ?cq4 ?kq4 ?aq5 ?lq5 ?cq5 ?kq5 ?aq6 ?lq6 ?cq6 ?kq6 ?aq7 ?lq7 ?cq7 ?kq7 ?aq8 ?lq8 ?cq8 ?kq8 ?aq9 ?lq9 ?cq9 ?kq9 ?aq10 ?lq10 ?cq10 ?kq10 ?aq11 ?lq11 ?cq11 ?kq11 ?aq12 ?lq12 ?cq12 ?kq12 ?aq13 ?lq13 ?cq13 ?kq13 ?aq14 ?lq14 ?cq14 ?kq14 ?aq15 ?lq15 ?cq15 ?kq15 ?aq16 ?lq16 ?cq16 ?kq16 ?aC ?aI ?iI ?lI ?cI ?kI ?aS ?gS ?tS ?rS ?lS ?cS ?kS ?aE ?iE ?lE ?cE ?kE ?pg ?hd ?po ?sa ?mk ?kc ?nP ?rd ?ga ?mo ?ha ?hn ?ht ?hm ?kg0 ?kg1 ?z0 ?z1 ?z2 ?z3 ?z4 ?z5 ?z6 ?z7 ?z8 ?z9 ?z10 ?z11 ?z12 ?z13 ?z14 ?lC ?lQQ ?eQQ ?nE ?nQQ ?uC ?CF_a ?CT_a ?CU_a ?CP_a ?gF0 ?hF0 ?sF ?dF ?xF ?yF ?qF ?uF ?dT ?uT ?dU ?uU ?sP ?dP ?uP ?sFP ?sFT ?nFT ?sFU ?nFU ?sFV ?xF_
    (case aq0 => k_is)
    (case lq0 => k_is)
    (case cq0 => k_is)
    (case kq0 => k_is)
    (case aq1 => k_is)
    (case lq1 => k_is)
    (case cq1 => k_is)
    (case kq1 => k_is)
    (case aq2 => k_is)
    (case lq2 => k_is)
    (case cq2 => k_is)
    (case kq2 => k_is)
    (case aq3 => k_is)
    (case lq3 => k_is)
    (case cq3 => k_is)
    (case kq3 => k_is)
    (case aq4 => k_is)
    (case lq4 => k_is)
    (case cq4 => k_is)
    (case kq4 => k_is)
    (case aq5 => k_is)
    (case lq5 => k_is)
    (case cq5 => k_is)
    (case kq5 => k_is)
    (case aq6 => k_is)
    (case lq6 => k_is)
    (case cq6 => k_is)
    (case kq6 => k_is)
    (case aq7 => k_is)
    (case lq7 => k_is)
    (case cq7 => k_is)
    (case kq7 => k_is)
    (case aq8 => k_is)
    (case lq8 => k_is)
    (case cq8 => k_is)
    (case kq8 => k_is)
    (case aq9 => k_is)
    (case lq9 => k_is)
    (case cq9 => k_is)
    (case kq9 => k_is)
    (case aq10 => k_is)
    (case lq10 => k_is)
    (case cq10 => k_is)
    (case kq10 => k_is)
    (case aq11 => k_is)
    (case lq11 => k_is)
    (case cq11 => k_is)
    (case kq11 => k_is)
    (case aq12 => k_is)
    (case lq12 => k_is)
    (case cq12 => k_is)
    (case kq12 => k_is)
    (case aq13 => k_is)
    (case lq13 => k_is)
    (case cq13 => k_is)
    (case kq13 => k_is)
    (case aq14 => k_is)
    (case lq14 => k_is)
    (case cq14 => k_is)
    (case kq14 => k_is)
    (case aq15 => k_is)
    (case lq15 => k_is)
    (case cq15 => k_is)
    (case kq15 => k_is)
    (case aq16 => k_is)
    (case lq16 => k_is)
    (case cq16 => k_is)
    (case kq16 => k_is)
    (case aC => k_is)
    (case aI => k_is)
    (case iI => k_is)
    (case lI => k_is)
    (case cI => k_is)
    (case kI => k_is)
    (case aS => k_is)
    (case gS => k_is)
    (case tS => k_is)
    (case rS => k_is)
    (case lS => k_is)
    (case cS => k_is)
    (case kS => k_is)
    (case aE => k_is)
    (case iE => k_is)
    (case lE => k_is)
    (case cE => k_is)
    (case kE => k_is)
    (case pg => k_is)
    (case hd => k_is)
    (case po => k_is)
    (case sa => k_is)
    (case mk => k_is)
    (case kc => k_is)
    (case nP => k_is)
    (case rd => k_is)
    (case ga => k_is)
    (case mo => k_is)
    (case ha => k_is)
    (case hn => k_is)
    (case ht => k_is)
    (case hm => k_is)
    (case kg0 => k_is)
    (case kg1 => k_is)
    (case z0 => k_is)
    (case z1 => k_is)
    (case z2 => k_is)
    (case z3 => k_is)
    (case z4 => k_is)
    (case z5 => k_is)
    (case z6 => k_is)
    (case z7 => k_is)
    (case z8 => k_is)
    (case z9 => k_is)
    (case z10 => k_is)
    (case z11 => k_is)
    (case z12 => k_is)
    (case z13 => k_is)
    (case z14 => k_is)
    (case lC => k_is)
    (case lQQ => k_is)
    (case eQQ => with_unfolding_all rfl)
    (case nE => k_is)
    (case nQQ => k_is)
    (case uC => k_is)
    (case CF_a => k_is)
    (case CT_a => k_is)
    (case CU_a => k_is)
    (case CP_a => k_is)
    (case gF0 => k_is)
    (case hF0 => k_is)
    (case sF => k_is)
    (case dF => k_is)
    (case xF => k_is)
    (case yF => k_is)
    (case qF => k_is)
    (case uF => k_is)
    (case dT => k_is)
    (case uT => k_is)
    (case dU => k_is)
    (case uU => k_is)
    (case sP => k_is)
    (case dP => k_is)
    (case uP => k_is)
    (case sFP => k_is)
    (case sFT => k_is)
    (case nFT => with_unfolding_all rfl)
    (case sFU => k_is)
    (case nFU => with_unfolding_all rfl)
    (case sFV => k_is)
    (case xF_ => k_exc)

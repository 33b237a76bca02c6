import PyProof.Rows.All
import Wide.All
import OpenK.AllK
import Wide.FinOn
import HandS.Base
import HandS.Call
import HandS.List
import HandS.Comp
import HandS.Ends
import HandS.Dict
import HandS.Iter
import HandS.Words
import PyProof.ReprRoads
import HandS.ForMost
import HandS.IsInst
import HandS.Walk
import PyProof.ReprLen
import PyProof.StrLawsRepr
import HandS.ClsMeth
import HandS.Property
import HandS.OwnEq
import HandS.DictComp
import HandS.Conv
import HandS.FStr
import PyProof.InstNe
import HandS.Text
import KE.KDictList
import HandS.AnyAll
import PySem.Challenge.RW_hearpurse_k21_conflicts_of_facts
set_option Elab.async false
set_option linter.all false
set_option maxRecDepth 100000
set_option maxHeartbeats 4000000
namespace Gn
open PySem PySem.Spec PyProof.Rows L2

/-! ## heaps -/
theorem new_same {H : Hp} {p : Addr} {o : HO} (h : H p = none) : ∀ b u, H b = some u → upd H p o b = some u := by
  intro b u e
  rw [upd_ne (ne_of_none e h)]
  exact e
/-- the heap less two objects: those of the draws -/
def Rs (d g : Addr) (H : Hp) : Hp := fun a => if a = d ∨ a = g then none else H a
section
variable {d g a p : Addr} {H H' H2 : Hp} {o u : HO}
theorem rs_of (h : Rs d g H a = some o) : H a = some o ∧ a ≠ d ∧ a ≠ g := by
  unfold Rs at h
  by_cases c : a = d ∨ a = g
  · rw [if_pos c] at h; cases h
  · rw [if_neg c] at h
    exact ⟨h, fun e => c (.inl e), fun e => c (.inr e)⟩
theorem rs_to (h : H a = some o) (h1 : a ≠ d) (h2 : a ≠ g) : Rs d g H a = some o := by
  unfold Rs
  rw [if_neg (fun c => c.elim h1 h2)]
  exact h
/-- all that is no draw's stands -/
def Kp (d g : Addr) (H H' : Hp) : Prop := ∀ a o, a ≠ d → a ≠ g → H a = some o → H' a = some o
theorem Kp.refl : Kp d g H H := fun _ _ _ _ e => e
theorem Kp.trans (h : Kp d g H H') (k : Kp d g H' H2) : Kp d g H H2 := fun a o n1 n2 e => k a o n1 n2 (h a o n1 n2 e)
theorem Kp.new (hp : H p = none) : Kp d g H (upd H p o) := fun a u _ _ e => new_same hp a u e
theorem Kp.of (h : ∀ a o, H a = some o → H' a = some o) : Kp d g H H' := fun a o _ _ e => h a o e
theorem Kp.at_d : Kp d g H (upd H d o) := fun a u n1 _ e => by rw [upd_ne n1]; exact e
theorem Kp.at_g : Kp d g H (upd H g o) := fun a u _ n2 e => by rw [upd_ne n2]; exact e
end

/-! ## the draws' state -/
def kG : Key := Sum.inr ("great" : Str)
def kC : Key := Sum.inr ("cells" : Str)
def kL : Key := Sum.inr ("left" : Str)
def kT : Key := Sum.inr ("turn" : Str)
def dk (g c : Addr) (l t : Int) : List (Key × V) := [(kG, .ref g), (kC, .ref c), (kL, .int l), (kT, .int t)]
section
variable {g c : Addr} {l t z : Int} {H : Hp} {d : Addr}
theorem nGC : ¬ kG = kC := by decide +kernel
theorem nGL : ¬ kG = kL := by decide +kernel
theorem nGT : ¬ kG = kT := by decide +kernel
theorem nCL : ¬ kC = kL := by decide +kernel
theorem nCT : ¬ kC = kT := by decide +kernel
theorem nLT : ¬ kL = kT := by decide +kernel
theorem dk_g : valV (dk g c l t) kG = some (.ref g) := valV_pos rfl
theorem dk_c : valV (dk g c l t) kC = some (.ref c) := (valV_neg nGC).trans (valV_pos rfl)
theorem dk_l : valV (dk g c l t) kL = some (.int l) := (valV_neg nGL).trans ((valV_neg nCL).trans (valV_pos rfl))
theorem dk_t : valV (dk g c l t) kT = some (.int t) := (valV_neg nGT).trans ((valV_neg nCT).trans ((valV_neg nLT).trans (valV_pos rfl)))
theorem get_g (h : H d = some (.dK (dk g c l t))) : DGet H d (.str "great") (some (.ref g)) := by
  rw [← dk_g (g := g) (c := c) (l := l) (t := t)]
  exact DGet.k (k := kG) h
theorem get_c (h : H d = some (.dK (dk g c l t))) : DGet H d (.str "cells") (some (.ref c)) := by
  rw [← dk_c (g := g) (c := c) (l := l) (t := t)]
  exact DGet.k (k := kC) h
theorem get_l (h : H d = some (.dK (dk g c l t))) : DGet H d (.str "left") (some (.int l)) := by
  rw [← dk_l (g := g) (c := c) (l := l) (t := t)]
  exact DGet.k (k := kL) h
theorem get_t (h : H d = some (.dK (dk g c l t))) : DGet H d (.str "turn") (some (.int t)) := by
  rw [← dk_t (g := g) (c := c) (l := l) (t := t)]
  exact DGet.k (k := kT) h
theorem put_dk_l : putK (dk g c l t) kL (.int z) = dk g c z t := by
  unfold putK dk
  simp [nGL, nCL, Ne.symm nLT, (show ¬ kT = kL from fun e => nLT e.symm)]
theorem put_dk_t : putK (dk g c l t) kT (.int z) = dk g c l z := by
  unfold putK dk
  simp [nGT, nCT, nLT]
theorem put_l (h : H d = some (.dK (dk g c l t))) : DPut H d (.str "left") (.int z) (upd H d (.dK (dk g c z t))) := by
  rw [← put_dk_l (l := l)]
  exact DPut.k (k := kL) h (by show 4 < sizeLine; decide)
theorem put_t (h : H d = some (.dK (dk g c l t))) : DPut H d (.str "turn") (.int z) (upd H d (.dK (dk g c l z))) := by
  rw [← put_dk_t (t := t)]
  exact DPut.k (k := kT) h (by show 4 < sizeLine; decide)
theorem merge_dk : mergeK [] (dk g c l t) = dk g c l t := by
  have e1 : putK [] kG (.ref g) = [(kG, V.ref g)] := rfl
  have e2 : putK [(kG, V.ref g)] kC (.ref c) = [(kG, V.ref g), (kC, V.ref c)] := by unfold putK; simp [nGC]
  have e3 : putK [(kG, V.ref g), (kC, V.ref c)] kL (.int l) = [(kG, V.ref g), (kC, V.ref c), (kL, V.int l)] := by unfold putK; simp [nGL, nCL]
  have e4 : putK [(kG, V.ref g), (kC, V.ref c), (kL, V.int l)] kT (.int t) = [(kG, V.ref g), (kC, V.ref c), (kL, V.int l), (kT, V.int t)] := by unfold putK; simp [nGT, nCT, nLT]
  unfold mergeK dk
  simp only [List.foldl_cons, List.foldl_nil, e1, e2, e3, e4]
end
/-- the draws' dict at d, its lists at g and c; at most b turns were mixed -/
structure Dw (ns : List Int) (d g c : Addr) (b : Nat) (H : Hp) : Prop where
  st : ∃ (gs : List Int) (l t : Int), H d = some (.dK (dk g c l t)) ∧ H g = some (.lst (gs.map V.int)) ∧ 0 ≤ t ∧ t ≤ b
  cl : H c = some (.lst (ns.map V.int))
  ncd : c ≠ d
  ncg : c ≠ g
section
variable {ns : List Int} {d g c p : Addr} {b b' : Nat} {H H' : Hp} {o : HO}
theorem Dw.mono (h : Dw ns d g c b H) (k : b ≤ b') : Dw ns d g c b' H := by
  obtain ⟨⟨gs, l, t, h1, h2, h3, h4⟩, h5, h6, h7⟩ := h
  exact ⟨⟨gs, l, t, h1, h2, h3, by omega⟩, h5, h6, h7⟩
/-- what is new leaves them -/
theorem Dw.keep (h : Dw ns d g c b H) (k : ∀ a o, H a = some o → H' a = some o) : Dw ns d g c b H' := by
  obtain ⟨⟨gs, l, t, h1, h2, h3, h4⟩, h5, h6, h7⟩ := h
  exact ⟨⟨gs, l, t, k _ _ h1, k _ _ h2, h3, h4⟩, k _ _ h5, h6, h7⟩
theorem Dw.new (h : Dw ns d g c b H) (hp : H p = none) : Dw ns d g c b (upd H p o) := h.keep fun a u e => new_same hp a u e
theorem Dw.nd (h : Dw ns d g c b H) (hp : H p = none) : p ≠ d := by
  obtain ⟨⟨gs, l, t, h1, h2, h3, h4⟩, h5, h6, h7⟩ := h
  exact fun e => ne_of_none h1 hp e.symm
theorem Dw.ng (h : Dw ns d g c b H) (hp : H p = none) : p ≠ g := by
  obtain ⟨⟨gs, l, t, h1, h2, h3, h4⟩, h5, h6, h7⟩ := h
  exact fun e => ne_of_none h2 hp e.symm
theorem Dw.some (h : Dw ns d g c b H) : (∃ o, H d = some o) ∧ ∃ o, H g = some o := by
  obtain ⟨⟨gs, l, t, h1, h2, h3, h4⟩, h5, h6, h7⟩ := h
  exact ⟨⟨_, h1⟩, ⟨_, h2⟩⟩
/-- what is new behind a draw was new ahead of it -/
theorem Dw.free (h : Dw ns d g c b H) (h' : Dw ns d g c b' H') (k : Kp d g H H') (hp : H' p = none) : H p = none := by
  cases e : H p with
  | none => rfl
  | some u =>
    have q := k p u (h'.nd hp) (h'.ng hp) e
    rw [hp] at q
    cases q
theorem Dw.put (h : Dw ns d g c b H) (hp : H p = Option.some u) (n1 : p ≠ d) (n2 : p ≠ g) (n3 : p ≠ c) : Dw ns d g c b (upd H p o) := by
  obtain ⟨⟨gs, l, t, h1, h2, h3, h4⟩, h5, h6, h7⟩ := h
  exact ⟨⟨gs, l, t, by rw [upd_ne n1.symm]; exact h1, by rw [upd_ne n2.symm]; exact h2, h3, h4⟩, by rw [upd_ne n3.symm]; exact h5, h6, h7⟩
end
/-! ## small words of arithmetic -/
theorem fmod_lo {a b : Int} (h : 0 < b) : 0 ≤ a.fmod b := by rw [Int.fmod_eq_emod_of_nonneg a (by omega)]; exact Int.emod_nonneg a (by omega)
theorem fmod_hi {a b : Int} (h : 0 < b) : a.fmod b < b := by rw [Int.fmod_eq_emod_of_nonneg a (by omega)]; exact Int.emod_lt_of_pos a h
theorem at_int {xs : List V} {r : Int} (h0 : 0 ≤ r) (h1 : r < (xs.length : Int)) : ∃ v, atI xs r = some v ∧ v ∈ xs := by
  have k : r.toNat < xs.length := by omega
  have e : r = ((r.toNat : Nat) : Int) := by omega
  have q : atI xs ((r.toNat : Nat) : Int) = some xs[r.toNat] := atI_nat (List.getElem?_eq_getElem k)
  rw [← e] at q
  exact ⟨_, q, List.getElem_mem k⟩
/-! ## lists of flat data, by == -/
section
variable {K : PySem.W.Frag} {H : Hp}
theorem dp_ints : ∀ ns : List Int, DpAll K H (ns.map V.int) (ns.map PyData.int)
  | [] => .nil
  | n :: r => .cons (.int n) (dp_ints r)
theorem dp_bools : ∀ ns : List Bool, DpAll K H (ns.map V.bl) (ns.map PyData.bool)
  | [] => .nil
  | n :: r => .cons (.bl n) (dp_bools r)
theorem dp_strs : ∀ ns : List Str, DpAll K H (ns.map V.str) (ns.map PyData.str)
  | [] => .nil
  | n :: r => .cons (.str n) (dp_strs r)
/-- no list, tuple or dict -/
def flatD : PyData → Bool
  | .none => true
  | .bool _ => true
  | .int _ => true
  | .str x => PyData.strOk x
  | _ => false
theorem lay_flat {x : PyData} (h : flatD x = true) : x.canLay0 = true ∧ x.depth ≤ 1 := by
  cases x with
  | none => constructor <;> simp [PyData.canLay0, PyData.depth]
  | bool _ => constructor <;> simp [PyData.canLay0, PyData.depth]
  | int _ => constructor <;> simp [PyData.canLay0, PyData.depth]
  | str x =>
    have h' : PyData.strOk x = true := h
    constructor <;> simp [PyData.canLay0, PyData.depth, h']
  | list _ => cases h
  | tuple _ => cases h
  | dict _ => cases h
theorem lay_flats : ∀ {ds : List PyData}, (∀ x ∈ ds, flatD x = true) → PyData.canLayAll0 ds = true ∧ PyData.depthAll ds ≤ 1
  | [], _ => by constructor <;> simp [PyData.canLayAll0, PyData.depthAll]
  | x :: r, h => by
    obtain ⟨a1, a2⟩ := lay_flat (h x (List.mem_cons_self ..))
    obtain ⟨b1, b2⟩ := lay_flats (ds := r) fun y hy => h y (List.mem_cons_of_mem _ hy)
    constructor
    · simp [PyData.canLayAll0, a1, b1]
    · simp only [PyData.depthAll]
      omega
theorem shaped_flats {ds : List PyData} (h : ∀ x ∈ ds, flatD x = true) : SeqAt.shaped (.list ds) = true := by
  obtain ⟨b1, b2⟩ := lay_flats h
  have e : PyData.depth (.list ds) = PyData.depthAll ds + 1 := by simp only [PyData.depth]
  unfold SeqAt.shaped
  rw [e]
  simp only [PyData.canLay0, b1, Bool.true_and, decide_eq_true_eq]
  omega
theorem shaped_ints (ns : List Int) : SeqAt.shaped (.list (ns.map PyData.int)) = true := shaped_flats fun x hx => by
  obtain ⟨n, _, rfl⟩ := List.mem_map.mp hx
  rfl
theorem shaped_bools (ns : List Bool) : SeqAt.shaped (.list (ns.map PyData.bool)) = true := shaped_flats fun x hx => by
  obtain ⟨n, _, rfl⟩ := List.mem_map.mp hx
  rfl
theorem shaped_strs {ns : List Str} (h : ∀ x ∈ ns, PyData.strOk x = true) : SeqAt.shaped (.list (ns.map PyData.str)) = true := shaped_flats fun x hx => by
  obtain ⟨n, hn, rfl⟩ := List.mem_map.mp hx
  exact h n hn
theorem shaped_nil : SeqAt.shaped (.list []) = true := shaped_flats fun x hx => by cases hx
theorem eqv_nil {ds : List PyData} : PyData.eqv (.list ds) (.list []) = ds.isEmpty := by
  cases ds <;> simp [PyData.eqv, PyData.eqvAll]
theorem eqv_bools : ∀ xs ys : List Bool, PyData.eqvAll (xs.map PyData.bool) (ys.map PyData.bool) = decide (xs = ys)
  | [], [] => by simp [PyData.eqvAll]
  | [], _ :: _ => by simp [PyData.eqvAll]
  | _ :: _, [] => by simp [PyData.eqvAll]
  | x :: xs, y :: ys => by
    simp only [List.map_cons, PyData.eqvAll, PyData.eqv, eqv_bools xs ys]
    by_cases h : x = y <;> by_cases k : xs = ys <;> simp [h, k]
end
end Gn

set_option Elab.async false
set_option linter.all false
set_option maxRecDepth 100000
set_option maxHeartbeats 4000000
namespace Lw
open PySem PySem.Spec PyProof.Rows L2 Gn
def top (i : Nat) : Stmt := PySem.Challenge.pw_hearpurse_k21_conflicts_of_facts.main.body.getD i (.Pass ⟨0, 0, 0, 0⟩)
abbrev sBegun : Stmt := top 8
abbrev sMixed : Stmt := top 9
abbrev sTake : Stmt := top 10
abbrev sPick : Stmt := top 11
section
variable {P : Program} {w : World} {K : PySem.W.Frag} {mg : Str → Option Value} {base : Heap}
/-! ### _law_mixed -/
def spMixed (ns : List Int) : Sp := fun vs H Q _ => ∃ (d g c : Addr) (b : Nat), vs = [.ref d] ∧ Dw ns d g c b H ∧ b ≤ 1000000000 ∧
  ∀ (r : Int) (H' : Hp), Dw ns d g c (b + 1) H' → Kp d g H H' → Q (.int r) H'
theorem scMixed : FnScope ["_law_state", "_law_found", "_law_prime", "_law_blend", "_law_cell"] ["_law_state"] (defScope sMixed) := ⟨rfl, rfl, rfl, by decide +kernel, rfl, by decide +kernel, by decide +kernel⟩
def primes : List Int := [2147483629, 2147483587, 2147483579, 2147483563, 2147483549, 2147483543]
theorem prime_of {p : Int} (h : p ∈ primes) : 2000000000 < p ∧ p < 2147483648 := by
  unfold primes at h
  simp only [List.mem_cons, List.not_mem_nil, or_false] at h
  omega
theorem ok_mixed {f : Addr} {fd : FuncData} (ns : List Int) (F : Fun K "_law_mixed" "_law_mixed" sMixed f fd) : FnOk P w K mg base CX0 1 f fd ["_law_state"] (spMixed ns) := by
  refine F.ok scMixed (fun vs H Q E h => ?_) (fun cdv A outer s H vs Q E hr h => ?_)
  · obtain ⟨d, g, c, b, rfl, _⟩ := h
    rfl
  · obtain ⟨d, g, c, b, rfl, D, hb, k⟩ := h
    have hu := hu_of hr
    have nd := scMixed.nd
    refine ⟨_, pss_cons (ps_dput hu (pv 0) pe_str (pe_op op_add (pe_dget hu (pv 0) pe_str (fun _ _ => rfl)) pe_int) rfl)
      (pss_cons (ps_set (i := 1) nd rfl (.inl rfl) pe_int)
      (pss_cons (ps_for PassesOwn.never rfl (pi_list (pe_lst (pa_cons pe_int (pa_cons pe_int (pa_cons pe_int (pa_cons pe_int (pa_cons pe_int (pa_cons pe_int pa_nil)))))))) (pg_name (i := 2) nd rfl (.inl rfl))
        (pss_cons (ps_set (i := 3) nd rfl (.inl rfl) (pe_op op_add (pe_op op_mul pe_int (pe_dget hu (pv 0) pe_str (fun _ _ => rfl))) (pe_op op_fdivN (pv 2) pe_int)))
        (pss_cons (ps_for PassesOwn.never rfl (pi_list (pe_dget hu (pv 0) pe_str (fun _ _ => rfl))) (pg_name (i := 4) nd rfl (.inl rfl))
          (pss_one (ps_set (i := 3) nd rfl (.inl rfl) (pe_op op_modN (pe_op op_add (pe_op op_mul (pv 3) pe_int) (pv 4)) (pv 2)))))
        (pss_one (ps_set (i := 1) nd rfl (.inl rfl) (pe_op op_add (pe_op op_mul (pv 1) pe_int) (pe_op op_modN (pe_op op_pow (pv 3) pe_int) (pv 2))))))))
      (pss_one (ps_ret (pv 1))))), ?_⟩
    obtain ⟨⟨gs, l, t, hd, hg, t0, tb⟩, hc, ncd, ncg⟩ := id D
    have ndg : g ≠ d := ne_of hg hd (by intro z; cases z)
    refine ⟨_, rfl, d, _, rfl, get_t hd, t, 1, rfl, rfl, _, rfl, d, _, rfl, put_t hd, ?_⟩
    generalize hH1 : upd H d (.dK (dk g c l (t + 1))) = H1
    have hd1 : H1 d = some (.dK (dk g c l (t + 1))) := by rw [← hH1, upd_same]
    have hg1 : H1 g = some (.lst (gs.map V.int)) := by rw [← hH1, upd_ne ndg]; exact hg
    have hc1 : H1 c = some (.lst (ns.map V.int)) := by rw [← hH1, upd_ne ncd]; exact hc
    have k1 : Kp d g H H1 := by rw [← hH1]; exact Kp.at_d
    refine ⟨by show 6 ≤ sizeLine; decide, fun p hp => ?_⟩
    have hd2 := new_same (o := .lst (primes.map V.int)) hp _ _ hd1
    have hg2 := new_same (o := .lst (primes.map V.int)) hp _ _ hg1
    have hc2 := new_same (o := .lst (primes.map V.int)) hp _ _ hc1
    refine ⟨p, rfl, ⟨_, SqL.of upd_same⟩, for_list (K := K) (a := p) (xs := primes.map V.int) (fun i σ H' => H' = upd H1 p (.lst (primes.map V.int)) ∧ ∃ (f : Int) (v2 v3 v4 : Option V), σ = [some (.ref d), some (.int f), v2, v3, v4])
      ⟨rfl, 0, none, none, none, rfl⟩ (fun i σ H' _ ⟨e, _⟩ => by rw [e]; exact SqL.of upd_same) ?_ ?_⟩
    · rintro i x σ H' hx ⟨rfl, f, v2, v3, v4, rfl⟩
      obtain ⟨pr, hpr, rfl⟩ : ∃ z : Int, z ∈ primes ∧ x = V.int z := by
        obtain ⟨z, hz, e⟩ := List.mem_map.mp (List.mem_of_getElem? hx)
        exact ⟨z, hz, e.symm⟩
      obtain ⟨p1, p2⟩ := prime_of hpr
      refine ⟨_, rfl, d, _, rfl, get_t hd2, 69997, t + 1, rfl, rfl, .inl ⟨by decide, by decide⟩, _, rfl, pr, 11, rfl, rfl, ⟨by decide, by decide⟩, _, _, rfl, rfl, ?_⟩
      have q0 : 0 ≤ pr.fdiv 11 ∧ pr.fdiv 11 < 2147483648 := by
        rw [Int.fdiv_eq_ediv_of_nonneg pr (by decide)]
        omega
      refine ⟨_, rfl, d, _, rfl, get_c hd2, c, rfl, ⟨_, SqL.of hc2⟩, for_list (K := K) (a := c) (xs := ns.map V.int) (fun i σ H' => H' = upd H1 p (.lst (primes.map V.int)) ∧ ∃ (y : Int) (v4 : Option V), y.natAbs < 2 ^ 64 ∧ σ = [some (.ref d), some (.int f), some (.int pr), some (.int y), v4])
        ⟨rfl, _, v4, ?_, rfl⟩ (fun i σ H' _ ⟨e, _⟩ => by rw [e]; exact SqL.of hc2) ?_ ?_⟩
      · omega
      · rintro j x σ H' hx ⟨rfl, y, v4, hy, rfl⟩
        obtain ⟨z, rfl⟩ : ∃ z : Int, x = V.int z := by
          obtain ⟨z, hz, e⟩ := List.mem_map.mp (List.mem_of_getElem? hx)
          exact ⟨z, e.symm⟩
        refine ⟨_, rfl, y, 48271, rfl, rfl, .inr ⟨by decide, by decide⟩, _, rfl, _, z, rfl, rfl, _, rfl, _, pr, rfl, rfl, (by omega), ?_⟩
        have r1 := fmod_lo (a := y * 48271 + z) (b := pr) (by omega)
        have r2 := fmod_hi (a := y * 48271 + z) (b := pr) (by omega)
        exact ⟨rfl, _, some (.int z), by omega, rfl⟩
      · rintro σ H' ⟨rfl, y, v4, hy, rfl⟩
        refine ⟨_, rfl, f, 2147483647, rfl, rfl, .inr ⟨by decide, by decide⟩, _, rfl, y, 5, rfl, rfl, ⟨by decide, by decide, hy⟩, _, rfl, _, pr, rfl, rfl, (by omega), _, _, rfl, rfl, ?_⟩
        exact ⟨rfl, _, some (.int pr), some (.int y), v4, rfl⟩
    · rintro σ H' ⟨rfl, f, v2, v3, v4, rfl⟩
      refine ⟨_, rfl, ?_⟩
      refine k f _ ⟨⟨gs, l, t + 1, hd2, hg2, by omega, by omega⟩, hc2, ncd, ncg⟩ (k1.trans (Kp.new hp))
/-! ### _law_take -/
def spTake (ns : List Int) : Sp := fun vs H Q _ => ∃ (d g c : Addr) (b : Nat) (z : Int), vs = [.ref d, .int z] ∧ Dw ns d g c b H ∧ b ≤ 1000000000 ∧ 0 < z ∧ z ≤ 1000000000 ∧
  ∀ (r : Int) (H' : Hp), 0 ≤ r → r < z → Dw ns d g c (b + 1) H' → Kp d g H H' → Q (.int r) H'
theorem scTake : FnScope ["_law_state", "_law_size", "_law_found"] ["_law_state", "_law_size"] (defScope sTake) := ⟨rfl, rfl, rfl, by decide +kernel, rfl, by decide +kernel, by decide +kernel⟩
theorem ok_take {f fM : Addr} {fd fdM : FuncData} (ns : List Int) (F : Fun K "_law_take" "_law_take" sTake f fd) (GM : FnOk P w K mg base CX0 1 fM fdM ["_law_state"] (spMixed ns)) (bM : Binds K fdM ["_law_state"] []) (kM : PySem.W.keepIn K (.ref fM) = true) (mM : mg "_law_mixed" = some (.ref fM)) :
    FnOk P w K mg base CX0 2 f fd ["_law_state", "_law_size"] (spTake ns) := by
  refine F.ok scTake (fun vs H Q E h => ?_) (fun cdv A outer s H vs Q E hr h => ?_)
  · obtain ⟨d, g, c, b, z, rfl, _⟩ := h
    rfl
  · obtain ⟨d, g, c, b, z, rfl, D, hb, z0, z1, k⟩ := h
    have hu := hu_of hr
    have nd := scTake.nd
    refine ⟨_, pss_cons (ps_if (pt_cmpR op_eq (pe_dget hu (pv 0) pe_str (fun _ _ => rfl)) pe_int (nomark _))
        (pss_one (ps_dput hu (pv 0) pe_str (pe_ifExp (pt_cmpR (op_neD hr.units) (pe_dget hu (pv 0) pe_str (fun _ _ => rfl)) (pe_lst pa_nil) (nomark _))
          (pe_bm PySem.F.plainAttrs_list PySem.F.slot_list_pop PySem.F.type_list_pop mt_popAt (pe_dget hu (pv 0) pe_str (fun _ _ => rfl)) (pa_cons pe_int pa_nil))
          (pe_call GM hr rfl mM kM bM .nil pass0 (pa_cons (pv 0) pa_nil))) rfl)) pss_nil)
      (pss_cons (ps_set (i := 2) nd rfl (.inl rfl) (pe_op op_modN (pe_dget hu (pv 0) pe_str (fun _ _ => rfl)) (pv 1)))
      (pss_cons (ps_dput hu (pv 0) pe_str (pe_op op_fdivN (pe_dget hu (pv 0) pe_str (fun _ _ => rfl)) (pv 1)) rfl)
      (pss_one (ps_ret (pv 2))))), ?_⟩
    -- behind the if: the state with a number left
    have tail : ∀ (H1 : Hp), Dw ns d g c (b + 1) H1 → Kp d g H H1 → tSeq (tAsg (tOp (rI (fun _ j => j ≠ 0) fun i j => .int (i.fmod j)) (tDGet (tVar 0) (tC (.str "left"))) (tVar 1)) (gName 2))
        (tSeq (sDPut (tVar 0) (tC (.str "left")) (tOp (rI CDivN fun i j => .int (i.fdiv j)) (tDGet (tVar 0) (tC (.str "left"))) (tVar 1))) (tRet (tVar 2))) { nx := fun _ H' => Q .non H', rt := Q } [some (.ref d), some (.int z), none] H1 := by
      intro H1 D1 k1
      obtain ⟨⟨gs, l, t, hd, hg, t0, tb⟩, hc, ncd, ncg⟩ := id D1
      have ndg : g ≠ d := ne_of hg hd (by intro z; cases z)
      refine ⟨_, rfl, d, _, rfl, get_l hd, _, rfl, l, z, rfl, rfl, (by omega), ?_⟩
      refine ⟨_, rfl, d, _, rfl, get_l hd, _, rfl, l, z, rfl, rfl, ⟨by omega, by omega⟩, _, rfl, d, _, rfl, put_l hd, _, rfl, ?_⟩
      refine k _ _ (fmod_lo z0) (fmod_hi z0) ⟨⟨gs, _, t, upd_same, by rw [upd_ne ndg]; exact hg, t0, tb⟩, by rw [upd_ne ncd]; exact hc, ncd, ncg⟩ (k1.trans Kp.at_d)
    obtain ⟨⟨gs, l, t, hd, hg, t0, tb⟩, hc, ncd, ncg⟩ := id D
    have ndg : g ≠ d := ne_of hg hd (by intro z; cases z)
    refine ⟨_, rfl, d, _, rfl, get_l hd, rfl, _, rfl, ?_⟩
    refine ite2 (fun e => ?_) (fun e => tail H (D.mono (by omega)) Kp.refl)
    refine ⟨_, rfl, d, _, rfl, get_g hd, by show 0 ≤ sizeLine; decide, fun p hp => ?_⟩
    have hd1 := new_same (o := .lst []) hp _ _ hd
    have hg1 := new_same (o := .lst []) hp _ _ hg
    have hc1 := new_same (o := .lst []) hp _ _ hc
    refine ⟨_, _, .lst (SqL.of hg1) (dp_ints gs), .lst (SqL.of upd_same) .nil, shaped_ints gs, shaped_nil, _, rfl, ?_⟩
    rw [eqv_nil]
    cases gs with
    | nil =>
      refine iteF ?_
      refine ⟨_, rfl, d, g, c, b, rfl, D.new hp, hb, fun r H' D' k' => ?_⟩
      obtain ⟨⟨gs, l, t, hd', hg', t0, tb⟩, hc', ncd, ncg⟩ := id D'
      have ndg : g ≠ d := ne_of hg' hd' (by intro z; cases z)
      refine ⟨_, rfl, d, _, rfl, put_l hd', ?_⟩
      exact tail _ ⟨⟨gs, _, t, upd_same, by rw [upd_ne ndg]; exact hg', t0, tb⟩, by rw [upd_ne ncd]; exact hc', ncd, ncg⟩ (((Kp.new hp).trans k').trans Kp.at_d)
    | cons n r =>
      refine iteT ?_
      refine ⟨_, rfl, d, _, rfl, get_g hd1, .inl ⟨rfl, _, SqL.of hg1⟩, g, _, 0, 0, _, rfl, rfl, hg1, by decide, by decide, (ixN_seq (n := (List.map V.int (n :: r)).length) (i := 0) (j := 0) (by simp [ixN])).1, rfl, ?_⟩
      refine ⟨_, rfl, d, _, rfl, put_l (by rw [upd_ne ndg.symm]; exact hd1), ?_⟩
      refine tail _ ⟨⟨r, _, t, upd_same, by rw [upd_ne ndg, upd_same]; rfl, t0, by omega⟩, by rw [upd_ne ncd, upd_ne ncg]; exact hc1, ncd, ncg⟩ (((Kp.new hp).trans Kp.at_g).trans Kp.at_d)
/-! ### _law_pick, out of a list and out of a text -/
theorem scPick : FnScope ["_law_state", "_law_some"] ["_law_state", "_law_some"] (defScope sPick) := ⟨rfl, rfl, rfl, by decide +kernel, rfl, by decide +kernel, by decide +kernel⟩
/-- one of the items of a list, or one sign of a text -/
def spPick (K : PySem.W.Frag) (ns : List Int) : Sp := fun vs H Q _ => ∃ (d g c : Addr) (b : Nat), Dw ns d g c b H ∧ b ≤ 1000000000 ∧
  ((∃ (a : Addr) (xs : List V), vs = [.ref d, .ref a] ∧ H a = some (.lst xs) ∧ a ≠ d ∧ a ≠ g ∧ 0 < xs.length ∧ xs.length ≤ 1000000 ∧
    ∀ (x : V) (H' : Hp), x ∈ xs → Dw ns d g c (b + 1) H' → Kp d g H H' → Q x H') ∨
   (∃ z : Str, vs = [.ref d, .str z] ∧ 0 < z.length ∧ z.length ≤ 1000000 ∧ ∀ (x : Nat) (H' : Hp), x ∈ z.cps.toList → Dw ns d g c (b + 1) H' → Kp d g H H' → Q (.str ⟨#[x]⟩) H'))
theorem ok_pick {f fT : Addr} {fd fdT : FuncData} (ns : List Int) (F : Fun K "_law_pick" "_law_pick" sPick f fd) (GT : FnOk P w K mg base CX0 2 fT fdT ["_law_state", "_law_size"] (spTake ns)) (bT : Binds K fdT ["_law_state", "_law_size"] []) (kT : PySem.W.keepIn K (.ref fT) = true) (mT : mg "_law_take" = some (.ref fT))
    (ml : mg "len" = none) : FnOk P w K mg base CX0 3 f fd ["_law_state", "_law_some"] (spPick K ns) := by
  refine F.ok scPick (fun vs H Q E h => ?_) (fun cdv A outer s H vs Q E hr h => ?_)
  · obtain ⟨d, g, c, b, D, hb, ⟨a, xs, rfl, _⟩ | ⟨z, rfl, _⟩⟩ := h <;> rfl
  · obtain ⟨d, g, c, b, D, hb, h⟩ := h
    have hu := hu_of hr
    have nd := scPick.nd
    refine ⟨_, pss_one (ps_ret (pe_ix ix_seq (pv 1) (pe_call GT hr rfl mT kT bT .nil pass0 (pa_cons (pv 0) (pa_cons (pe_callB call_len rfl ml PySem.boot_len (pa_cons (pv 1) pa_nil)) pa_nil))) (fun _ _ => rfl))), ?_⟩
    rcases h with ⟨a, xs, rfl, ha, nad, nag, h0, h1, k⟩ | ⟨z, rfl, h0, h1, k⟩
    · refine ⟨_, rfl, _, rfl, _, rfl, _, _, rfl, .inl ⟨_, SqL.of ha, rfl⟩, d, g, c, b, _, rfl, D, hb, by omega, by omega, fun r H' r0 r1 D' k' => ?_⟩
      obtain ⟨v, hv, hm⟩ := at_int r0 r1
      exact .inl ⟨a, xs, r, v, rfl, rfl, SqL.of (k' a _ nad nag ha), hv, k v H' hm D' k'⟩
    · refine ⟨_, rfl, _, rfl, _, rfl, _, _, rfl, ⟨by rw [sizeLine_eq]; omega, rfl⟩, d, g, c, b, _, rfl, D, hb, by omega, by omega, fun r H' r0 r1 D' k' => ?_⟩
      have e : r = ((r.toNat : Nat) : Int) := by omega
      have hl : r.toNat < z.cps.toList.length := by
        have : z.cps.toList.length = z.length := by simp [Str.length]
        omega
      have q : atI z.cps.toList ((r.toNat : Nat) : Int) = some z.cps.toList[r.toNat] := atI_nat (List.getElem?_eq_getElem hl)
      rw [← e] at q
      exact .inr (.inr ⟨z, r, _, rfl, rfl, by rw [sizeLine_eq]; omega, q, k _ H' (List.getElem_mem hl) D' k'⟩)
/-! ### _law_begun -/
def spBegun (K : PySem.W.Frag) (ns : List Int) : Sp := fun vs H Q _ => ∃ (a : Addr), vs = [.ref a] ∧ SqL K H a (ns.map V.int) ∧ ns.length ≤ 63 ∧
  ∀ (d g c : Addr) (H' : Hp), Dw ns d g c 0 H' → (∀ b o, H b = some o → H' b = some o) → H d = none → H g = none → H c = none → Q (.ref d) H'
theorem scBegun : FnScope ["_law_script", "_law_great", "_law_cell"] ["_law_script"] (defScope sBegun) := ⟨rfl, rfl, rfl, by decide +kernel, rfl, by decide +kernel, by decide +kernel⟩
theorem ok_begun {f : Addr} {fd : FuncData} (ns : List Int) (F : Fun K "_law_begun" "_law_begun" sBegun f fd) (mli : mg "list" = none) : FnOk P w K mg base CX0 1 f fd ["_law_script"] (spBegun K ns) := by
  refine F.ok scBegun (fun vs H Q E h => ?_) (fun cdv A outer s H vs Q E hr h => ?_)
  · obtain ⟨a, rfl, _⟩ := h
    rfl
  · obtain ⟨a, rfl, hS, hl, k⟩ := h
    have hu := hu_of hr
    have nd := scBegun.nd
    refine ⟨_, pss_cons (ps_setLc (i := 1) (own := [("_law_cell", 2)]) (g := gName 2) rfl nd rfl rfl (sw_true rfl rfl rfl (by decide +kernel)) (pi_list (pv 0)) (blkOk_by (N := ["_law_script", "_law_great", "_law_cell"]) (sc := defScope sBegun) (by decide +kernel))
        (fun _ _ _ _ _ => pg_name (i := 2) nd rfl (.inl rfl)) (fun _ _ _ _ _ => pts_one (pt_cmpR op_ge (pv 2) (pe_op op_pow pe_int pe_int) (nomark _))) (fun _ _ _ _ _ => pe_op op_sub (pv 2) (pe_op op_pow pe_int pe_int)))
      (pss_one (ps_ret (pe_disp (pps_cons pe_str (pv 1) (pps_cons pe_str (pe_callTy call_list_of rfl mli (by decide +kernel) (pa_cons (pv 0) pa_nil)) (pps_cons pe_str pe_int (pps_cons pe_str pe_int pps_nil)))) (by rfl) (by rfl) (fun z => by cases z) (by decide)))), ?_⟩
    have keep0 : ∀ {H' : Hp} {g : Addr} {o : HO}, (∀ b o, H b = some o → H' b = some o) → H g = none → ∀ b u, H b = some u → upd H' g o b = some u := fun {H' g o} s hg b u e => by
      rw [upd_ne (ne_of_none e hg)]
      exact s b u e
    refine ⟨_, rfl, a, rfl, ⟨_, hS⟩, fun g hg => ?_⟩
    refine lc_list (K := K) (a := a) (xs := ns.map V.int) (fun i H' => (∀ b o, H b = some o → H' b = some o) ∧ ∃ gs : List Int, gs.length ≤ i ∧ H' g = some (.lst (gs.map V.int)))
      ⟨fun b o e => new_same hg b o e, [], Nat.le_refl _, upd_same⟩ (fun i H' _ ⟨s, _⟩ => Same.seq s hS) ?_ ?_
    · rintro i x H' hx ⟨s5, gs, hgl, hg'⟩
      obtain ⟨z, rfl⟩ : ∃ z : Int, x = V.int z := by
        obtain ⟨z, hz, e⟩ := List.mem_map.mp (List.mem_of_getElem? hx)
        exact ⟨z, e.symm⟩
      have hi : i < ns.length := by
        have := (List.getElem?_eq_some_iff.mp hx).1
        rw [List.length_map] at this
        exact this
      refine ⟨rfl, _, rfl, 10, 18, rfl, rfl, ⟨by decide, by decide, by decide⟩, _, _, rfl, rfl, _, rfl, ?_⟩
      refine ite2 (fun _ => ?_) (fun _ => ?_)
      · refine ⟨_, rfl, 10, 18, rfl, rfl, ⟨by decide, by decide, by decide⟩, _, _, rfl, rfl, _, hg', small1000 (by rw [List.length_map]; omega), keep0 s5 hg, gs ++ [z - 10 ^ (18 : Int).toNat], by rw [List.length_append]; show gs.length + 1 ≤ i + 1; omega, ?_⟩
        rw [upd_same, List.map_append]
        rfl
      · exact ⟨s5, gs, by omega, hg'⟩
    · rintro H1 ⟨s1, gs, hgl, hg1⟩ d hd
      refine ⟨_, rfl, _, rfl, a, _, rfl, .inl (Same.seq (new_same hd) (Same.seq s1 hS)), fun c hc => ?_⟩
      have ndc : c ≠ d := fun e => by rw [e, upd_same] at hc; cases hc
      have hd2 : (upd (upd H1 d (.dK [])) c (.lst (ns.map V.int))) d = some (.dK []) := by rw [upd_ne ndc.symm, upd_same]
      refine ⟨hd2, dk g c 0 0, rfl, (by show 4 ≤ 15; decide), ?_⟩
      rw [merge_dk]
      have ngd : g ≠ d := fun e => by rw [← e, hg1] at hd; cases hd
      have hg2 : upd H1 d (.dK []) g = some (.lst (gs.map V.int)) := by rw [upd_ne ngd]; exact hg1
      have ngc : g ≠ c := fun e => by rw [← e, hg2] at hc; cases hc
      have H1d : H d = none := by
        cases e : H d with
        | none => rfl
        | some u => rw [s1 d u e] at hd; cases hd
      have H1c : H c = none := by
        cases e : H c with
        | none => rfl
        | some u => rw [new_same hd c u (s1 c u e)] at hc; cases hc
      refine k d g c _ ⟨⟨gs, 0, 0, upd_same, by rw [upd_ne ngd, upd_ne ngc]; exact hg2, by omega, by omega⟩, by rw [upd_ne ndc, upd_same], ndc, ngc.symm⟩ (fun b o e => ?_) H1d hg H1c
      rw [upd_ne (ne_of_none e H1d), upd_ne (ne_of_none e H1c), upd_ne (ne_of_none e H1d)]
      exact s1 b o e
end
end Lw

set_option Elab.async false
set_option linter.all false
set_option maxRecDepth 100000
set_option maxHeartbeats 4000000
/-! a law's own body, run by the caller that the row names: what is around it is known there -/
namespace Ge
open PySem PySem.Spec PyProof.Rows L2 Gn
/-- what is known where a law's own body runs -/
structure Bed (K : PySem.W.Frag) (mg : Str → Option Value) (base : Heap) (A : Around) : Prop where
  kin : K.In base
  glob : base.Ns mainGlobals mg
  sys : ∃ o, base.get? sysModules = some o
  gd : A.guards = some []
section
variable {P : Program} {w : World} {K : PySem.W.Frag} {mg : Str → Option Value} {base : Heap}
/-- one call of a def of the text, by its body, at one place -/
theorem call_here {x qual : Str} {st : Stmt} {f : Addr} {fd : FuncData} {N ps : List Str} {k : Nat} {A : Around} {outer : List Env} {s : Shared} {H : Hp} {vs : List V} {us : List Value} {Q : VK}
    (F : Fun K x qual st f fd) (S : FnScope N ps (defScope st)) (hr : Room (k + 1) A) (e0 : Env0 P w K mg base A outer s H) (hb : BindsTo s fd ⟨us, []⟩ (ps.zip us)) (hl : vs.length = ps.length) (r : Vals vs us)
    (body : ∀ cdv : Value, Room k (A.deeper (envOfC qual (defScope st) s.heap.objs.size f cdv)) →
      ∃ t, PSs (cxOf CX0 P w K mg base N qual (defScope st) f cdv A outer s H E0).nox (defBody st) t ∧ t { nx := fun _ H' => Q .non H', rt := Q } (start N vs) H) :
    codeAny (model P w) A (.call (.ref f) ⟨us, []⟩) (CR CX0 outer P w H s Q E0) s := by
  obtain ⟨oc, od, kV, doc, pm, an, cdv, ct, osl, rfl, lk, hcd⟩ := F.ex
  have old : ∀ b o, base.get? b = some o → s.heap.get? b = some o := fun b o e => (e0.bs b o e).1
  have KX : K.In s.heap := e0.mod.kin.keeps old
  obtain ⟨t, ht, hq⟩ := body cdv (hr.deeper _)
  refine codeAny_call_function hr.depth (KX _ _ lk) rfl S.co S.gen rfl (PySem.W.codeRec_of KX hcd) (hb _ _ _ _ ?_)
  refine wpAny_newFunctionEnv_cells S.kind (fun ⟨n, v⟩ hy => ?_) (fun env he s1 z => ?_)
  · cases S.par n (List.of_mem_zip hy).1 with
    | inl q => exact .inl q
    | inr q => exact .inr ⟨q, PySem.W.cellsFrom_some _ _ _ (.inl q)⟩
  · subst he
    refine ⟨(e0.mod.nolimit.keeps old).keeps z.toInCall.keep, codeAny_func ?_⟩
    have I : Inv (cxOf CX0 P w K mg base N qual (defScope st) f cdv A outer s H E0) [] (start N vs) H s1 := inv_start S hr.hd e0 hl r z
    refine wpAny_mono (ht.nox.run [] s1 (start N vs) H _ I hq) (fun fl s' hs => ?_) (fun e s' hs => hs)
    match fl, hs with
    | .ret u, ⟨v, σ', H', J, rv, q⟩ => exact ⟨v, H', J.os, J.bare, J.base, J.hok, rv, q⟩
    | .next, ⟨σ', H', J, q⟩ => exact ⟨.non, H', J.os, J.bare, J.base, J.hok, rfl, q⟩
    | .brk, ⟨_, _, _, q⟩ => exact q.elim
    | .cont, ⟨_, _, _, q⟩ => exact q.elim
end
/-- nothing is tracked, or the script's list alone, as a thing that is only read -/
def Hs (a : Addr) (o : Obj) (xs : List V) : Hp := fun b => if b = a then some (.frz o (.lst xs)) else none
theorem hs_at {a : Addr} {o : Obj} {xs : List V} : Hs a o xs a = some (.frz o (.lst xs)) := if_pos rfl
theorem hs_no {a b : Addr} {o : Obj} {xs : List V} (h : b ≠ a) : Hs a o xs b = none := if_neg h
def H0 : Hp := fun _ => none
section
variable {P : Program} {w : World} {K : PySem.W.Frag} {mg mb : Str → Option Value} {s₁ : Shared} {a : Addr} {vs : List Value} {ns : List Int} {st : Stmt} {N : List Str} {x : Str} {k : Nat} {fa : Addr} {fd : FuncData}
/-- the state that the row's call begins with -/
theorem env_of {H : Hp} (KX : K.In s₁.heap) (hns : s₁.heap.Ns mainGlobals mg) (hb : s₁.heap.Ns builtinsNs mb) (hbb : ∀ x : Str, x ≠ "__name__" → mb x = bootBuiltins x) (hlim : s₁.heap.NoLimit) (hsee : ∃ mm, s₁.heap.Ns sysModules mm) (hg : s₁.gens = #[])
    (ha : s₁.heap.get? a = some { cls := .type "list", data := .seq vs.toArray }) (only : ∀ b, H b ≠ none → b = a) (hka : H a ≠ none → K.lookup a = none) (hok : HOk P w H s₁.heap) :
    Env0 P w K mg (hidT s₁.heap H) callerA [] s₁ H ∧ Bed K mg (hidT s₁.heap H) callerA := by
  have free : ∀ {b : Addr}, b ≠ a → H b = none := fun {b} n => by
    cases e : H b with
    | none => rfl
    | some u => exact absurd (only b (by rw [e]; simp)) n
  have keepNs : ∀ {b : Addr} {m : Str → Option Value}, s₁.heap.Ns b m → (hidT s₁.heap H).Ns b m := fun {b m} h => by
    obtain ⟨o, es, ep, e, dd, r⟩ := h
    refine ⟨o, es, ep, hidT_get e (free fun z => ?_), dd, r⟩
    subst z
    rw [ha] at e
    cases e
    cases dd
  have kIn : K.In (hidT s₁.heap H) := fun b o e => hidT_get (KX b o e) (by
    cases q : H b with
    | none => rfl
    | some u =>
      have z := only b (by rw [q]; simp)
      subst z
      rw [hka (by rw [q]; simp)] at e
      cases e)
  obtain ⟨mc, c1, c2⟩ := hlim
  obtain ⟨mm, o, es, ep, e1, e2, e3⟩ := hsee
  have sysf : H sysModules = none := free fun z => by
    subst z
    rw [ha] at e1
    cases e1
    cases e2
  refine ⟨⟨rfl, ⟨kIn, keepNs hns, ⟨mb, keepNs hb, hbb⟩, ⟨mc, keepNs c1, c2⟩⟩, fun b o e => of_hidT e, Nat.le_of_eq (hidT_size _ _), trivial, fun b z => absurd (show b ∈ ([] : List Addr) from z) (by simp), hok, .of_eq hg⟩, kIn, keepNs hns, ⟨o, hidT_get e1 sysf⟩, rfl⟩
/-- the law's call gives True, if its body does wherever it may run -/
theorem law_true (KX : K.In s₁.heap) (hns : s₁.heap.Ns mainGlobals mg) (hb : s₁.heap.Ns builtinsNs mb) (hbb : ∀ x : Str, x ≠ "__name__" → mb x = bootBuiltins x) (hlim : s₁.heap.NoLimit) (hsee : ∃ mm, s₁.heap.Ns sysModules mm) (hg : s₁.gens = #[])
    (ha : s₁.heap.get? a = some { cls := .type "list", data := .seq vs.toArray }) (hi : IntsAre vs ns) (hl : ns.length ≤ sizeLine) (hr : Room (k + 1) callerA)
    (F : Fun K "law" "law" st fa fd) (S : FnScope N [x] (defScope st)) (hbind : ∀ (s : Shared) (u : Value), BindsTo s fd ⟨[u], []⟩ [(x, u)])
    (body : ∀ (base : Heap) (A : Around) (s : Shared) (H : Hp) (cdv : Value), Bed K mg base A → Room k (A.deeper (envOfC "law" (defScope st) s.heap.objs.size fa cdv)) → SqL K H a (ns.map V.int) →
      ∃ t, PSs (cxOf CX0 P w K mg base N "law" (defScope st) fa cdv A [] s H E0).nox (defBody st) t ∧ t { nx := fun _ _ => False, rt := fun v _ => v = .bl true } (start N [.ref a]) H) :
    codeAny (model P w) callerA (.call (.ref fa) ⟨[.ref a], []⟩) (fun r s' => r = .ok (.ret (.bool true)) ∧ OldK s₁.heap s'.heap ∧ s'.os = s₁.os ∧ AllBare s'.gens) s₁ := by
  have rv := vals_ints hi
  have lenV := hi.length
  have go : ∀ H : Hp, (∀ b, H b = none ∨ ∃ o xs, H b = some (.frz o (.lst xs))) → SqL K H a (ns.map V.int) → Env0 P w K mg (hidT s₁.heap H) callerA [] s₁ H ∧ Bed K mg (hidT s₁.heap H) callerA →
      codeAny (model P w) callerA (.call (.ref fa) ⟨[.ref a], []⟩) (fun r s' => r = .ok (.ret (.bool true)) ∧ OldK s₁.heap s'.heap ∧ s'.os = s₁.os ∧ AllBare s'.gens) s₁ := by
    rintro H hO hS ⟨e0, B⟩
    have hok := e0.hok
    refine codeAny_mono (call_here (Q := fun v _ => v = .bl true) (vs := [.ref a]) (us := [.ref a]) F S hr e0 (hbind s₁ (.ref a)) rfl (.cons rfl .nil) fun cdv hr' => ?_) fun r s' h => ?_
    · obtain ⟨t, h1, h2⟩ := body (hidT s₁.heap H) callerA s₁ H cdv B hr' hS
      refine ⟨t, ⟨fun pins s0 σ H1 D I z => ?_⟩, ?_⟩
      · exact h1.run pins s0 σ H1 D I z
      · exact (show t { nx := fun _ _ => V.non = V.bl true, rt := fun v _ => v = V.bl true } (start N [.ref a]) H from by
          have e : (fun (_ : L2.St) (_ : Hp) => V.non = V.bl true) = fun _ _ => False := by funext _ _; simp
          rw [e]; exact h2)
    · match r, h with
      | .error e, h => exact False.elim h
      | .ok .next, h => exact False.elim h
      | .ok .brk, h => exact False.elim h
      | .ok .cont, h => exact False.elim h
      | .ok (.ret u), ⟨v, H', os, bare, un, hok', r', q⟩ =>
        subst q
        obtain rfl : u = Value.bool true := r'
        refine ⟨rfl, OldK.of_keep fun b o e => ?_, os, bare⟩
        rcases hO b with z | ⟨ob, xs, z⟩
        · exact un.keep b o e z (by intro m; exact absurd (show b ∈ ([] : List Addr) from m) (by simp)) (by simp)
        · obtain ⟨e1, _⟩ := hok b _ z
          obtain ⟨e2, _⟩ := hok' b _ (un.frzs b ob _ z)
          rw [e] at e1
          cases e1
          exact e2
  cases hk : K.lookup a with
  | some o =>
    have e := KX a o hk
    rw [ha] at e
    cases e
    refine go H0 (fun _ => .inl rfl) (.inr ⟨_, vs.toArray, _, hk, rfl, rfl, rfl, ?_, ?_⟩) (env_of KX hns hb hbb hlim hsee hg ha (fun b z => absurd rfl z) (fun z => absurd rfl z) fun b u z => nomatch (show (none : Option HO) = some u from z))
    · rw [List.size_toArray, lenV]
      exact hl
    · simpa using rv
  | none =>
    refine go (Hs a { cls := .type "list", data := .seq vs.toArray } (ns.map V.int)) (fun b => ?_) (.inl (.inr ⟨_, hs_at⟩)) (env_of KX hns hb hbb hlim hsee hg ha (fun b z => ?_) (fun _ => hk) fun b u z => ?_)
    · by_cases n : b = a
      · subst n
        exact .inr ⟨_, _, hs_at⟩
      · exact .inl (hs_no n)
    · by_cases n : b = a
      · exact n
      · exact absurd (hs_no n) z
    · by_cases n : b = a
      · subst n
        cases hs_at.symm.trans z
        exact ⟨ha, by rw [List.length_map]; exact hl, vs, _, rv, ha⟩
      · cases (hs_no n).symm.trans z
end
open PySem.W in
/-- the goal that the head leaves -/
theorem walk_law {l : PySem.W.OpenLaw} {n k : Nat} {q : Program} {loose : List Str} {XP : (Str → Option Value) → Heap → Prop} {YP : World → Heap → Prop} {d : DefRec} {K : Params → PySem.W.Frag} {x : Str} {st : Stmt} {N : List Str}
    (hn : l.most = some n) (hn2 : n ≤ sizeLine) (hdf : d.params.defaults = []) (hr : Room (k + 1) callerA) (hi : importsNone q = true) (S : FnScope N [x] (defScope st))
    (hY : ∀ (w : World) (h : Heap), YP w h → (K w.params).In h)
    (F : ∀ (w : World) (mg : Str → Option Value) (fa : Addr) (h : Heap), (K w.params).In h → h.Ns mainGlobals mg → mg d.name = some (.ref fa) →
      ∃ fd : FuncData, Fun (K w.params) "law" "law" st fa fd ∧ (∀ (s : Shared) (u : Value), BindsTo s fd ⟨[u], []⟩ [(x, u)]) ∧
        ∀ (base : Heap) (A : Around) (s : Shared) (H : Hp) (cdv : Value) (a : Addr) (ns : List Int), ns.length ≤ n → Bed (K w.params) mg base A → Room k (A.deeper (envOfC "law" (defScope st) s.heap.objs.size fa cdv)) → SqL (K w.params) H a (ns.map V.int) →
          ∃ t, PSs (cxOf CX0 l.prog w (K w.params) mg base N "law" (defScope st) fa cdv A [] s H E0).nox (defBody st) t ∧ t { nx := fun _ _ => False, rt := fun v _ => v = .bl true } (start N [.ref a]) H) :
    PySem.W.WalkO q loose XP YP l.row.toRowW d [] (fun f vs => PySem.call f vs) := by
  refine Att.attach_call hn hdf fun w s₀ s₁ mg mb fa o pm cd doc a vs ns G Y ho hd hcd hmg hobj hints hlen hg => ?_
  have KX := hY w _ Y
  obtain ⟨fd, F1, F2, F3⟩ := F w mg fa _ KX G.T.g hmg
  obtain ⟨mm, z, _⟩ := (G.T.seer hi).mods
  exact law_true KX G.T.g G.T.b G.T.builtins G.T.nolimit ⟨mm, z⟩ hg hobj hints (Nat.le_trans hlen hn2) hr F1 S F2 fun base A s H cdv B hr' hS => F3 base A s H cdv a ns hlen B hr' hS
end Ge

set_option Elab.async false
set_option linter.all false
set_option maxRecDepth 100000
set_option maxHeartbeats 4000000
/-! data that stand in the heap, dicts too; what repr says of them -/
namespace Gr
open PySem PySem.Spec PyProof.Rows L2 Gn
def keyD : Key → PyData
  | .inl i => .int i
  | .inr x => .str x
mutual
inductive Dr (H : Hp) : V → PyData → Prop
  | non : Dr H .non .none
  | bl (b : Bool) : Dr H (.bl b) (.bool b)
  | int (i : Int) : Dr H (.int i) (.int i)
  | str (x : Str) : Dr H (.str x) (.str x)
  | lst {a : Addr} {xs : List V} {ds : List PyData} : H a = some (.lst xs) → DrAll H xs ds → Dr H (.ref a) (.list ds)
  | tup {a : Addr} {xs : List V} {ds : List PyData} : H a = some (.tup xs) → DrAll H xs ds → Dr H (.ref a) (.tuple ds)
  | dct {a : Addr} {kvs : List (Key × V)} {ds : List (PyData × PyData)} : H a = some (.dK kvs) → DrKv H kvs ds → Dr H (.ref a) (.dict ds)
inductive DrAll (H : Hp) : List V → List PyData → Prop
  | nil : DrAll H [] []
  | cons {v : V} {vs : List V} {d : PyData} {ds : List PyData} : Dr H v d → DrAll H vs ds → DrAll H (v :: vs) (d :: ds)
inductive DrKv (H : Hp) : List (Key × V) → List (PyData × PyData) → Prop
  | nil : DrKv H [] []
  | cons {k : Key} {v : V} {kvs : List (Key × V)} {d : PyData} {ds : List (PyData × PyData)} : Dr H v d → DrKv H kvs ds → DrKv H ((k, v) :: kvs) ((keyD k, d) :: ds)
end
section
variable {H H' : Hp}
mutual
theorem Dr.mono (s : ∀ a o, H a = some o → H' a = some o) : ∀ (d : PyData) (v : V), Dr H v d → Dr H' v d
  | .none, _, h => by cases h; exact .non
  | .bool b, _, h => by cases h; exact .bl b
  | .int i, _, h => by cases h; exact .int i
  | .str x, _, h => by cases h; exact .str x
  | .list ds, _, h => by
    cases h with
    | lst e r => exact .lst (s _ _ e) (DrAll.mono s ds _ r)
  | .tuple ds, _, h => by
    cases h with
    | tup e r => exact .tup (s _ _ e) (DrAll.mono s ds _ r)
  | .dict ds, _, h => by
    cases h with
    | dct e r => exact .dct (s _ _ e) (DrKv.mono s ds _ r)
theorem DrAll.mono (s : ∀ a o, H a = some o → H' a = some o) : ∀ (ds : List PyData) (vs : List V), DrAll H vs ds → DrAll H' vs ds
  | [], _, h => by cases h; exact .nil
  | d :: ds, _, h => by
    cases h with
    | cons e r => exact .cons (Dr.mono s d _ e) (DrAll.mono s ds _ r)
theorem DrKv.mono (s : ∀ a o, H a = some o → H' a = some o) : ∀ (ds : List (PyData × PyData)) (vs : List (Key × V)), DrKv H vs ds → DrKv H' vs ds
  | [], _, h => by cases h; exact .nil
  | (k, d) :: ds, _, h => by
    cases h with
    | cons e r => exact .cons (Dr.mono s d _ e) (DrKv.mono s ds _ r)
end
theorem DrAll.snoc : ∀ {vs : List V} {ds : List PyData} {v : V} {d : PyData}, DrAll H vs ds → Dr H v d → DrAll H (vs ++ [v]) (ds ++ [d])
  | [], _, _, _, .nil, h => .cons h .nil
  | _ :: _, _, _, _, .cons e r, h => .cons e (DrAll.snoc r h)
theorem DrAll.length : ∀ {vs : List V} {ds : List PyData}, DrAll H vs ds → vs.length = ds.length
  | _, _, .nil => rfl
  | _, _, .cons _ r => by rw [List.length_cons, List.length_cons, DrAll.length r]
end
section
variable {X : Cx} {pins : List (Addr × Obj)} {σ : L2.St} {H : Hp} {s : Shared}
theorem rel_key {k : Key} {u : Value} (h : keyIs k u = true) {s : Heap} : Reads s u (keyD k) [] := by
  rcases keyIs_shape h with ⟨i, t, rfl, rfl⟩ | ⟨x, t, rfl, rfl⟩
  · exact .int i t
  · exact .str x t
theorem keys_read {h : Heap} {P : Program} {w : World} : ∀ (ds : List (PyData × PyData)) (kvs : List (Key × V)) (vs : List (Key × Value)) (es : List DictEntry), DrKv H kvs ds → KV kvs vs → Pairs (mixKind P w) es vs →
    ∃ as, ReadsAll h (es.map (·.key)) (ds.map (·.1)) as ∧ sysModules ∉ as
  | [], _, _, _, e, r, p => by
    cases e
    cases r
    cases p
    exact ⟨_, ReadsAll.nil, by simp⟩
  | (k, d) :: ds, _, _, _, e, r, p => by
    cases e with
    | cons h1 h2 =>
      cases r with
      | cons r1 r2 =>
        cases p with
        | cons p1 p2 p3 =>
          obtain ⟨bs, q2, n2⟩ := keys_read (h := h) ds _ _ _ h2 r2 p3
          obtain ⟨r3, _⟩ := r1
          rw [← r3] at p1
          exact ⟨_, ReadsAll.cons (rel_key p1) q2, fun m => n2 m⟩
theorem not_sys (I : Inv X pins σ H s) (hs : ∃ o, X.base.get? sysModules = some o) {a : Addr} {o : HO} (h : H a = some o) : sysModules ≠ a := fun e => by
  obtain ⟨ob, hob⟩ := hs
  have n := (I.bs _ _ hob).2
  rw [e, h] at n
  cases n
mutual
theorem Dr.reads (I : Inv X pins σ H s) (hs : ∃ o, X.base.get? sysModules = some o) : ∀ (d : PyData) (v : V) (u : Value), Dr H v d → RelV v u → ∃ as, Reads s.heap u d as ∧ sysModules ∉ as
  | .none, _, _, h, r => by
    cases h
    cases r
    exact ⟨_, Reads.none, by simp⟩
  | .bool b, _, _, h, r => by
    cases h
    cases r
    exact ⟨_, Reads.bool b, by simp⟩
  | .int i, _, _, h, r => by
    cases h
    obtain ⟨t, rfl⟩ := r
    exact ⟨_, Reads.int i t, by simp⟩
  | .str x, _, _, h, r => by
    cases h
    obtain ⟨t, rfl⟩ := r
    exact ⟨_, Reads.str x t, by simp⟩
  | .list ds, _, _, h, r => by
    cases h with
    | lst e ha =>
      cases r
      obtain ⟨its, rv, ⟨o, n, ho, hc, _, hd⟩, _⟩ := I.list (SqL.of e)
      obtain ⟨as, hr, hn⟩ := DrAll.reads I hs ds _ its ha rv
      exact ⟨_, Reads.list ho hc hd hr, fun m => by
        rcases List.mem_cons.mp m with z | z
        · exact not_sys I hs e z
        · exact hn z⟩
  | .tuple ds, _, _, h, r => by
    cases h with
    | tup e ha =>
      cases r
      obtain ⟨its, rv, ⟨o, ho, hc, n, hd⟩, _⟩ := I.tuple (SqT.of e)
      obtain ⟨as, hr, hn⟩ := DrAll.reads I hs ds _ its ha rv
      exact ⟨_, Reads.tuple ho hc hd hr, hn⟩
  | .dict ds, _, _, h, r => by
    cases h with
    | @dct a kvs _ e ha =>
      cases r
      obtain ⟨_, _, vs, kv, o, es, ep, ho, hx, hdt, _, ps, _⟩ := (show ObjOk X.prog X.w H s.heap a (.dK kvs) from I.hok a _ e)
      obtain ⟨as, hr, hn⟩ := DrKv.reads I hs ds kvs vs es.toList ha kv ps
      obtain ⟨bs, q1, q2⟩ := keys_read (h := s.heap) ds kvs vs es.toList ha kv ps
      exact ⟨_, Reads.dict ho hx.1 hdt q1 hr, fun m => by
        rcases List.mem_append.mp m with z | z
        · rcases List.mem_cons.mp z with z | z
          · exact not_sys I hs e z
          · exact q2 z
        · exact hn z⟩
theorem DrAll.reads (I : Inv X pins σ H s) (hs : ∃ o, X.base.get? sysModules = some o) : ∀ (ds : List PyData) (vs : List V) (us : List Value), DrAll H vs ds → Vals vs us → ∃ as, ReadsAll s.heap us ds as ∧ sysModules ∉ as
  | [], _, _, h, r => by
    cases h
    cases r
    exact ⟨_, ReadsAll.nil, by simp⟩
  | d :: ds, _, _, h, r => by
    cases h with
    | cons h1 h2 =>
      cases r with
      | cons r1 r2 =>
        obtain ⟨as, q1, n1⟩ := Dr.reads I hs d _ _ h1 r1
        obtain ⟨bs, q2, n2⟩ := DrAll.reads I hs ds _ _ h2 r2
        exact ⟨_, ReadsAll.cons q1 q2, fun m => (List.mem_append.mp m).elim n1 n2⟩
theorem DrKv.reads (I : Inv X pins σ H s) (hs : ∃ o, X.base.get? sysModules = some o) : ∀ (ds : List (PyData × PyData)) (kvs : List (Key × V)) (vs : List (Key × Value)) (es : List DictEntry), DrKv H kvs ds → KV kvs vs → Pairs (mixKind X.prog X.w) es vs →
    ∃ as, ReadsAll s.heap (es.map (·.val)) (ds.map (·.2)) as ∧ sysModules ∉ as
  | [], _, _, _, h, r, p => by
    cases h
    cases r
    cases p
    exact ⟨_, ReadsAll.nil, by simp⟩
  | (k, d) :: ds, _, _, _, h, r, p => by
    cases h with
    | cons h1 h2 =>
      cases r with
      | cons r1 r2 =>
        cases p with
        | cons p1 p2 p3 =>
          obtain ⟨as, q1, n1⟩ := Dr.reads I hs d _ _ h1 r1.2
          obtain ⟨bs, q2, n2⟩ := DrKv.reads I hs ds _ _ _ h2 r2 p3
          rw [← p2] at q1
          exact ⟨_, ReadsAll.cons q1 q2, fun m => (List.mem_append.mp m).elim n1 n2⟩
end
end
/-- repr(v), v any data -/
def rRepr : List V → Hp → VK → Prop := fun xs H Q => ∃ v d, xs = [v] ∧ Dr H v d ∧ d.showable = true ∧ d.depth ≤ 60 ∧ d.shown.length ≤ sizeLine ∧ Q (.str d.shown) H
theorem call_repr {X : Cx} (hg : X.A.guards = some []) (hu : X.A.units + 64 < cLine) (hs : ∃ o, X.base.get? sysModules = some o) : CallR X (.builtin "repr") rRepr := by
  intro pins s σ H xs us Q I r h
  obtain ⟨v, d, rfl, hd, sh, dp, sz, q⟩ := h
  obtain ⟨u, rfl, ru⟩ := vals1 r
  have fin : ∀ h' tk uk, (∀ b o, s.heap.get? b = some o → h'.get? b = some o) → EP X pins σ Q (.str d.shown uk) { s with heap := h', toks := tk } := fun h' tk uk k => ⟨.str d.shown, H, I.kept k, ⟨uk, rfl⟩, q⟩
  obtain ⟨as, hr, hn⟩ := Dr.reads I hs d v u hd ru
  cases hr with
  | none => exact PySem.P.repr_of_none (by have e := fin s.heap (s.toks + 1) s.toks (fun _ _ e => e); simpa only [PyData.shown] using e)
  | bool b => exact PySem.P.repr_of_bool (by have e := fin s.heap (s.toks + 1) s.toks (fun _ _ e => e); simpa only [PyData.shown] using e)
  | int i t => exact PySem.P.repr_of_int (by simpa [PyData.showable] using sh) (by have e := fin s.heap (s.toks + 1) s.toks (fun _ _ e => e); simpa only [PyData.shown] using e)
  | str x t => exact PySem.P.repr_of_str (by have e := fin s.heap (s.toks + 1) s.toks (fun _ _ e => e); simpa only [PyData.shown] using e) (by simpa only [PyData.shown] using sz)
  | list h1 h2 h3 h4 => exact repr_of_reads' (Reads.list h1 h2 h3 h4) sh (fun _ => hn) hg (by omega) (fun _ _ e => e) (fun h' u tk k => fin h' tk u k) sz
  | tuple h1 h2 h3 h4 => exact repr_of_reads' (Reads.tuple h1 h2 h3 h4) sh (fun _ => hn) hg (by omega) (fun _ _ e => e) (fun h' u tk k => fin h' tk u k) sz
  | dict h1 h2 h3 h4 h5 => exact repr_of_reads' (Reads.dict h1 h2 h3 h4 h5) sh (fun _ => hn) hg (by omega) (fun _ _ e => e) (fun h' u tk k => fin h' tk u k) sz
end Gr

set_option Elab.async false
set_option linter.all false
set_option maxRecDepth 100000
set_option maxHeartbeats 4000000
/-! more rules and words -/
namespace Gk
open PySem PySem.Spec PyProof.Rows L2 Gn Gr
section
variable {X : Cx} {CX : CXT} {k : Nat} {f : Addr} {fd : FuncData} {ps ks : List Str} {sp : Sp} {E : XK} {x : Str} {p pos : Pos} {kws : List Keyword} {tk : TA} {g : List Value → List Value → List Value} {gV : List V → List V → List V}
/-- f(k = v, ..) -/
theorem pe_kw (F : FnOk X.prog X.w X.K X.mg X.base CX k f fd ps sp) (hr : Room k X.A) (hg : Gl X x) (hm : X.mg x = some (.ref f)) (hk : PySem.W.keepIn X.K (.ref f) = true) (hb : KBinds X.K fd ps ks g gV) (hx : Passes CX X E) (hkw : PK X kws tk)
    (hall : (backToKw pos (keywordEach kws X.env)).all (·.1.isSome) = true := by rfl) (hks : (backToKw pos (keywordEach kws X.env)).filterMap (·.1) = ks := by rfl) (hdb : (x == ("__debug__" : Str)) = false := by decide)
    (hpl : ((backTo pos (starEach [] X.env)).any (·.1) || (backToKw pos (keywordEach kws X.env)).any (·.1.isNone)) = false := by rfl) :
    PE X (.Call (.Name x p) [] kws pos) (tCallK sp gV E tNil tk) := by
  refine ⟨fun pins s σ H Q I h => ?_⟩
  refine wpAny_Call_Name_kw (ld_glob I hg hm ?_ hdb)
  refine PySem.W.callWith_KW0 (h₀ := X.base) I.ok.mod.kin hk hall ?_ hpl
  refine thn (hkw.run pos pins s σ H _ I h) fun ws s2 ⟨zs, H2, I2, rz, q2⟩ => ⟨I2.kIn, ?_⟩
  rw [hks]
  exact run_fnk (us := []) (vs := []) F hr hb hx I2 .nil rz q2
/-- one parameter, given by its name or its place -/
theorem kb_one {K : PySem.W.Frag} {y : Str} (b : ∀ (s : Shared) (w : Value), BindsTo s fd ⟨[], [(y, w)]⟩ [(y, w)]) (b' : ∀ (s : Shared) (w : Value), BindsTo s fd ⟨[w], []⟩ [(y, w)]) : KBinds K fd [y] [y] (fun us ws => us ++ ws) (fun vs zs => vs ++ zs) := by
  refine ⟨fun s us ws _ hl => ?_, fun r q => Vals.append r q⟩
  match us, ws, hl with
  | [], [w], _ => exact b s w
  | [w], [], _ => exact b' s w
  | [], [], hl => exact absurd hl (by simp)
  | [], _ :: _ :: _, hl => exact absurd hl (by simp)
  | [_], _ :: _, hl => exact absurd hl (by simp)
  | _ :: _ :: _, _, hl => exact absurd hl (by simp)
end
/-- no test in a comprehension -/
theorem yes_of {σ : L2.St} {H : Hp} {A B : Hp → Prop} (h : A H) : tYes σ H (fun b H3 => if b = true then A H3 else B H3) := by
  show if true = true then A H else B H
  rw [if_pos rfl]
  exact h
/-! ## texts of signs below 128 -/
def Asc (n : Nat) (x : Str) : Prop := x.length ≤ n ∧ ∀ c ∈ x.cps.toList, c < 128
theorem len_cps (x : Str) : x.cps.toList.length = x.length := by simp [Str.length]
theorem cps_app (x y : Str) : (x ++ y).cps.toList = x.cps.toList ++ y.cps.toList := by
  show (x.cps ++ y.cps).toList = _
  simp
theorem Asc.app {n m : Nat} {x y : Str} (h : Asc n x) (k : Asc m y) : Asc (n + m) (x ++ y) := by
  refine ⟨by rw [strLen_append]; have := h.1; have := k.1; omega, fun c hc => ?_⟩
  rw [cps_app] at hc
  exact (List.mem_append.mp hc).elim (h.2 c) (k.2 c)
theorem Asc.mono {n m : Nat} {x : Str} (h : Asc n x) (k : n ≤ m) : Asc m x := ⟨Nat.le_trans h.1 k, h.2⟩
theorem Asc.one {c : Nat} (h : c < 128) : Asc 1 (⟨#[c]⟩ : Str) := ⟨Nat.le_refl _, fun b hb => by
  have : b = c := by simpa using hb
  omega⟩
theorem Asc.cut {n : Nat} {x : Str} (h : Asc n x) (lo hi : Option Int) : Asc n (cutS x lo hi) := by
  have e : (cutS x lo hi).cps.toList = (x.cps.toList.drop (HT.sIx x.length 0 lo)).take (HT.sIx x.length x.length hi - HT.sIx x.length 0 lo) := by
    unfold cutS
    simp
  refine ⟨?_, fun c hc => ?_⟩
  · rw [← len_cps, e, List.length_take, List.length_drop, len_cps]
    have := h.1
    omega
  · rw [e] at hc
    exact h.2 c (List.mem_of_mem_drop (List.mem_of_mem_take hc))
theorem Asc.ok {n : Nat} {x : Str} (h : Asc n x) : PyData.strOk x = true := by
  unfold PyData.strOk
  rw [Array.all_eq_true']
  intro c hc
  have := h.2 c (by simpa using hc)
  simp only [decide_eq_true_eq]
  omega
theorem Asc.shown {n : Nat} {x : Str} (h : Asc n x) : (reprText x).length ≤ 10 * n + 2 := by
  have := PySem.StrLaws.reprText_len x fun c hc => Nat.lt_of_lt_of_le (h.2 c hc) (by decide)
  have := h.1
  omega
/-! ## what is new since -/
def Nw (H H' : Hp) : Hp := fun a => match H a with | none => H' a | some _ => none
section
variable {H H' H2 : Hp} {a : Addr} {o : HO}
theorem nw_of (h : Nw H H' a = some o) : H a = none ∧ H' a = some o := by
  unfold Nw at h
  cases e : H a with
  | none => rw [e] at h; exact ⟨rfl, h⟩
  | some u => rw [e] at h; cases h
theorem nw_to (h : H a = none) (k : H' a = some o) : Nw H H' a = some o := by
  unfold Nw
  rw [h]
  exact k
theorem nw_sub : ∀ a o, Nw H H' a = some o → H' a = some o := fun a o h => (nw_of h).2
end
/-! ## numbers as texts -/
theorem shown_int {i : Int} (h : i.natAbs < 10 ^ 20) : (PyData.int i).showable = true ∧ (PyData.int i).shown.length ≤ 21 := by
  constructor
  · simp only [PyData.showable, decide_eq_true_eq]
    by_cases z : i.natAbs = 0
    · rw [z]; decide
    · refine (Nat.log2_lt z).mpr (Nat.lt_trans h ?_)
      decide +kernel
  · simp only [PyData.shown]
    show (Str.ofString (toString i)).length ≤ 21
    rw [PySem.ofString_length]
    exact int_text_length_le10 (by decide) h
/-! ## how much a value's text may hold -/
def Ok (n : Nat) (x : PyData) : Prop := x.showable = true ∧ x.depth ≤ n ∧ x.shown.length ≤ 200 * 4 ^ n
theorem pow_pos4 (n : Nat) : 1 ≤ 4 ^ n := Nat.pow_pos (by decide)
theorem pow_le4 {n m : Nat} (h : n ≤ m) : 4 ^ n ≤ 4 ^ m := Nat.pow_le_pow_right (by decide) h
theorem pow_s4 (n : Nat) : 4 ^ (n + 1) = 4 * 4 ^ n := by rw [Nat.pow_succ, Nat.mul_comm]
theorem Ok.mono {n m : Nat} {x : PyData} (h : Ok n x) (k : n ≤ m) : Ok m x :=
  ⟨h.1, Nat.le_trans h.2.1 k, Nat.le_trans h.2.2 (Nat.mul_le_mul_left _ (pow_le4 k))⟩
theorem Ok.flat {n : Nat} {x : PyData} (h1 : x.showable = true) (h2 : x.depth = 0) (h3 : x.shown.length ≤ 200) : Ok n x := by
  have := pow_pos4 n
  exact ⟨h1, by omega, by omega⟩
theorem ok_str {n : Nat} {x : Str} (h : Asc 19 x) : Ok n (.str x) := by
  have := h.shown
  refine Ok.flat (by simp only [PyData.showable]) (by simp only [PyData.depth]) ?_
  simp only [PyData.shown]
  omega
theorem ok_int {n : Nat} {i : Int} (h : i.natAbs < 10 ^ 20) : Ok n (.int i) := by
  obtain ⟨a, b⟩ := shown_int h
  exact Ok.flat a (by simp only [PyData.depth]) (by omega)
theorem ok_all {n : Nat} : ∀ {ds : List PyData}, (∀ x ∈ ds, Ok n x) → PyData.showableAll ds = true ∧ PyData.depthAll ds ≤ n ∧ (PyData.shownAll ds).length = ds.length ∧ ((PyData.shownAll ds).map (·.length)).sum ≤ ds.length * (200 * 4 ^ n)
  | [], _ => by
    refine ⟨by simp only [PyData.showableAll], by simp only [PyData.depthAll]; omega, by simp only [PyData.shownAll]; rfl, by simp only [PyData.shownAll]; simp⟩
  | x :: r, h => by
    obtain ⟨a1, a2, a3⟩ := h x (List.mem_cons_self ..)
    obtain ⟨b1, b2, b3, b4⟩ := ok_all (ds := r) fun y hy => h y (List.mem_cons_of_mem _ hy)
    refine ⟨?_, ?_, ?_, ?_⟩
    · simp only [PyData.showableAll, a1, b1, Bool.and_self]
    · simp only [PyData.depthAll]
      omega
    · simp only [PyData.shownAll, List.length_cons, b3]
    · simp only [PyData.shownAll, List.map_cons, List.sum_cons, List.length_cons]
      rw [Nat.succ_mul]
      omega
theorem two_mul {k n : Nat} (h : k ≤ 2) : k * (200 * 4 ^ n) ≤ 2 * (200 * 4 ^ n) := Nat.mul_le_mul_right _ h
theorem ok_list {n : Nat} {ds : List PyData} (h : ∀ x ∈ ds, Ok n x) (h2 : ds.length ≤ 2) : Ok (n + 1) (.list ds) := by
  obtain ⟨b1, b2, b3, b4⟩ := ok_all h
  have := listText_len_le (PyData.shownAll ds)
  have := two_mul (n := n) h2
  have := pow_pos4 n
  refine ⟨by simp only [PyData.showable, b1], by simp only [PyData.depth]; omega, ?_⟩
  simp only [PyData.shown]
  rw [pow_s4]
  omega
theorem ok_tuple {n : Nat} {ds : List PyData} (h : ∀ x ∈ ds, Ok n x) (h2 : ds.length ≤ 2) : Ok (n + 1) (.tuple ds) := by
  obtain ⟨b1, b2, b3, b4⟩ := ok_all h
  have := tupleText_len_le (PyData.shownAll ds)
  have := two_mul (n := n) h2
  have := pow_pos4 n
  refine ⟨by simp only [PyData.showable, b1], by simp only [PyData.depth]; omega, ?_⟩
  simp only [PyData.shown]
  rw [pow_s4]
  omega
theorem ok_kvs {n : Nat} : ∀ {ds : List (PyData × PyData)}, (∀ p ∈ ds, (∃ x, p.1 = .str x ∧ Asc 19 x) ∧ Ok n p.2) → PyData.showableKv ds = true ∧ PyData.depthKv ds ≤ n ∧ (PyData.shownKv ds).length = ds.length ∧ ((PyData.shownKv ds).map (·.length)).sum ≤ ds.length * (194 + 200 * 4 ^ n)
  | [], _ => by
    refine ⟨by simp only [PyData.showableKv], by simp only [PyData.depthKv]; omega, by simp only [PyData.shownKv]; rfl, by simp only [PyData.shownKv]; simp⟩
  | (kx, x) :: r, h => by
    obtain ⟨⟨y, e, hy⟩, a1, a2, a3⟩ := h (kx, x) (List.mem_cons_self ..)
    obtain ⟨b1, b2, b3, b4⟩ := ok_kvs (ds := r) fun y hy => h y (List.mem_cons_of_mem _ hy)
    have e : kx = .str y := e
    subst e
    have a1 : x.showable = true := a1
    have a2 : x.depth ≤ n := a2
    have a3 : x.shown.length ≤ 200 * 4 ^ n := a3
    have hy' := hy.shown
    refine ⟨?_, ?_, ?_, ?_⟩
    · simp only [PyData.showableKv, PyData.showable, a1, b1, Bool.and_self]
    · simp only [PyData.depthKv, PyData.depth]
      omega
    · simp only [PyData.shownKv, List.length_cons, b3]
    · simp only [PyData.shownKv, List.map_cons, List.sum_cons, List.length_cons, PyData.shown]
      rw [strLen_append, strLen_append, Nat.succ_mul]
      have e2 : ((": " : String) : Str).length = 2 := rfl
      omega
theorem ok_dict {n : Nat} {ds : List (PyData × PyData)} (h : ∀ p ∈ ds, (∃ x, p.1 = .str x ∧ Asc 19 x) ∧ Ok n p.2) (h2 : ds.length ≤ 2) : Ok (n + 1) (.dict ds) := by
  obtain ⟨b1, b2, b3, b4⟩ := ok_kvs h
  have := dictText_len_le (PyData.shownKv ds)
  have : ds.length * (194 + 200 * 4 ^ n) ≤ 2 * (194 + 200 * 4 ^ n) := Nat.mul_le_mul_right _ h2
  have := pow_pos4 n
  refine ⟨by simp only [PyData.showable, b1], by simp only [PyData.depth]; omega, ?_⟩
  simp only [PyData.shown]
  rw [pow_s4]
  omega
/-! ## keys '0', '1', .. -/
def tagS (n : Nat) : Str := ((toString (n : Int) : String) : Str)
def tags : Nat → List V → List (Key × V)
  | _, [] => []
  | n, v :: r => ((Sum.inr (tagS n) : Key), v) :: tags (n + 1) r
def tagD : Nat → List PyData → List (PyData × PyData)
  | _, [] => []
  | n, d :: r => (.str (tagS n), d) :: tagD (n + 1) r
theorem tags_snoc : ∀ (vs : List V) (n : Nat) (v : V), tags n (vs ++ [v]) = tags n vs ++ [((Sum.inr (tagS (n + vs.length)) : Key), v)]
  | [], n, v => rfl
  | w :: r, n, v => by
    have e : n + 1 + r.length = n + (w :: r).length := by rw [List.length_cons]; omega
    show (_, w) :: tags (n + 1) (r ++ [v]) = (_, w) :: (tags (n + 1) r ++ _)
    rw [tags_snoc r (n + 1) v, e]
theorem tags_dr {H : Hp} : ∀ {vs : List V} {ds : List PyData} (n : Nat), DrAll H vs ds → DrKv H (tags n vs) (tagD n ds)
  | _, _, _, .nil => .nil
  | _, _, n, .cons e r => .cons e (tags_dr (n + 1) r)
theorem tagD_len : ∀ (ds : List PyData) (n : Nat), (tagD n ds).length = ds.length
  | [], _ => rfl
  | _ :: r, n => by show (tagD (n + 1) r).length + 1 = r.length + 1; rw [tagD_len r]
theorem tag_asc {n : Nat} (h : n < 10) : Asc 19 (tagS n) := by
  have : n = 0 ∨ n = 1 ∨ n = 2 ∨ n = 3 ∨ n = 4 ∨ n = 5 ∨ n = 6 ∨ n = 7 ∨ n = 8 ∨ n = 9 := by omega
  rcases this with rfl | rfl | rfl | rfl | rfl | rfl | rfl | rfl | rfl | rfl <;> exact ⟨by decide +kernel, by decide +kernel⟩
theorem tagD_ok {m : Nat} : ∀ {ds : List PyData} (n : Nat), n + ds.length ≤ 9 → (∀ x ∈ ds, Ok m x) → ∀ p ∈ tagD n ds, (∃ x, p.1 = .str x ∧ Asc 19 x) ∧ Ok m p.2
  | [], _, _, _, p, hp => by cases hp
  | d :: r, n, hn, h, p, hp => by
    rw [List.length_cons] at hn
    rcases List.mem_cons.mp hp with e | hp
    · subst e
      exact ⟨⟨_, rfl, tag_asc (by omega)⟩, h d (List.mem_cons_self ..)⟩
    · exact tagD_ok (n + 1) (by omega) (fun x hx => h x (List.mem_cons_of_mem _ hx)) p hp
theorem tags_merge {vs : List V} (h : vs.length ≤ 2) : mergeK [] (tags 0 vs) = tags 0 vs := by
  match vs, h with
  | [], _ => rfl
  | [a], _ => rfl
  | [a, b], _ =>
    have n01 : ¬ (Sum.inr (tagS 0) : Key) = Sum.inr (tagS 1) := by decide +kernel
    show putK (putK [] (Sum.inr (tagS 0) : Key) a) (Sum.inr (tagS 1) : Key) b = [((Sum.inr (tagS 0) : Key), a), ((Sum.inr (tagS 1) : Key), b)]
    have e1 : putK [] (Sum.inr (tagS 0) : Key) a = [((Sum.inr (tagS 0) : Key), a)] := rfl
    rw [e1]
    exact putK_new b ((valV_neg n01).trans valV_nil)
/-- .. and a text is made of signs below 128 -/
def OkT (n : Nat) (x : PyData) : Prop := Ok n x ∧ ∀ s, x = .str s → Asc 19 s
theorem okT_of {n : Nat} {x : PyData} (h : Ok n x) (k : ∀ s, x ≠ .str s) : OkT n x := ⟨h, fun s e => absurd e (k s)⟩
theorem okT_str {n : Nat} {x : Str} (h : Asc 19 x) : OkT n (.str x) := ⟨ok_str h, fun s e => by cases e; exact h⟩
/-! ## the type of a value -/
def Ext (H H' : Hp) : Prop := ∀ a o, H a = some o → H' a = some o
theorem Ext.refl {H : Hp} : Ext H H := fun _ _ e => e
theorem Ext.trans {H H' H2 : Hp} (h : Ext H H') (k : Ext H' H2) : Ext H H2 := fun a o e => k a o (h a o e)
theorem Ext.new {H : Hp} {p : Addr} {o : HO} (h : H p = none) : Ext H (upd H p o) := fun a u e => new_same h a u e
inductive TyT (H : Hp) : V → String → Prop
  | non : TyT H .non "NoneType"
  | bl (b : Bool) : TyT H (.bl b) "bool"
  | int (i : Int) : TyT H (.int i) "int"
  | str (x : Str) : TyT H (.str x) "str"
  | lst {a : Addr} {xs : List V} : H a = some (.lst xs) → TyT H (.ref a) "list"
  | tup {a : Addr} {xs : List V} : H a = some (.tup xs) → TyT H (.ref a) "tuple"
  | dct {a : Addr} {kvs : List (Key × V)} : H a = some (.dK kvs) → TyT H (.ref a) "dict"
theorem TyT.x {K : PySem.W.Frag} {H : Hp} {v : V} {T : String} (h : TyT H v T) : TyX K H v (.type T) := by
  cases h with
  | non => exact .base .non
  | bl b => exact .base (.bl b)
  | int i => exact .base (.int i)
  | str x => exact .base (.str x)
  | lst e => exact .base (.lst e)
  | tup e => exact .base (.tup e)
  | dct e => exact .base (.dK e)
theorem TyT.ext {H H' : Hp} {v : V} {T : String} (h : TyT H v T) (k : Ext H H') : TyT H' v T := by
  cases h with
  | non => exact .non
  | bl b => exact .bl b
  | int i => exact .int i
  | str x => exact .str x
  | lst e => exact .lst (k _ _ e)
  | tup e => exact .tup (k _ _ e)
  | dct e => exact .dct (k _ _ e)
theorem dr_ty {H : Hp} {v : V} {x : PyData} (h : Dr H v x) : (∃ s, v = .str s ∧ x = .str s) ∨ (∃ i, v = .int i) ∨ (TyT H v "NoneType" ∨ TyT H v "bool" ∨ TyT H v "list" ∨ TyT H v "tuple" ∨ TyT H v "dict") := by
  cases h with
  | non => exact .inr (.inr (.inl .non))
  | bl b => exact .inr (.inr (.inr (.inl (.bl b))))
  | int i => exact .inr (.inl ⟨i, rfl⟩)
  | str x => exact .inl ⟨x, rfl, rfl⟩
  | lst e _ => exact .inr (.inr (.inr (.inr (.inl (.lst e)))))
  | tup e _ => exact .inr (.inr (.inr (.inr (.inr (.inl (.tup e))))))
  | dct e _ => exact .inr (.inr (.inr (.inr (.inr (.inr (.dct e))))))
/-- isinstance of a value whose type is told -/
theorem isi_ty {K : PySem.W.Frag} {H : Hp} {v : V} {T U : String} {r : Bool} {Q : VK} (h : TyT H v T) (k : kitB T U = some r) (q : Q (.bl r) H) : rIsi K [v, .ty U] H Q :=
  ⟨v, .ty U, .type T, .type U, r, rfl, .ty U, h.x, kit_ty k, q⟩
/-! ## what a name is, what an amount is -/
def letters : Str := "abcdefghijklmnopqrstuvwxyz"
def isL (c : Nat) : Bool := decide (c ∈ letters.cps.toList)
def nameOk (x : Str) : Bool := decide (1 ≤ x.length) && (decide (x.length ≤ 8) && x.cps.toList.all isL)
def amtOk (i : Int) : Bool := decide (1 ≤ i) && decide (i ≤ 1000000000)
def NameV (H : Hp) (v : V) (r : Bool) : Prop := (∃ x, v = .str x ∧ Asc 19 x ∧ r = nameOk x) ∨ (r = false ∧ (TyT H v "NoneType" ∨ TyT H v "bool" ∨ TyT H v "int" ∨ TyT H v "list" ∨ TyT H v "tuple" ∨ TyT H v "dict"))
def AmtV (H : Hp) (v : V) (r : Bool) : Prop := (∃ i, v = .int i ∧ r = amtOk i) ∨ (r = false ∧ (TyT H v "NoneType" ∨ TyT H v "bool" ∨ TyT H v "str" ∨ TyT H v "list" ∨ TyT H v "tuple" ∨ TyT H v "dict"))
def spName : Sp := fun vs H Q _ => ∃ v r, vs = [v] ∧ NameV H v r ∧ ∀ H', Ext H H' → Q (.bl r) H'
def spAmt : Sp := fun vs H Q _ => ∃ v r, vs = [v] ∧ AmtV H v r ∧ ∀ H', Ext H H' → Q (.bl r) H'
theorem NameV.ext {H H' : Hp} {v : V} {r : Bool} (h : NameV H v r) (k : Ext H H') : NameV H' v r := by
  rcases h with h | ⟨e, h⟩
  · exact .inl h
  · refine .inr ⟨e, ?_⟩
    rcases h with h | h | h | h | h | h
    · exact .inl (h.ext k)
    · exact .inr (.inl (h.ext k))
    · exact .inr (.inr (.inl (h.ext k)))
    · exact .inr (.inr (.inr (.inl (h.ext k))))
    · exact .inr (.inr (.inr (.inr (.inl (h.ext k)))))
    · exact .inr (.inr (.inr (.inr (.inr (h.ext k)))))
theorem AmtV.ext {H H' : Hp} {v : V} {r : Bool} (h : AmtV H v r) (k : Ext H H') : AmtV H' v r := by
  rcases h with h | ⟨e, h⟩
  · exact .inl h
  · refine .inr ⟨e, ?_⟩
    rcases h with h | h | h | h | h | h
    · exact .inl (h.ext k)
    · exact .inr (.inl (h.ext k))
    · exact .inr (.inr (.inl (h.ext k)))
    · exact .inr (.inr (.inr (.inl (h.ext k))))
    · exact .inr (.inr (.inr (.inr (.inl (h.ext k)))))
    · exact .inr (.inr (.inr (.inr (.inr (h.ext k)))))
theorem dr_judged {H : Hp} {v : V} {x : PyData} {n : Nat} (h : Dr H v x) (k : OkT n x) : (∃ r, NameV H v r) ∧ ∃ r, AmtV H v r := by
  rcases dr_ty h with ⟨s, rfl, rfl⟩ | ⟨i, rfl⟩ | h | h | h | h | h
  · exact ⟨⟨_, .inl ⟨s, rfl, k.2 s rfl, rfl⟩⟩, ⟨false, .inr ⟨rfl, .inr (.inr (.inl (.str s)))⟩⟩⟩
  · exact ⟨⟨false, .inr ⟨rfl, .inr (.inr (.inl (.int i)))⟩⟩, ⟨_, .inl ⟨i, rfl, rfl⟩⟩⟩
  · exact ⟨⟨false, .inr ⟨rfl, .inl h⟩⟩, ⟨false, .inr ⟨rfl, .inl h⟩⟩⟩
  · exact ⟨⟨false, .inr ⟨rfl, .inr (.inl h)⟩⟩, ⟨false, .inr ⟨rfl, .inr (.inl h)⟩⟩⟩
  · exact ⟨⟨false, .inr ⟨rfl, .inr (.inr (.inr (.inl h)))⟩⟩, ⟨false, .inr ⟨rfl, .inr (.inr (.inr (.inl h)))⟩⟩⟩
  · exact ⟨⟨false, .inr ⟨rfl, .inr (.inr (.inr (.inr (.inl h))))⟩⟩, ⟨false, .inr ⟨rfl, .inr (.inr (.inr (.inr (.inl h))))⟩⟩⟩
  · exact ⟨⟨false, .inr ⟨rfl, .inr (.inr (.inr (.inr (.inr h))))⟩⟩, ⟨false, .inr ⟨rfl, .inr (.inr (.inr (.inr (.inr h))))⟩⟩⟩
end Gk

set_option Elab.async false
set_option linter.all false
set_option maxRecDepth 100000
set_option maxHeartbeats 4000000
/-! rules for objects: static methods, keywords of a method, == and != by an own __eq__, tuple(dict) -/
namespace Go
open PySem PySem.Spec PyProof.Rows L2 Gn Gr Gk
section
variable {X : Cx} {CX : CXT} {k n : Nat} {C f g p : Addr} {mc : Value} {fd : FuncData} {ps ks : List Str} {sp : Sp} {E : XK} {o e : Expr} {es : List Expr} {kws : List Keyword} {m : Str} {pos apos : Pos} {ta : TE} {t tk : TA} {pl : Sem Bool} {gg : List Value → List Value → List Value} {gV : List V → List V → List V}
/-! ### a static method, through its class -/
structure SMet (K : PySem.W.Frag) (C : Addr) (mc : Value) (m : Str) (p g : Addr) : Prop where
  at_ : PySem.W.findCls K (.ref C) mc m = some (.get (.builtin "staticmethod.__get__") (.ref p) .none (.ref C))
  rc : ∃ rest, PySem.W.recIn K p "staticmethod" = some (.ref g :: rest)
theorem getsm_ok {pins : List (Addr × Obj)} {σ : L2.St} {H : Hp} {s : Shared} {A : Around} {E : Value → Shared → Prop} {Q : Value × List Value → Shared → Prop} (I : Inv X pins σ H s) (r : ClX.CRead X.K C mc) (c : SMet X.K C mc m p g)
    (h : ∀ s', Inv X pins σ H s' → Q (.ref g, []) s') : wpAny (model X.prog X.w) A (getMethod (.ref C) m pl) Q E s := by
  obtain ⟨rest, hp⟩ := c.rc
  refine PySem.W.method_cls I.kIn r.ga (PySem.W.cls_bind I.kIn r.rd c.at_ (wpAny_call (PySem.W.sm_get (s := { s with toks := s.toks + 1 }) I.kIn hp (PySem.W.handed_on rfl ?_))))
  exact h _ (I.tok _)
def tSMeth (C : Addr) (sp : Sp) (E : XK) (ta : TE) (t : TA) : TE := fun σ H Q => ta σ H fun x H1 => x = .ref C ∧ t σ H1 fun vs H2 => sp vs H2 Q E
theorem pe_smeth (he : PE X o ta) (r : ClX.CRead X.K C mc) (c : SMet X.K C mc m p g) (hk : PySem.W.keepIn X.K (.ref g) = true) (F : FnOk X.prog X.w X.K X.mg X.base CX k g fd ps sp) (hr : Room k X.A) (hb : Binds X.K fd ps []) (hx : Passes CX X E) (ha : PA X (e :: es) t)
    (hst : starEach (e :: es) X.env = (false, eval e X.env) :: starEach es X.env := by rfl) (hpl : (backTo pos (starEach es X.env)).any (·.1) = false := by rfl)
    (ht : eval (.Call (.Attribute o m apos) (e :: es) [] pos) X.env = (do
      let ov ← eval o X.env
      standAt apos.atName
      let (f, first) ← holding [ov] (getMethod ov m pl)
      callWith pos f first (backTo pos (starEach (e :: es) X.env)) (backToKw pos (keywordEach [] X.env))) := by rfl) :
    PE X (.Call (.Attribute o m apos) (e :: es) [] pos) (tSMeth C sp E ta t) := by
  refine ⟨fun pins s σ H Q I h => ?_⟩
  refine PySem.W.methodCall_KW (pl := pl) (thn (he.run pins s σ H _ I h) fun u s1 ⟨x, H1, I1, rx, ex, q⟩ => ?_) ht
  subst ex
  obtain rfl : u = Value.ref C := rx
  refine getsm_ok I1 r c fun s2 I2 => ?_
  refine PySem.W.callWith_K (first := []) (h₀ := X.base) I2.ok.mod.kin hk (thn (ha.run pos pins s2 σ H1 _ I2 q) fun us s3 ⟨vs, H2, I3, rv, q2⟩ => ⟨I3.kIn, ?_⟩) hst hpl
  exact run_fn (us := us) (vs := vs) (dvs := []) F hr hb .nil hx I3 rv (by rw [List.append_nil]; exact q2)
def tSMethK (C : Addr) (sp : Sp) (gV : List V → List V → List V) (E : XK) (ta : TE) (tk : TA) : TE := fun σ H Q => ta σ H fun x H1 => x = .ref C ∧ tk σ H1 fun zs H2 => sp (gV [] zs) H2 Q E
theorem pe_smethK (he : PE X o ta) (r : ClX.CRead X.K C mc) (c : SMet X.K C mc m p g) (hk : PySem.W.keepIn X.K (.ref g) = true) (F : FnOk X.prog X.w X.K X.mg X.base CX k g fd ps sp) (hr : Room k X.A) (hb : KBinds X.K fd ps ks gg gV) (hx : Passes CX X E) (hkw : PK X kws tk)
    (hall : (backToKw pos (keywordEach kws X.env)).all (·.1.isSome) = true := by rfl) (hks : (backToKw pos (keywordEach kws X.env)).filterMap (·.1) = ks := by rfl)
    (hpl : ((backTo pos (starEach [] X.env)).any (·.1) || (backToKw pos (keywordEach kws X.env)).any (·.1.isNone)) = false := by rfl)
    (ht : eval (.Call (.Attribute o m apos) [] kws pos) X.env = (do
      let ov ← eval o X.env
      standAt apos.atName
      let (f, first) ← holding [ov] (getMethod ov m pl)
      callWith pos f first (backTo pos (starEach [] X.env)) (backToKw pos (keywordEach kws X.env))) := by rfl) :
    PE X (.Call (.Attribute o m apos) [] kws pos) (tSMethK C sp gV E ta tk) := by
  refine ⟨fun pins s σ H Q I h => ?_⟩
  refine PySem.W.methodCall_KW (pl := pl) (thn (he.run pins s σ H _ I h) fun u s1 ⟨x, H1, I1, rx, ex, q⟩ => ?_) ht
  subst ex
  obtain rfl : u = Value.ref C := rx
  refine getsm_ok I1 r c fun s2 I2 => ?_
  refine PySem.W.callWith_KW0 (first := []) (h₀ := X.base) I2.ok.mod.kin hk hall ?_ hpl
  refine thn (hkw.run pos pins s2 σ H1 _ I2 q) fun ws s3 ⟨zs, H2, I3, rz, q2⟩ => ⟨I3.kIn, ?_⟩
  rw [hks]
  exact run_fnk (us := []) (vs := []) F hr hb hx I3 .nil rz q2
/-! ### o.m(k = v) -/
def tMethK (C : Addr) (m : Str) (sp : Sp) (gV : List V → List V → List V) (E : XK) (ta : TE) (tk : TA) : TE := fun σ H Q => ta σ H fun x H1 => ∃ a dx fs, x = .ref a ∧ H1 a = some (.ins C dx fs) ∧ fs.lookup m = none ∧ tk σ H1 fun zs H2 => sp (gV [x] zs) H2 Q E
theorem pe_methK (he : PE X o ta) (c : Cls X.K C) (hm : Meth X.K C m f) (F : FnOk X.prog X.w X.K X.mg X.base CX k f fd ps sp) (hr : Room k X.A) (hb : KBinds X.K fd ps ks gg gV) (hx : Passes CX X E) (hkw : PK X kws tk)
    (hall : (backToKw pos (keywordEach kws X.env)).all (·.1.isSome) = true := by rfl) (hks : (backToKw pos (keywordEach kws X.env)).filterMap (·.1) = ks := by rfl)
    (hpl : ((backTo pos (starEach [] X.env)).any (·.1) || (backToKw pos (keywordEach kws X.env)).any (·.1.isNone)) = false := by rfl)
    (ht : eval (.Call (.Attribute o m apos) [] kws pos) X.env = (do
      let ov ← eval o X.env
      standAt apos.atName
      let (f, first) ← holding [ov] (getMethod ov m pl)
      callWith pos f first (backTo pos (starEach [] X.env)) (backToKw pos (keywordEach kws X.env))) := by rfl) :
    PE X (.Call (.Attribute o m apos) [] kws pos) (tMethK C m sp gV E ta tk) := by
  refine ⟨fun pins s σ H Q I h => ?_⟩
  refine PySem.W.methodCall_KW (pl := pl) (thn (he.run pins s σ H _ I h) fun u s1 ⟨x, H1, I1, rx, a, dx, fs, ex, ea, l, q⟩ => ?_) ht
  subst ex
  obtain rfl : u = Value.ref a := rx
  refine getmeth_ok I1 ea c hm l ?_
  refine PySem.W.callWith_KW0 (first := [.ref a]) (h₀ := X.base) I1.ok.mod.kin hm.kp hall ?_ hpl
  refine thn (hkw.run pos pins s1 σ H1 _ I1 q) fun ws s3 ⟨zs, H2, I3, rz, q2⟩ => ⟨I3.kIn, ?_⟩
  rw [hks]
  exact run_fnk (us := [.ref a]) (vs := [.ref a]) F hr hb hx I3 (.cons rfl .nil) rz q2
/-! ### == and != by an own __eq__ -/
/-- the own __eq__ at f of the class at C; no __ne__ besides object's -/
structure OwnE (K : PySem.W.Frag) (C f : Addr) : Prop where
  eq : PySem.W.findIn K (.ref C) "__eq__" = some (some (.ref f))
  fn : PySem.W.isFn K (.ref f) = true
  cls : ∃ nm q N bs hdct sn sub ab col dd k0 k1 k2 k3 k5 newId, K.lookup C = some (excClassObj nm q C N bs [.type "object"] hdct sn sub ab col dd k0 k1 k2 k3 k5 newId) ∧ PySem.W.nsOkIn K N = true ∧ PySem.W.nsIn K N "__eq__" = some (some (.ref f)) ∧ PySem.W.nsIn K N "__ne__" = some none
  ob : ∃ of : Obj, K.lookup f = some of ∧ of.cls = .type "function"
/-- two instances of the class; the own == is asked -/
def rOwn (C : Addr) (sp : Sp) (E : XK) (neg : Bool) : R2 := fun x y H Q => ∃ a b dx dy fs gs, x = .ref a ∧ y = .ref b ∧ H a = some (.ins C dx fs) ∧ H b = some (.ins C dy gs) ∧ sp [.ref a, .ref b] H (fun v H' => ∃ r, v = .bl r ∧ Q (.bl (if neg then !r else r)) H') E
theorem op_eqO (F : FnOk X.prog X.w X.K X.mg X.base CX n f fd ps sp) (hr : Room n X.A) (w : OwnE X.K C f) (hb : Binds X.K fd ps []) (hx : Passes CX X E) : OpR X (compareOp .Eq) (rOwn C sp E false) := by
  intro pins s σ H x y v u Q I rx ry h
  obtain ⟨a, b, dx, dy, fs, gs, rfl, rfl, ha, hb', hs⟩ := h
  cases rx
  cases ry
  obtain ⟨mA, O1, _⟩ := ins_get I.hok ha
  obtain ⟨mB, O2, _⟩ := ins_get I.hok hb'
  obtain ⟨od, J, _⟩ := O1.look
  obtain ⟨od', J', _⟩ := O2.look
  obtain ⟨m, hF⟩ := I.fr
  show wpAny (model X.prog X.w) X.A (richCompare .Eq (.ref a) (.ref b)) (EP X pins σ Q) X.xe s
  refine PySem.W.cmp_K (op := .Eq) (tb := .ref C) hr.units0 hF I.ok.mod.kin J J'.type (by simp [PySem.W.notFirst]) w.eq w.fn ?_
  refine thn (run_fn (us := [.ref a, .ref b]) (vs := [.ref a, .ref b]) (dvs := []) F hr hb .nil hx I (.cons rfl (.cons rfl .nil)) (by rw [List.append_nil]; exact hs)) fun r s' hq => ?_
  obtain ⟨z, H', I', rz, c, rfl, q⟩ := hq
  cases rz
  exact ⟨.bl c, H', I', rfl, q⟩
theorem ns_has {K : PySem.W.Frag} {h : Heap} {N : Addr} {m : Str → Option Value} {x : Str} {v : Value} (X : K.In h) (G : h.Ns N m) (e : PySem.W.nsIn K N x = some (some v)) : m x = some v := by
  obtain ⟨o, es, ep, ho, hd, _, hf⟩ := G
  rw [← hf]
  unfold PySem.W.nsIn at e
  cases q : K.lookup N with
  | none => rw [q] at e; cases e
  | some ob =>
    have z := X _ _ q
    rw [ho] at z
    cases z
    rw [q] at e
    obtain ⟨c, dd, dt, sl⟩ := o
    have hd : dt = .dict es ep := hd
    subst hd
    simp only at e
    unfold nsFind findBy
    rw [← Array.find?_toList]
    split at e
    · rename_i en he
      rw [he]
      cases e
      rfl
    · split at e <;> cases e
theorem eq_obj : ∃ y : Option Value, typeLookup (.type "object") "__eq__" = pure y := ⟨_, PySem.F.slot_object_eq.lookup⟩
theorem op_neO (F : FnOk X.prog X.w X.K X.mg X.base CX n f fd ps sp) (hr : Room (n + 1) X.A) (w : OwnE X.K C f) (hb : Binds X.K fd ps []) (hx : ∀ (pins : List (Addr × Obj)) (σ : L2.St) (H : Hp) (s : Shared) (e : Value) (s' : Shared), Inv X pins σ H s → CX X.stack H s E e s' → X.xe e s') : OpR X (compareOp .NotEq) (rOwn C sp E true) := by
  intro pins s σ H x y v u Q I rx ry h
  obtain ⟨a, b, dx, dy, fs, gs, rfl, rfl, ha, hb', hs⟩ := h
  cases rx
  cases ry
  obtain ⟨mA, O1, _⟩ := ins_get I.hok ha
  obtain ⟨mB, O2, _⟩ := ins_get I.hok hb'
  obtain ⟨nm, q, N, bs, hdct, sn, sub, ab, col, dd, k0, k1, k2, k3, k5, newId, hC, hN, he, hn⟩ := w.cls
  obtain ⟨of, ho, hoc⟩ := w.ob
  obtain ⟨yv, hy⟩ := eq_obj
  have G : s.heap.Ns N (s.heap.nsMap N) := .of_isNs (PySem.W.isNs_of_in I.kIn hN)
  have hl : ([Value.ref a, Value.ref b] ++ []).length = ps.length := by
    have := F.len _ _ _ _ hs
    simpa using this
  obtain ⟨_, _, _, ea, _⟩ := (show ObjOk X.prog X.w H s.heap a (.ins C dx fs) from I.hok a _ ha)
  obtain ⟨_, _, _, eb, _⟩ := (show ObjOk X.prog X.w H s.heap b (.ins C dy gs) from I.hok b _ hb')
  have W : s.heap.OwnEqNoNe a C f "object" [.type "object"] :=
    ⟨_, of, nm, q, N, bs, hdct, sn, sub, ab, col, dd, k0, k1, k2, k3, k5, newId, s.heap.nsMap N, yv, ea, rfl, I.kIn _ _ hC, G, ns_has I.kIn G he, I.kIn _ _ ho, hoc, PySem.F.cmp_object.mro, hy, PySem.W.ns_none_of I.kIn G hn⟩
  have hbind : BindsTo s fd ⟨[.ref a, .ref b], []⟩ (ps.zip [.ref a, .ref b]) := hb s [.ref a, .ref b] I.kIn hl
  have run := F.run X.A.in1 X.stack s H ⟨[.ref a, .ref b], []⟩ [.ref a, .ref b] [.ref a, .ref b] _ E (hr.in1) I.env0.in1 hbind (.cons rfl (.cons rfl .nil)) hs
  obtain ⟨hp, g, d, tk, os⟩ := s
  refine compareOp_ne_ownEq PySem.F.cmp_object W eb rfl (by have := hr.units; omega) (wpAny_call (codeAny_mono run fun r s' hq => ?_))
  cases r with
  | error e => exact hx pins σ H _ e s' I hq
  | ok fl =>
    cases fl with
    | ret u =>
      obtain ⟨z, H', I', rz, c, rfl, q⟩ := I.after hq
      cases rz
      exact ⟨c, rfl, .bl (!c), H', I', rfl, q⟩
    | next => exact False.elim hq
    | brk => exact False.elim hq
    | cont => exact False.elim hq
end
end Go

set_option Elab.async false
set_option linter.all false
set_option maxRecDepth 100000
set_option maxHeartbeats 4000000
/-! forests as data: rows, their text, what is a forest -/
namespace Gf
open PySem PySem.Spec PyProof.Rows L2 TL Gn Gr Gk
abbrev FRow := Str × Option Str
def parV : Option Str → V
  | none => .non
  | some m => .str m
def kvOf (r : FRow) : Key × V := (Sum.inr r.1, parV r.2)
def wordsOf : FRow → List Str
  | (n, none) => ["account", n]
  | (n, some m) => ["account", n, "in", m]
def lineOf (r : FRow) : Str := Txt.join " " (wordsOf r)
def textOf (rs : List FRow) : Str := Txt.join "\n" (rs.map lineOf ++ [Str.empty])
def fNames (rs : List FRow) : List Str := rs.map (·.1)
/-- the row may stand behind these names -/
def RowOk (E : List Str) (r : FRow) : Prop := nameOk r.1 = true ∧ r.1 ∉ E ∧ ∀ m, r.2 = some m → m ∈ E
def GoodF : List Str → List FRow → Prop
  | _, [] => True
  | E, r :: rs => RowOk E r ∧ GoodF (E ++ [r.1]) rs
theorem good_at : ∀ {rs : List FRow} {E : List Str} {i : Nat} {r : FRow}, GoodF E rs → rs[i]? = some r → RowOk (E ++ fNames (rs.take i)) r
  | [], _, _, _, _, h => by simp at h
  | x :: rs, E, 0, r, g, h => by
    simp only [List.getElem?_cons_zero, Option.some.injEq] at h
    subst h
    simpa [fNames] using g.1
  | x :: rs, E, i + 1, r, g, h => by
    have q := good_at g.2 (show rs[i]? = some r by simpa using h)
    simpa [fNames, List.append_assoc] using q
theorem good_snoc : ∀ {rs : List FRow} {E : List Str} {r : FRow}, GoodF E rs → RowOk (E ++ fNames rs) r → GoodF E (rs ++ [r])
  | [], E, r, g, h => ⟨by simpa [fNames] using h, trivial⟩
  | x :: rs, E, r, g, h => ⟨g.1, good_snoc g.2 (by simpa [fNames, List.append_assoc] using h)⟩
theorem names_take (rs : List FRow) (i : Nat) : fNames (rs.take i) = (fNames rs).take i := by unfold fNames; rw [List.map_take]
theorem good_mem {rs : List FRow} (g : GoodF [] rs) {r : FRow} (h : r ∈ rs) : nameOk r.1 = true ∧ ∀ m, r.2 = some m → m ∈ fNames rs ∧ nameOk m = true := by
  obtain ⟨i, hi⟩ := List.mem_iff_getElem?.mp h
  have q := good_at g hi
  rw [List.nil_append] at q
  have nm : ∀ m, m ∈ fNames rs → nameOk m = true := by
    intro m hm
    obtain ⟨z, hz, rfl⟩ := List.mem_map.mp hm
    obtain ⟨j, hj⟩ := List.mem_iff_getElem?.mp hz
    exact (good_at g hj).1
  refine ⟨q.1, fun m hm => ?_⟩
  have z := q.2.2 m hm
  rw [names_take] at z
  have z2 := List.mem_of_mem_take z
  exact ⟨z2, nm m z2⟩
theorem good_nodup : ∀ {rs : List FRow} {E : List Str}, GoodF E rs → (fNames rs).Nodup ∧ ∀ n ∈ fNames rs, n ∉ E
  | [], _, _ => by simp [fNames]
  | x :: rs, E, g => by
    obtain ⟨a, b⟩ := good_nodup g.2
    constructor
    · show (x.1 :: fNames rs).Nodup
      refine List.nodup_cons.mpr ⟨fun h => ?_, a⟩
      exact b _ h (by simp)
    · intro n hn
      rcases List.mem_cons.mp (show n ∈ x.1 :: fNames rs from hn) with rfl | h
      · exact g.1.2.1
      · exact fun z => b n h (by simp [z])
/-! names -/
theorem name_len {x : Str} (h : nameOk x = true) : 1 ≤ x.length ∧ x.length ≤ 8 := by
  unfold nameOk at h
  simp only [Bool.and_eq_true, decide_eq_true_eq] at h
  exact ⟨h.1, h.2.1⟩
theorem letters_lo : ∀ c ∈ letters.cps.toList, 96 < c ∧ c < 123 := by decide +kernel
theorem name_cps {x : Str} (h : nameOk x = true) : ∀ c ∈ x.cps.toList, 96 < c ∧ c < 123 := by
  unfold nameOk at h
  simp only [Bool.and_eq_true, decide_eq_true_eq] at h
  intro c hc
  have := List.all_eq_true.mp h.2.2 c hc
  exact letters_lo c (by simpa [isL] using this)
theorem name_asc {x : Str} (h : nameOk x = true) : Asc 8 x := ⟨(name_len h).2, fun c hc => by have := name_cps h c hc; omega⟩
theorem name_asc19 {x : Str} (h : nameOk x = true) : Asc 19 x := (name_asc h).mono (by decide)
/-! lines and texts -/
theorem tl_def (x : Str) : tl x = x.cps.toList := rfl
theorem sp_tl : tl (" " : Str) = [32] := by decide +kernel
theorem nl_tl : tl ("\n" : Str) = [10] := by decide +kernel
theorem e_tl : tl Str.empty = [] := rfl
theorem e_eq : (("" : String) : Str) = Str.empty := ext_tl (by decide +kernel)
theorem acc_tl : tl ("account" : Str) = [97, 99, 99, 111, 117, 110, 116] := by decide +kernel
theorem in_tl : tl ("in" : Str) = [105, 110] := by decide +kernel
theorem accs_tl : tl ("account " : Str) = [97, 99, 99, 111, 117, 110, 116, 32] := by decide +kernel
theorem ins_tl : tl (" in " : Str) = [32, 105, 110, 32] := by decide +kernel
def lineL : FRow → List Nat
  | (n, none) => tl ("account " : Str) ++ tl n
  | (n, some m) => tl ("account " : Str) ++ (tl n ++ (tl (" in " : Str) ++ tl m))
theorem tl_line (r : FRow) : tl (lineOf r) = lineL r := by
  obtain ⟨n, q⟩ := r
  unfold lineOf
  rw [join_eq, tl_join, sp_tl]
  cases q with
  | none =>
    show tl ("account" : Str) ++ ([32] ++ tl n) = tl ("account " : Str) ++ tl n
    rw [acc_tl, accs_tl]
    rfl
  | some m =>
    show tl ("account" : Str) ++ ([32] ++ (tl n ++ ([32] ++ (tl ("in" : Str) ++ ([32] ++ tl m))))) = tl ("account " : Str) ++ (tl n ++ (tl (" in " : Str) ++ tl m))
    rw [acc_tl, accs_tl, in_tl, ins_tl]
    rfl
theorem joinL_end (S : List Nat) : ∀ ls : List (List Nat), joinL S (ls ++ [[]]) = (ls.map (· ++ S)).flatten
  | [] => rfl
  | [p] => by
    show p ++ (S ++ []) = _
    simp
  | p :: q :: r => by
    have e := joinL_end S (q :: r)
    show p ++ (S ++ joinL S (q :: r ++ [[]])) = _
    rw [e]
    simp
theorem tl_text (rs : List FRow) : tl (textOf rs) = (rs.map fun r => lineL r ++ [10]).flatten := by
  unfold textOf
  rw [join_eq, tl_join, nl_tl, List.map_append, List.map_map]
  show joinL [10] (List.map (tl ∘ lineOf) rs ++ [[]]) = _
  rw [joinL_end, List.map_map]
  congr 1
  refine List.map_congr_left fun r _ => ?_
  show tl (lineOf r) ++ [10] = _
  rw [tl_line]
theorem text_nil : textOf [] = Str.empty := ext_tl (by rw [tl_text]; rfl)
theorem text_snoc (rs : List FRow) (r : FRow) : textOf (rs ++ [r]) = textOf rs ++ (⟨(lineL r ++ [10]).toArray⟩ : Str) := by
  refine ext_tl ?_
  rw [tl_append, tl_text, tl_text, tl_mk]
  simp
theorem word_ns {r : FRow} (h1 : nameOk r.1 = true) (h2 : ∀ m, r.2 = some m → nameOk m = true) : ∀ p ∈ wordsOf r, 32 ∉ tl p ∧ 10 ∉ tl p := by
  obtain ⟨n, q⟩ := r
  have nn : ∀ {x : Str}, nameOk x = true → 32 ∉ tl x ∧ 10 ∉ tl x := fun {x} h => ⟨fun z => by have := name_cps h _ z; omega, fun z => by have := name_cps h _ z; omega⟩
  have ha : 32 ∉ tl ("account" : Str) ∧ 10 ∉ tl ("account" : Str) := by rw [acc_tl]; decide
  have hi : 32 ∉ tl ("in" : Str) ∧ 10 ∉ tl ("in" : Str) := by rw [in_tl]; decide
  cases q with
  | none =>
    intro p hp
    simp only [wordsOf, List.mem_cons, List.not_mem_nil, or_false] at hp
    rcases hp with rfl | rfl
    · exact ha
    · exact nn h1
  | some m =>
    intro p hp
    simp only [wordsOf, List.mem_cons, List.not_mem_nil, or_false] at hp
    rcases hp with rfl | rfl | rfl | rfl
    · exact ha
    · exact nn h1
    · exact hi
    · exact nn (h2 _ rfl)
theorem wordsOf_ne (r : FRow) : wordsOf r ≠ [] := by
  obtain ⟨n, q⟩ := r
  cases q <;> simp [wordsOf]
theorem split_line {r : FRow} (h1 : nameOk r.1 = true) (h2 : ∀ m, r.2 = some m → nameOk m = true) : Txt.split (lineOf r) " " = wordsOf r :=
  split_join sp_tl (by decide +kernel) (wordsOf_ne r) fun p hp => (word_ns h1 h2 p hp).1
theorem line_nn {r : FRow} (h1 : nameOk r.1 = true) (h2 : ∀ m, r.2 = some m → nameOk m = true) : 10 ∉ tl (lineOf r) := by
  obtain ⟨n, q⟩ := r
  rw [tl_line]
  have w := word_ns h1 h2
  have a1 : 10 ∉ tl ("account " : Str) := by rw [accs_tl]; decide
  have a2 : 10 ∉ tl (" in " : Str) := by rw [ins_tl]; decide
  cases q with
  | none =>
    have wn := (w n (by simp [wordsOf])).2
    intro z
    rcases List.mem_append.mp (show 10 ∈ tl ("account " : Str) ++ tl n from z) with z | z
    · exact a1 z
    · exact wn z
  | some m =>
    have wn := (w n (by simp [wordsOf])).2
    have wm := (w m (by simp [wordsOf])).2
    intro z
    rcases List.mem_append.mp (show 10 ∈ tl ("account " : Str) ++ (tl n ++ (tl (" in " : Str) ++ tl m)) from z) with z | z
    · exact a1 z
    rcases List.mem_append.mp z with z | z
    · exact wn z
    rcases List.mem_append.mp z with z | z
    · exact a2 z
    · exact wm z
theorem split_text {rs : List FRow} (g : GoodF [] rs) : Txt.split (textOf rs) "\n" = rs.map lineOf ++ [Str.empty] := by
  refine split_join nl_tl (by decide +kernel) (by simp) fun p hp => ?_
  rcases List.mem_append.mp hp with h | h
  · obtain ⟨r, hr, rfl⟩ := List.mem_map.mp h
    obtain ⟨a, b⟩ := good_mem g hr
    exact line_nn a fun m hm => (b m hm).2
  · rw [List.mem_singleton.mp h]
    exact List.not_mem_nil
theorem line_len {r : FRow} (h1 : nameOk r.1 = true) (h2 : ∀ m, r.2 = some m → nameOk m = true) : (lineOf r).length ≤ 30 := by
  obtain ⟨n, q⟩ := r
  have l1 := (name_len h1).2
  have e : (lineOf (n, q)).length = (lineL (n, q)).length := by rw [← tl_line, tl_def, len_cps]
  rw [e]
  have ln : (tl n).length = n.length := len_cps n
  have la : (tl ("account " : Str)).length = 8 := by rw [accs_tl]; rfl
  have li : (tl (" in " : Str)).length = 4 := by rw [ins_tl]; rfl
  have l1 : n.length ≤ 8 := l1
  cases q with
  | none =>
    show (tl ("account " : Str) ++ tl n).length ≤ 30
    rw [List.length_append]
    omega
  | some m =>
    have l2 := (name_len (h2 m rfl)).2
    have lm : (tl m).length = m.length := len_cps m
    show (tl ("account " : Str) ++ (tl n ++ (tl (" in " : Str) ++ tl m))).length ≤ 30
    simp only [List.length_append]
    omega
/-- what a line of these words says -/
def readRow : List Str → Option FRow
  | [a, n] => if a = ("account" : Str) then some (n, none) else none
  | [a, n, i, m] => if a = ("account" : Str) ∧ i = ("in" : Str) then some (n, some m) else none
  | _ => none
theorem read_words (r : FRow) : readRow (wordsOf r) = some r := by
  obtain ⟨n, q⟩ := r
  cases q <;> simp [wordsOf, readRow]
/-- one text, one list of rows -/
theorem text_inj {rs rs' : List FRow} (g : GoodF [] rs) (g' : GoodF [] rs') (h : textOf rs = textOf rs') : rs = rs' := by
  have e := split_text g
  rw [h, split_text g'] at e
  have e2 : rs'.map lineOf = rs.map lineOf := List.append_cancel_right e
  have key : ∀ {rs : List FRow}, (∀ r ∈ rs, nameOk r.1 = true ∧ ∀ m, r.2 = some m → nameOk m = true) → (rs.map lineOf).map (fun l => readRow (Txt.split l " ")) = rs.map some := by
    intro rs hg
    rw [List.map_map]
    refine List.map_congr_left fun r hr => ?_
    obtain ⟨a, b⟩ := hg r hr
    show readRow (Txt.split (lineOf r) " ") = some r
    rw [split_line a b, read_words]
  have gg : ∀ {rs : List FRow}, GoodF [] rs → ∀ r ∈ rs, nameOk r.1 = true ∧ ∀ m, r.2 = some m → nameOk m = true := fun g r hr => ⟨(good_mem g hr).1, fun m hm => ((good_mem g hr).2 m hm).2⟩
  have k1 := key (gg g)
  have k2 := key (gg g')
  rw [e2, k1] at k2
  exact List.map_inj_right (fun _ _ e => Option.some.inj e) |>.mp k2
end Gf

set_option Elab.async false
set_option linter.all false
set_option maxRecDepth 100000
set_option maxHeartbeats 4000000
/-! tuple(dict), .. -/
namespace Gt
open PySem PySem.Spec PyProof.Rows L2 Gn Gr Gk Go
section
variable {prog : Program} {w : World} {A : Around} {E : Value → Shared → Prop} {s : Shared} {T : String} {r d : Addr} {n : Nat} {P : Nat → Value → Prop} {OK : Heap → Prop}
theorem collect_kdl {Q : List Value → Shared → Prop} (K : PySem.W.KdlSrc prog w T r d n P OK) (hh : A.handled = none) (hok : OK s.heap) (hn : n ≤ sizeLine)
    (hQ : ∀ (h' : Heap) (tk : Nat) (acc : Array Value), (∀ b o, s.heap.get? b = some o → h'.get? b = some o) → ItemsOf P acc n → Q acc.toList { s with heap := h', toks := tk }) :
    wpAny (model prog w) A (collect (.ref r)) Q E s := by
  unfold collect
  refine wpAny_bind (wpAny_runValue (codeAny_builtin F.entry_proto_collect ?_))
  rw [Around.under_plainId F.plain_proto_collect _]
  show wpAny _ A.in1 (newList [] >>= fun l => again (.builtin "list.__iadd__" ⟨[l, .ref r], []⟩)) _ _ s
  refine wpAny_bind (wpAny_newObj_type ?_)
  refine wpAny_pure ⟨plainId_quiet F.plain_list_iadd _, codeAny_builtin F.entry_list_iadd ?_⟩
  rw [Around.under_plainId F.plain_list_iadd _]
  show wpAny _ A.in1 (Builtin.List.listExtendWith (.ref s.heap.objs.size) (.ref r) (.ref s.heap.objs.size)) _ _ _
  have hS : (s.heap.push { cls := .type "list", data := .seq ([] : List Value).toArray }).get? s.heap.objs.size = some { cls := .type "list", data := .seq #[] 0 } := Heap.get?_push_size _ rfl
  have hlt := K.there _ hok
  refine wpAny_mono (PySem.W.kdl_extend (A := A) (R := fun rr s' => rr = .ok (.ret (.ref s.heap.objs.size)) ∧ ∃ (h' : Heap) (tk : Nat) (acc : Array Value) (c' : Nat), s' = { s with heap := h', toks := tk } ∧
      (∀ b o, s.heap.get? b = some o → h'.get? b = some o) ∧ h'.get? s.heap.objs.size = some { cls := .type "list", dict := none, data := .seq acc c', slots := #[] } ∧ ItemsOf P acc n)
    (s := { s with heap := s.heap.push { cls := .type "list", data := .seq ([] : List Value).toArray } }) K hh (K.keep _ _ hok fun b _ o e => Heap.get?_push_of_some _ e) s.heap.objs.size (Nat.ne_of_gt hlt.1) (Nat.ne_of_gt hlt.2) _ 0 hS
    (fun h' tk acc c' hk e hi => ⟨rfl, h', tk, acc, c', rfl, fun b o q => hk b o (Nat.ne_of_lt (Heap.lt_size q)) (Heap.get?_push_of_some _ q), e, hi⟩) hn) (fun fin s' h => ?_) (fun e s' h => ?_)
  · cases fin with
    | done f =>
      obtain ⟨e, h', tk, acc, c', rfl, hk, hS', hi⟩ := h
      cases e
      show wpAny _ A (load s.heap.objs.size >>= _) _ _ _
      exact wpAny_bind (wpAny_load hS' (wpAny_pure (hQ h' tk acc hk hi)))
    | again c' =>
      refine ⟨h.1, codeAny_mono h.2 fun rr s'' hr' => ?_⟩
      obtain ⟨rfl, h', tk, acc, c', rfl, hk, hS', hi⟩ := hr'
      show wpAny _ A (load s.heap.objs.size >>= _) _ _ _
      exact wpAny_bind (wpAny_load hS' (wpAny_pure (hQ h' tk acc hk hi)))
  · exact absurd h.1 (by simp)
theorem code_tuple_new_dict {Q₁ : Value → Shared → Prop} (K : PySem.W.KdlSrc prog w "dict" r d n P OK) (hh : A.handled = none) (hok : OK s.heap) (hn : n ≤ sizeLine)
    (h : ∀ (h' : Heap) (tk : Nat) (acc : Array Value), (∀ b o, s.heap.get? b = some o → h'.get? b = some o) → ItemsOf P acc n →
      Q₁ (.ref h'.objs.size) { s with heap := h'.push { cls := .type "tuple", data := .seq acc }, toks := tk }) :
    codeAny (model prog w) A (.call (.builtin "tuple.__new__") ⟨[.type "tuple", .ref r], []⟩) (wants Q₁ E) s := by
  refine codeAny_of_tree ?_
  show wpAny _ A.in1 (do checkBuiltinCall "tuple.__new__" ⟨[.type "tuple", .ref r], []⟩; again (.builtin "tuple.__new__" ⟨[.type "tuple", .ref r], []⟩)) _ _ s
  refine wpAny_bind (wpAny_of_eq (F.newCall_tuple_1 _) (wpAny_pure ⟨plainId_quiet F.plain_tuple_new _, codeAny_builtin F.entry_tuple_new ?_⟩))
  rw [Around.under_plainId F.plain_tuple_new _]
  have hsub := sub_tuple_self
  have hinit := init_tuple_lookup
  have hmh := madeHere_tuple
  have hTI : s.TypeIs (.ref r) "dict" := K.type _ hok
  have hh1 : A.in1.handled = none := hh
  wp_walk using wpAny_typeOf hTI, collect_kdl (A := A.in1) K hh1 hok hn
  intro h' tk acc hk hacc
  show wpAny _ _ (Builtin.Tuple.tupleExact acc.toList.toArray >>= fun v => ret v) _ _ _
  unfold Builtin.Tuple.tupleExact
  refine wpAny_bind (wpAny_newObj_type ?_ (by show acc.toList.toArray.size ≤ sizeLine; simp only [Array.toArray_toList]; rw [hacc.1]; exact hn))
  refine wpAny_pure ?_
  have e : acc.toList.toArray = acc := by simp
  rw [e]
  exact h h' tk acc hk hacc
theorem call_tuple_dict {Q : Value → Shared → Prop} (K : PySem.W.KdlSrc prog w "dict" r d n P OK) (hh : A.handled = none) (hok : OK s.heap) (hn : n ≤ sizeLine)
    (hQ : ∀ (h' : Heap) (tk : Nat) (acc : Array Value), (∀ b o, s.heap.get? b = some o → h'.get? b = some o) → ItemsOf P acc n →
      Q (.ref h'.objs.size) { s with heap := h'.push { cls := .type "tuple", data := .seq acc }, toks := tk }) :
    wpAny (model prog w) A (call (.type "tuple") [.ref r]) Q E s := by
  refine callType_codes (Q₁ := fun obj s₁ => s₁.TypeIs obj "tuple" ∧ Q obj s₁) F.called_tuple (F.typeCall_tuple_1 _) F.entry_object_init
    (code_tuple_new_dict (A := A.in1) K hh hok hn fun h' tk acc hk hacc => ⟨⟨_, Heap.get?_push_size _ rfl, rfl⟩, hQ h' tk acc hk hacc⟩) fun obj s₁ h₁ => ?_
  exact ⟨h₁.1, F.args_object_init_2 obj _, object_init_meets F.called_tuple.init.lookup F.called_tuple.made (by decide) prog w A.in1 _ s₁ ⟨h₁.1, rfl, h₁.2⟩⟩
end
/-- tuple(dict): a new tuple of its keys -/
def rTupD : List V → Hp → VK → Prop := fun xs H Q => ∃ p kvs, xs = [.ref p] ∧ H p = some (.dK kvs) ∧ ∀ q, H q = none → Q (.ref q) (upd H q (.tup (kvs.map fun kv => kV kv.1)))
theorem call_tuple_dK {X : Cx} (hc : X.calm = true) : CallR X (.type "tuple") rTupD := by
  intro pins s σ H xs us Q I r h
  obtain ⟨p, kvs, e, hk, q⟩ := h
  subst e
  obtain ⟨u, eu, rx⟩ := vals1 r
  subst eu
  obtain rfl : u = Value.ref p := rx
  obtain ⟨z, lo, vs, rk, hd⟩ := (show ObjOk X.prog X.w H s.heap p (.dK kvs) from I.hok p _ hk)
  obtain ⟨ep, hat⟩ := hd.dictAt
  have hl : kvs.length = vs.length := Paired.length rk
  refine call_tuple_dict (PySem.W.kdl_dict (knd := mixKind X.prog X.w) (kvs := vs) (ep := ep) lo) (I.ok.hd hc) hat (by rw [← hl]; exact z) fun h' tk acc hkeep hacc => ?_
  have I1 : Inv X pins σ H { s with heap := h' } := I.kept (t' := s.toks) hkeep
  have rr : Vals (kvs.map fun kv => kV kv.1) acc.toList := by
    have el : acc.toList.length = acc.size := by simp
    refine vals_of_at (by rw [List.length_map, el, hacc.1, hl]) fun j x w h1 h2 => ?_
    obtain ⟨k, y, hky, hi⟩ := hacc.2 j w (by rw [← Array.getElem?_toList]; exact h2)
    have e1 : (kvs.map (·.1))[j]? = some k := by
      rw [KV.keys rk, List.getElem?_map, hky] <;> rfl
    have e2 : (kvs.map fun kv => kV kv.1)[j]? = some (kV k) := by
      have e3 : (kvs.map fun kv => kV kv.1) = (kvs.map (·.1)).map kV := by rw [List.map_map] <;> rfl
      rw [e3, List.getElem?_map, e1] <;> rfl
    rw [e2] at h1
    cases h1
    exact keyIs_rel hi
  have I2 : Inv X pins σ (upd H h'.objs.size (.tup (kvs.map fun kv => kV kv.1))) { s with heap := h'.push { cls := .type "tuple", data := .seq acc }, toks := tk } :=
    I1.laid (t' := tk) (fun b o e => Heap.get?_push_of_some _ e) (Nat.le_refl _) (show ObjOk X.prog X.w _ _ _ (.tup (kvs.map fun kv => kV kv.1)) from ⟨by rw [List.length_map]; exact z, acc.toList, rr, by
      have := IsTup.new h' acc
      simpa using this⟩)
  exact ⟨.ref h'.objs.size, _, I2, rfl, q _ (I1.hok.fresh (Nat.le_refl _))⟩
/-- {k: v for ..} over a walk -/
theorem dc_it {J : It} {n : Nat} {G : Hp → Prop} {Y : Nat → Hp → V → Hp → Prop} (w : Walk J n G Y) {g : TG} {tt : TT} {tk tv : TE} {vs : List Nat} {σ : L2.St} {H1 : Hp} {D : Addr} {Qd : Hp → Prop} (Pv : Nat → Hp → Prop) (h0 : Pv 0 (upd H1 D (.dK []))) (hG : ∀ i H, i ≤ n → Pv i H → G H)
    (hs : ∀ i x H H', i < n → Pv i H → Y i H x H' → g x (wipe σ vs) H' fun σ2 H2 => wipe σ2 vs = wipe σ vs ∧ tt σ2 H2 fun b H3 =>
      if b = true then tk σ2 H3 fun y H4 => tv σ2 H4 fun z H5 => ∃ kvs k, y = kV k ∧ H5 D = some (.dK kvs) ∧ kvs.length < sizeLine ∧ Pv (i + 1) (upd H5 D (.dK (putK kvs k z))) else Pv (i + 1) H3) (hd : ∀ H, Pv n H → Qd H) :
    ∃ W : Nat → Nat → Hp → Prop, (∃ m, W 0 m (upd H1 D (.dK []))) ∧ ∀ i m H, W i m H →
      (J.stop i H ∧ Qd H) ∨ (J.go i H ∧ ∃ Nx : Hp → Prop, (∀ H', Nx H' → ∃ m', m' < m ∧ W (i + 1) m' H') ∧ ∀ x H', J.yld i H x H' → g x (wipe σ vs) H' fun σ2 H2 => wipe σ2 vs = wipe σ vs ∧ tt σ2 H2 fun b H3 =>
        if b = true then tk σ2 H3 fun y H4 => tv σ2 H4 fun z H5 => ∃ kvs k, y = kV k ∧ H5 D = some (.dK kvs) ∧ kvs.length < sizeLine ∧ Nx (upd H5 D (.dK (putK kvs k z))) else Nx H3) := by
  refine ⟨fun i m H => m = n - i ∧ i ≤ n ∧ Pv i H, ⟨n, by simp, Nat.zero_le _, h0⟩, ?_⟩
  rintro i m H ⟨rfl, hi, p⟩
  have q := hG i H hi p
  by_cases hlt : i < n
  · exact .inr ⟨w.goes i H hlt q, Pv (i + 1), fun H' p' => ⟨n - (i + 1), by omega, rfl, hlt, p'⟩, fun x H' y => hs i x H H' hlt p (w.yields i H x H' hlt q y)⟩
  · have e : i = n := by omega
    subst e
    exact .inl ⟨w.stops H q, hd H p⟩
end Gt

set_option Elab.async false
set_option linter.all false
set_option maxRecDepth 100000
set_option maxHeartbeats 4000000
/-! names and words, for any law -/
namespace Lw
open L2 hiding Ext
open PySem PySem.Spec PyProof.Rows Gn Gr Gk Go Gt Gf
theorem iteS {c A B : Prop} [Decidable c] (hc : c) (h : A) : if decide c = true then A else B := by
  rw [if_pos (decide_eq_true hc)]
  exact h
theorem iteN {c A B : Prop} [Decidable c] (hc : ¬ c) (h : B) : if decide c = true then A else B := by
  rw [if_neg (by rw [decide_eq_false hc]; exact Bool.false_ne_true)]
  exact h
theorem take_succ_map {α β : Type} {l : List α} {i : Nat} {c : α} (f : α → β) (h : l[i]? = some c) : (l.take (i + 1)).map f = (l.take i).map f ++ [f c] := by
  rw [List.take_add_one, h, List.map_append]
  rfl
theorem cps_at {z : Str} {i : Nat} {c : Nat} (h : z.cps[i]? = some c) : z.cps.toList[i]? = some c := by simpa using h
theorem cps_len (z : Str) : z.cps.toList.length = z.cps.size := by simp
theorem strs_flat (E : List Str) : (E.map V.str).all flatV = true := by
  rw [List.all_map]
  exact List.all_eq_true.mpr fun _ _ => rfl
theorem inV_strs (x : Str) (E : List Str) : inV (.str x) (E.map V.str) = decide (x ∈ E) := by
  unfold inV
  rw [List.any_map]
  induction E with
  | nil => simp
  | cons y r ih =>
    rw [List.any_cons, ih]
    show ((y == x) || _) = _
    by_cases e : y = x
    · subst e; simp
    · have e' : ¬ x = y := fun z => e z.symm
      simp [e, e']
theorem strlen (a b : Str) : (a ++ b).length = a.length + b.length := strLen_append a b
theorem sum_le {α : Type} (f : α → Nat) {b : Nat} : ∀ l : List α, (∀ x ∈ l, f x ≤ b) → (l.map f).sum ≤ l.length * b
  | [], _ => by simp
  | x :: r, h => by
    have h1 := h x (List.mem_cons_self ..)
    have h2 := sum_le f r fun y hy => h y (List.mem_cons_of_mem _ hy)
    rw [List.map_cons, List.sum_cons, List.length_cons, Nat.succ_mul]
    omega
/-! ### names -/
def lettersOnly (x : Str) : Prop := ∀ c ∈ x.cps.toList, c ∈ letters.cps.toList
theorem nameOk_of {x : Str} (h1 : 1 ≤ x.length) (h2 : x.length ≤ 8) (h : lettersOnly x) : nameOk x = true := by
  unfold nameOk
  rw [decide_eq_true h1, decide_eq_true h2, Bool.true_and, Bool.true_and]
  exact List.all_eq_true.mpr fun c hc => by simpa [isL] using h c hc
theorem lo_of {x : Str} (h : nameOk x = true) : lettersOnly x := by
  unfold nameOk at h
  simp only [Bool.and_eq_true, decide_eq_true_eq] at h
  intro c hc
  simpa [isL] using List.all_eq_true.mp h.2.2 c hc
theorem lo_app {x y : Str} (h : lettersOnly x) (k : lettersOnly y) : lettersOnly (x ++ y) := by
  intro c hc
  rw [cps_app] at hc
  exact (List.mem_append.mp hc).elim (h c) (k c)
theorem lo_cut {x : Str} (h : lettersOnly x) (lo hi : Option Int) : lettersOnly (cutS x lo hi) := by
  intro c hc
  unfold cutS at hc
  exact h c (List.mem_of_mem_drop (List.mem_of_mem_take (by simpa using hc)))
theorem cut6 (x : Str) : (cutS x none (some 6)).length ≤ 6 := by
  rw [← len_cps]
  unfold cutS
  show (List.take _ _).toArray.toList.length ≤ 6
  rw [List.toList_toArray, List.length_take]
  have : HT.sIx x.length x.length (some ((6 : Nat) : Int)) = min 6 x.length := HT.sIx_nat _ _ _
  have this : HT.sIx x.length x.length (some 6) = min 6 x.length := this
  rw [this]
  omega
theorem z_len : ("z" : Str).length = 1 := by decide +kernel
theorem z_lo : lettersOnly ("z" : Str) := by unfold lettersOnly; decide +kernel
def cand (x : Str) (c : Nat) : Str := cutS x none (some 6) ++ "z" ++ oneS' c
  where oneS' (c : Nat) : Str := ⟨#[c]⟩
theorem one_len (c : Nat) : (cand.oneS' c).length = 1 := rfl
theorem one_lo {c : Nat} (h : c ∈ letters.cps.toList) : lettersOnly (cand.oneS' c) := by
  intro b hb
  have : b = c := by simpa [cand.oneS'] using hb
  rw [this]
  exact h
theorem cand_ok {x : Str} (h : lettersOnly x) {c : Nat} (hc : c ∈ letters.cps.toList) : nameOk (cand x c) = true := by
  have h6 := cut6 x
  refine nameOk_of ?_ ?_ (lo_app (lo_app (lo_cut h _ _) z_lo) (one_lo hc))
  · unfold cand
    rw [strlen, strlen, z_len, one_len]
    omega
  · unfold cand
    rw [strlen, strlen, z_len, one_len]
    omega
theorem cand_inj {x : Str} {c c' : Nat} (h : cand x c = cand x c') : c = c' := by
  have e : (cand x c).cps.toList = (cand x c').cps.toList := by rw [h]
  unfold cand at e
  rw [cps_app, cps_app, cps_app, cps_app] at e
  have e2 := List.append_cancel_left e
  simpa [cand.oneS'] using e2
def cands (x : Str) : List Str := letters.cps.toList.map (cand x)
theorem nodup_map {α β : Type} {f : α → β} (hf : ∀ a b, f a = f b → a = b) : ∀ {l : List α}, l.Nodup → (l.map f).Nodup
  | [], _ => by simp
  | a :: r, h => by
    obtain ⟨h1, h2⟩ := List.nodup_cons.mp h
    refine List.nodup_cons.mpr ⟨fun z => ?_, nodup_map hf h2⟩
    obtain ⟨b, hb, e⟩ := List.mem_map.mp z
    exact h1 (hf _ _ e ▸ hb)
theorem cands_nodup (x : Str) : (cands x).Nodup := nodup_map (fun _ _ h => cand_inj h) (by decide +kernel)
theorem cands_len (x : Str) : (cands x).length = 26 := by
  unfold cands
  rw [List.length_map]
  decide +kernel
theorem pigeon : ∀ {ws fs : List Str}, ws.Nodup → (∀ x ∈ ws, x ∈ fs) → ws.length ≤ fs.length
  | [], _, _, _ => Nat.zero_le _
  | x :: ws, fs, hn, hs => by
    obtain ⟨n1, n2⟩ := List.nodup_cons.mp hn
    have hx := hs x (List.mem_cons_self ..)
    have q := pigeon (fs := fs.erase x) n2 fun y hy => (List.mem_erase_of_ne (fun e => n1 (by rw [← e]; exact hy))).mpr (hs y (List.mem_cons_of_mem _ hy))
    have := List.length_erase_of_mem hx
    have := List.length_pos_of_mem hx
    rw [List.length_cons]
    omega
theorem fresh_cand (x : Str) {fs : List Str} (h : fs.length ≤ 8) : ∃ w r, (cands x).filter (fun y => !decide (y ∈ fs)) = w :: r ∧ w ∈ cands x ∧ w ∉ fs := by
  cases e : (cands x).filter (fun y => !decide (y ∈ fs)) with
  | nil =>
    exfalso
    have := pigeon (cands_nodup x) (fs := fs) fun y hy => by
      by_cases m : y ∈ fs
      · exact m
      · have : y ∈ (cands x).filter (fun y => !decide (y ∈ fs)) := List.mem_filter.mpr ⟨hy, by simp [m]⟩
        rw [e] at this
        cases this
    rw [cands_len] at this
    omega
  | cons w r =>
    have hw : w ∈ (cands x).filter (fun y => !decide (y ∈ fs)) := by rw [e]; exact List.mem_cons_self ..
    obtain ⟨a, b⟩ := List.mem_filter.mp hw
    exact ⟨w, r, rfl, a, by simpa using b⟩
theorem join_len (ys : List Str) : (Txt.join Str.empty ys).cps.toList = (ys.map fun y => y.cps.toList).flatten := by
  show TL.tl _ = _
  rw [TL.join_eq, TL.tl_join, e_tl]
  have : ∀ ls : List (List Nat), TL.joinL [] ls = ls.flatten := by
    intro ls
    induction ls with
    | nil => rfl
    | cons p r ih =>
      cases r with
      | nil => show p = _; simp
      | cons q r =>
        show p ++ ([] ++ TL.joinL [] (q :: r)) = _
        rw [ih]
        simp
  rw [this]
theorem join_signs (cs : List Nat) : (Txt.join Str.empty (cs.map cand.oneS')).cps.toList = cs := by
  rw [join_len, List.map_map]
  induction cs with
  | nil => rfl
  | cons c r ih =>
    rw [List.map_cons, List.flatten_cons, ih]
    rfl
def ownText : Str := "account in join ask deposit release send lose copy withdraw arrive spent ideal total over"
def owns : List Str := Txt.split ownText " "
theorem owns_ok : ∀ w ∈ owns, nameOk w = true := by decide +kernel
theorem owns_len : owns.length = 15 := by decide +kernel
theorem filter_take {α : Type} {l : List α} {i : Nat} {c : α} (p : α → Bool) (h : l[i]? = some c) : (l.take (i + 1)).filter p = (l.take i).filter p ++ (if p c = true then [c] else []) := by
  rw [List.take_add_one, h, List.filter_append]
  show _ ++ List.filter p [c] = _
  cases e : p c <;> simp [e]
theorem sizes1128 : ∀ x ∈ ([.int 1, .int 1, .int 2, .int 8] : List V), ∃ j : Int, x = .int j ∧ 1 ≤ j ∧ j ≤ 8 := by
  intro x hx
  simp only [List.mem_cons, List.not_mem_nil, or_false] at hx
  rcases hx with rfl | rfl | rfl | rfl <;> exact ⟨_, rfl, by decide, by decide⟩
end Lw

set_option Elab.async false
set_option linter.all false
set_option maxRecDepth 100000
set_option maxHeartbeats 4000000
namespace Lw
open L2 hiding Ext
open PySem PySem.Spec PyProof.Rows Gn Gr Gk Go Gt Gf
section
variable {P : Program} {w : World} {K : PySem.W.Frag} {mg : Str → Option Value} {base : Heap}
/-- the two defs that draw, as they stand -/
structure Draw (P : Program) (w : World) (K : PySem.W.Frag) (mg : Str → Option Value) (base : Heap) (ns : List Int) (fT fP : Addr) (fdT fdP : FuncData) : Prop where
  GT : FnOk P w K mg base CX0 2 fT fdT ["_law_state", "_law_size"] (spTake ns)
  bT : Binds K fdT ["_law_state", "_law_size"] []
  kT : PySem.W.keepIn K (.ref fT) = true
  mT : mg "_law_take" = some (.ref fT)
  GP : FnOk P w K mg base CX0 3 fP fdP ["_law_state", "_law_some"] (spPick K ns)
  bP : Binds K fdP ["_law_state", "_law_some"] []
  kP : PySem.W.keepIn K (.ref fP) = true
  mP : mg "_law_pick" = some (.ref fP)
  len : mg "len" = none
  range : mg "range" = none
/-! ### _law_words -/
abbrev sWords : Stmt := top 12
abbrev nWords : List Str := ["_law_state", "_law_size", "_law_own", "_law_letters", "_law_found", "_law_k", "_law_word", "_law_j", "_law_letter", "_law_spare"]
def spWords (ns : List Int) : Sp := fun vs H Q _ => ∃ (d g c : Addr) (b : Nat) (z : Int), vs = [.ref d, .int z] ∧ Dw ns d g c b H ∧ b ≤ 900000000 ∧ 0 ≤ z ∧ z ≤ 8 ∧
  ∀ (l : Addr) (ws : List Str) (H' : Hp), H l = none → l ≠ d → l ≠ g → H' l = some (.lst (ws.map V.str)) → ws.length = z.toNat → ws.Nodup → (∀ x ∈ ws, nameOk x = true) → Dw ns d g c (b + 200) H' → Kp d g H H' → Q (.ref l) H'
theorem scWords : FnScope nWords ["_law_state", "_law_size"] (defScope sWords) := ⟨rfl, rfl, rfl, by decide +kernel, rfl, by decide +kernel, by decide +kernel⟩
theorem ok_words {f fT fP : Addr} {fd fdT fdP : FuncData} (ns : List Int) (F : Fun K "_law_words" "_law_words" sWords f fd) (R : Draw P w K mg base ns fT fP fdT fdP) : FnOk P w K mg base CX0 4 f fd ["_law_state", "_law_size"] (spWords ns) := by
  refine F.ok scWords (fun vs H Q E h => ?_) (fun cdv A outer s H vs Q E hr h => ?_)
  · obtain ⟨d, g, c, b, z, rfl, _⟩ := h
    rfl
  · obtain ⟨d, g, c, b, z, rfl, D, hb, z0, z8, k⟩ := h
    have hu := hu_of hr
    have nd := scWords.nd
    have hr2 : Room 2 (A.deeper (envOfC "_law_words" (defScope sWords) s.heap.objs.size f cdv)) := hr.mono (by decide)
    refine ⟨_, pss_cons (ps_set (i := 2) nd rfl (.inl rfl) (pe_split pe_str pe_str))
      (pss_cons (ps_asg (pe_tup (pa_cons pe_str (pa_cons (pe_lst pa_nil) pa_nil))) (by exact (pg_tup rfl (pgs_cons (pg_name (i := 3) nd rfl (.inr rfl)) (pgs_cons (pg_name (i := 4) nd rfl (.inr rfl)) pgs_nil)))))
      (pss_cons (ps_for PassesOwn.never rfl (pi_range1 rfl R.range (pa_cons (pv 1) pa_nil)) (pg_name (i := 5) nd rfl (.inl rfl))
        (pss_cons (ps_set (i := 6) nd rfl (.inr rfl) (pe_call R.GP hr rfl R.mP R.kP R.bP .nil pass0 (pa_cons (pv 0) (pa_cons (pv 2) pa_nil))))
        (pss_cons (ps_if (pt_cmpR op_gt (pe_call R.GT hr2 rfl R.mT R.kT R.bT .nil pass0 (pa_cons (pv 0) (pa_cons pe_int pa_nil))) pe_int (nomark _))
          (pss_one (ps_set (i := 6) nd rfl (.inr rfl) (pe_join pe_str (pe_lc (own := [("_law_j", 7)]) (g := gName 7) (tt := tYes) rfl nd (pi_range1 rfl R.range (pa_cons (pe_call R.GP hr rfl R.mP R.kP R.bP .nil pass0 (pa_cons (pv 0) (pa_cons (pe_lst (pa_cons pe_int (pa_cons pe_int (pa_cons pe_int (pa_cons pe_int pa_nil))))) pa_nil))) pa_nil)) (blkOk_by (N := nWords) (sc := defScope sWords) (by decide +kernel))
            (fun _ _ _ _ _ => pg_name (i := 7) nd rfl (.inl rfl)) (fun _ _ _ _ _ => pts_nil) (fun _ _ _ _ _ => pe_call R.GP hr rfl R.mP R.kP R.bP .nil pass0 (pa_cons (pv 0) (pa_cons (pv 3) pa_nil))))))) pss_nil)
        (pss_cons (ps_if (pt_cmpR op_in_seq (pv 6) (pv 4) rfl)
          (pss_one (ps_set (i := 6) nd rfl (.inr rfl) (pe_ix ix_list (pe_lc (own := [("_law_spare", 9)]) (g := gName 9) rfl nd (pi_list
              (pe_lc (own := [("_law_letter", 8)]) (g := gName 8) (tt := tYes) rfl nd (pi_str (pv 3)) (blkOk_by (N := nWords) (sc := defScope sWords) (by decide +kernel))
                (fun _ _ _ _ _ => pg_name (i := 8) nd rfl (.inl rfl)) (fun _ _ _ _ _ => pts_nil) (fun _ _ _ _ _ => pe_op op_add_str (pe_op op_add_str (pe_slice sl_str (pv 6) po_none (po_some pe_int)) pe_str) (pv 8)))) (blkOk_by (N := nWords) (sc := defScope sWords) (by decide +kernel))
              (fun _ _ _ _ _ => pg_name (i := 9) nd rfl (.inl rfl)) (fun _ _ _ _ _ => pts_one (pt_cmpR (r := rIn K true) op_notIn_seq (pv 9) (pv 4) rfl)) (fun _ _ _ _ _ => pv 9)) pe_int (fun _ _ => rfl)))) pss_nil)
        (pss_one (ps_expr (pe_bm PySem.F.plainAttrs_list PySem.F.slot_list_append PySem.F.type_list_append mt_append (pv 4) (pa_cons (pv 6) pa_nil))))))))
      (pss_one (ps_ret (pv 4))))), ?_⟩
    have ho1 : (ownText.length : Nat) ≤ 100 := by decide +kernel
    refine ⟨⟨_, rfl⟩, ownText, _, rfl, rfl, by decide +kernel, by rw [sizeLine_eq]; omega, fun o hoN => ?_⟩
    have Do := D.new (o := .lst (owns.map V.str)) hoN
    have hno : o ≠ d := D.nd hoN
    have hgo : o ≠ g := D.ng hoN
    have ho : (upd H o (.lst (owns.map V.str))) o = some (.lst (owns.map V.str)) := upd_same
    have ko : Kp d g H (upd H o (.lst (owns.map V.str))) := Kp.new hoN
    show tSeq _ _ _ _ (upd H o (.lst (owns.map V.str)))
    generalize upd H o (.lst (owns.map V.str)) = H1 at Do ho ko ⊢
    refine ⟨Nat.zero_le _, fun l hl => ?_⟩
    have Dl := Do.new (o := .lst []) hl
    have hnl : l ≠ d := Do.nd hl
    have hgl : l ≠ g := Do.ng hl
    have hcl : l ≠ c := fun e => by rw [e, Do.cl] at hl; cases hl
    have hol : l ≠ o := (ne_of_none ho hl).symm
    have hlH : H l = none := D.free Do ko hl
    have kl : Kp d g H (upd H1 l (.lst [])) := ko.trans (Kp.new hl)
    have ho2 := new_same (o := .lst []) hl _ _ ho
    have hl2 : (upd H1 l (.lst [])) l = some (.lst (([] : List Str).map V.str)) := upd_same
    generalize upd H1 l (.lst []) = H2 at Dl kl ho2 hl2 ⊢
    refine ⟨by show 2 ≤ sizeLine; decide, fun t ht => ?_⟩
    have Dt := Dl.new (o := .tup [.str letters, .ref l]) ht
    have kt : Kp d g H (upd H2 t (.tup [.str letters, .ref l])) := kl.trans (Kp.new ht)
    have ho3 := new_same (o := .tup [.str letters, .ref l]) ht _ _ ho2
    have hl3 := new_same (o := .tup [.str letters, .ref l]) ht _ _ hl2
    refine ⟨t, _, rfl, SqT.of upd_same, rfl, _, _, rfl, _, _, rfl, rfl, ?_⟩
    show tSeq _ _ _ _ (upd H2 t (.tup [.str letters, .ref l]))
    generalize upd H2 t (.tup [.str letters, .ref l]) = H3 at Dt kt ho3 hl3 ⊢
    refine ⟨_, rfl, z, rfl, by omega, by omega, for_range (lo := 0) (n := z.toNat) (fun i σ H' => ∃ (v5 v6 : Option V) (ws : List Str), σ = [some (.ref d), some (.int z), some (.ref o), some (.str letters), some (.ref l), v5, v6, none, none, none] ∧
        H' o = some (.lst (owns.map V.str)) ∧ H' l = some (.lst (ws.map V.str)) ∧ ws.length = i ∧ ws.Nodup ∧ (∀ x ∈ ws, nameOk x = true) ∧ Dw ns d g c (b + 20 * i) H' ∧ Kp d g H H')
      ⟨none, none, [], rfl, ho3, hl3, rfl, List.nodup_nil, (fun x hx => by cases hx), Dt, kt⟩ ?_ ?_⟩
    · rintro i σ H4 hi ⟨v5, v6, ws, rfl, o4, l4, wl, wn, wok, D4, k4⟩
      refine ⟨_, rfl, _, rfl, d, g, c, _, D4, by omega, .inl ⟨o, _, rfl, o4, hno, hgo, by rw [List.length_map, owns_len]; decide, by rw [List.length_map, owns_len]; decide, fun y H5 hy D5 k5 => ?_⟩⟩
      obtain ⟨w0, hw0, rfl⟩ := List.mem_map.mp hy
      have hw0 := owns_ok w0 hw0
      refine ⟨_, rfl, d, g, c, _, 3, rfl, D5, by omega, by decide, by decide, fun r H6 r0 r1 D6 k6 => ?_⟩
      have l6 := k6 _ _ hnl hgl (k5 _ _ hnl hgl l4)
      have o6 := k6 _ _ hno hgo (k5 _ _ hno hgo o4)
      have k46 : Kp d g H H6 := (k4.trans k5).trans k6
      have fin : ∀ (wd : Str) (H' : Hp) (v5' : Option V), nameOk wd = true → wd ∉ ws → H' o = some (.lst (owns.map V.str)) → H' l = some (.lst (ws.map V.str)) → Dw ns d g c (b + 20 * i + 20) H' → Kp d g H H' →
          ∃ (v5 v6 : Option V) (ws' : List Str), [some (.ref d), some (.int z), some (.ref o), some (.str letters), some (.ref l), v5', some (.str wd), none, none, none] = [some (.ref d), some (.int z), some (.ref o), some (.str letters), some (.ref l), v5, v6, none, none, none] ∧
            (upd H' l (.lst (ws.map V.str ++ [V.str wd]))) o = some (.lst (owns.map V.str)) ∧ (upd H' l (.lst (ws.map V.str ++ [V.str wd]))) l = some (.lst (ws'.map V.str)) ∧ ws'.length = i + 1 ∧ ws'.Nodup ∧ (∀ x ∈ ws', nameOk x = true) ∧ Dw ns d g c (b + 20 * (i + 1)) (upd H' l (.lst (ws.map V.str ++ [V.str wd]))) ∧ Kp d g H (upd H' l (.lst (ws.map V.str ++ [V.str wd]))) := by
        intro wd H' v5' h1 h2 h3 h4 h5 h6
        refine ⟨_, _, ws ++ [wd], rfl, by rw [upd_ne hol.symm]; exact h3, by rw [upd_same, List.map_append]; rfl, by rw [List.length_append, wl]; rfl, ?_, fun x hx => ?_, (h5.put h4 hnl hgl hcl).mono (by omega), fun a u n1 n2 ha => ?_⟩
        · refine List.nodup_append.mpr ⟨wn, by simp, fun a ha a' ha' => ?_⟩
          rw [List.mem_singleton] at ha'
          subst ha'
          exact fun e => h2 (e ▸ ha)
        · rcases List.mem_append.mp hx with hx | hx
          · exact wok x hx
          · rw [List.mem_singleton.mp hx]
            exact h1
        · rw [upd_ne (ne_of_none ha hlH)]
          exact h6 a u n1 n2 ha
      refine ⟨_, _, rfl, rfl, _, rfl, ?_⟩
      refine ite2 (fun e => ?A) (fun e => ?B)
      case' A =>
        refine ⟨⟨_, rfl⟩, _, rfl, by show 4 ≤ sizeLine; decide, fun q hq => ?_⟩
        have D7 := D6.new (o := .lst [.int 1, .int 1, .int 2, .int 8]) hq
        refine ⟨d, g, c, _, D7, by omega, .inl ⟨q, _, rfl, upd_same, D6.nd hq, D6.ng hq, by show 0 < 4; decide, by show 4 ≤ 1000000; decide, fun y2 H8 hy2 D8 k8 => ?_⟩⟩
        obtain ⟨j, rfl, j1, j8⟩ := sizes1128 _ hy2
        have l8 := k8 _ _ hnl hgl (new_same (o := .lst [.int 1, .int 1, .int 2, .int 8]) hq _ _ l6)
        have o8 := k8 _ _ hno hgo (new_same (o := .lst [.int 1, .int 1, .int 2, .int 8]) hq _ _ o6)
        have k48 : Kp d g H H8 := (k46.trans (Kp.new hq)).trans k8
        refine ⟨j, rfl, by omega, by omega, fun L hL => ?_⟩
        have nL : L ≠ d := D8.nd hL
        have gL : L ≠ g := D8.ng hL
        have cL : L ≠ c := fun e => by rw [e, D8.cl] at hL; cases hL
        refine lc_range (lo := 0) (n := j.toNat) (fun i' H' => ∃ cs : List Nat, H' L = some (.lst ((cs.map cand.oneS').map V.str)) ∧ cs.length = i' ∧ (∀ x ∈ cs, x ∈ letters.cps.toList) ∧ Dw ns d g c (b + 20 * i + 3 + i') H' ∧ Kp d g H8 H')
          ⟨[], upd_same, rfl, (fun x hx => by cases hx), (D8.new hL).mono (by omega), Kp.new hL⟩ ?_ ?_
        · rintro i' H9 hi' ⟨cs, d9, cl, cok, D9, k9⟩
          refine ⟨rfl, yes_of ?_⟩
          refine ⟨_, rfl, _, rfl, d, g, c, _, D9, by omega, .inr ⟨_, rfl, by decide +kernel, by decide +kernel, fun y3 H10 hy3 D10 k10 => ?_⟩⟩
          have d10 := k10 _ _ nL gL d9
          refine ⟨_, d10, ?_, cs ++ [y3], ?_, by rw [List.length_append, cl]; rfl, fun x hx => ?_, (D10.put d10 nL gL cL).mono (by omega), fun a u n1 n2 ha => ?_⟩
          · rw [List.length_map, List.length_map]
            exact small1000 (by omega)
          · rw [upd_same, List.map_append, List.map_append]
            rfl
          · rcases List.mem_append.mp hx with hx | hx
            · exact cok x hx
            · rw [List.mem_singleton.mp hx]
              exact hy3
          · rw [upd_ne (ne_of_none ha hL)]
            exact k10 _ _ n1 n2 (k9 _ _ n1 n2 ha)
        rintro H9 ⟨cs, d9, cl, cok, D9, k9⟩
        have jw : nameOk (Txt.join Str.empty (cs.map cand.oneS')) = true := by
          have e9 := join_signs cs
          refine nameOk_of ?_ ?_ (fun x hx => ?_)
          · rw [← len_cps, e9]; omega
          · rw [← len_cps, e9]; omega
          · rw [e9] at hx
            exact cok x hx
        refine ⟨_, L, cs.map cand.oneS', rfl, rfl, .inl (SqL.of d9), ?_, ?_⟩
        · have e0 : ("" : Str).length = 0 := by decide +kernel
          have hs := sum_le (fun y : Str => y.length) (b := 1) (cs.map cand.oneS') fun x hx => by
            obtain ⟨x', _, rfl⟩ := List.mem_map.mp hx
            exact Nat.le_refl 1
          rw [List.length_map] at hs ⊢
          rw [e0]
          omega
        rw [e_eq]
        obtain ⟨wd, hwd, hwk⟩ : ∃ wd, wd = Txt.join Str.empty (cs.map cand.oneS') ∧ nameOk wd = true := ⟨_, rfl, jw⟩
        rw [← hwd]
        have lT := k9 _ _ hnl hgl l8
        have oT := k9 _ _ hno hgo o8
        have kT : Kp d g H H9 := k48.trans k9
        have DT : Dw ns d g c (b + 20 * i + 15) H9 := D9.mono (by omega)
        generalize H9 = HT at lT oT kT DT ⊢
      case' B =>
        obtain ⟨wd, hwd, hwk⟩ : ∃ wd, wd = w0 ∧ nameOk wd = true := ⟨_, rfl, hw0⟩
        rw [← hwd]
        have lT := l6
        have oT := o6
        have kT := k46
        have DT : Dw ns d g c (b + 20 * i + 15) H6 := D6.mono (by omega)
        generalize H6 = HT at lT oT kT DT ⊢
      all_goals
        refine ⟨_, rfl, _, rfl, l, _, rfl, .inl (SqL.of lT), rfl, strs_flat ws, _, rfl, ?_⟩
        rw [inV_strs]
        refine ite2 (fun e => ?_) (fun e => ?_)
        · have hwl := (name_len hwk).2
          refine ⟨_, rfl, letters, rfl, fun D1 hD1 => ?_⟩
          refine lc_it walk_str (fun i' H' => H' D1 = some (.lst (((letters.cps.toList.take i').map (cand wd)).map V.str)) ∧ Ext HT H') ⟨upd_same, Ext.new hD1⟩ (fun _ _ _ _ => trivial) ?_ ?_
          · rintro i' y H1' H2' hi' ⟨hd', he'⟩ ⟨rfl, c', hc', rfl⟩
            have hc2 := cps_at hc'
            refine ⟨rfl, yes_of ?_⟩
            have h6 := cut6 wd
            refine ⟨_, rfl, 6, rfl, wd, rfl, by rw [sizeLine_eq]; omega, _, _, rfl, rfl, by rw [z_len, sizeLine_eq]; omega, _, rfl, _, _, rfl, rfl, by rw [strlen, z_len, sizeLine_eq]; show _ + 1 + 1 ≤ _; omega, _, hd', ?_, ?_, fun a u ha => ?_⟩
            · have : letters.cps.toList.length = 26 := by decide +kernel
              rw [List.length_map, List.length_map, List.length_take]
              exact small1000 (by omega)
            · rw [upd_same, take_succ_map (cand wd) hc2, List.map_append]
              rfl
            · rw [upd_ne (ne_of_none ha hD1)]
              exact he' _ _ ha
          rintro H1' ⟨hd', he'⟩
          rw [← cps_len, List.take_length] at hd'
          have hd' : H1' D1 = some (.lst ((cands wd).map V.str)) := hd'
          have oT1 := he' _ _ oT
          have lT1 := he' _ _ lT
          refine ⟨D1, rfl, ⟨_, SqL.of hd'⟩, fun D2 hD2 => ?_⟩
          refine lc_it walk_list (fun i' H' => H' D2 = some (.lst ((((cands wd).take i').filter (fun y => !decide (y ∈ ws))).map V.str)) ∧ Ext H1' H') ⟨upd_same, Ext.new hD2⟩ (fun i H' _ ⟨_, e⟩ => SqL.of (e _ _ hd')) ?_ ?_
          · rintro i' y H2' H3' hi' ⟨d2, k2⟩ ⟨rfl, hy⟩
            rw [List.getElem?_map] at hy
            obtain ⟨x, hx, rfl⟩ := Option.map_eq_some_iff.mp hy
            have ef := filter_take (fun y => !decide (y ∈ ws)) hx
            refine ⟨rfl, _, rfl, _, rfl, l, _, rfl, .inl (SqL.of (k2 _ _ lT1)), rfl, strs_flat ws, ?_⟩
            show ∃ b, V.bl (!inV (.str x) (ws.map V.str)) = V.bl b ∧ _
            rw [inV_strs]
            refine ⟨_, rfl, ite2 (fun e => ?_) (fun e => ?_)⟩
            · rw [if_pos e] at ef
              refine ⟨_, rfl, _, d2, ?_, ?_, fun a u ha => ?_⟩
              · have h1 := List.length_filter_le (fun y => !decide (y ∈ ws)) ((cands wd).take i')
                rw [List.length_take, cands_len] at h1
                rw [List.length_map]
                exact small1000 (by omega)
              · rw [upd_same, ef, List.map_append]
                rfl
              · rw [upd_ne (ne_of_none ha hD2)]
                exact k2 _ _ ha
            · rw [if_neg e, List.append_nil] at ef
              exact ⟨by rw [ef]; exact d2, k2⟩
          rintro H2' ⟨d2, k2⟩
          rw [List.length_map, List.take_length] at d2
          obtain ⟨w1, rst, e1, m1, n1⟩ := fresh_cand wd (fs := ws) (by omega)
          rw [e1] at d2
          have w1ok : nameOk w1 = true := by
            obtain ⟨c', hc', rfl⟩ := List.mem_map.mp m1
            exact cand_ok (lo_of hwk) hc'
          refine ⟨D2, _, _, V.str w1, rfl, rfl, SqL.of d2, (show atI (V.str w1 :: rst.map V.str) ((0 : Nat) : Int) = some (V.str w1) from atI_nat rfl), ?_⟩
          have lT2 := k2 _ _ lT1
          refine ⟨_, rfl, .inl ⟨rfl, _, SqL.of lT2⟩, _, rfl, l, _, _, rfl, rfl, lT2, by rw [List.length_map]; exact small1000 (by omega), ?_⟩
          exact fin _ _ _ w1ok n1 (k2 _ _ oT1) lT2 ((DT.keep fun a u ha => k2 _ _ (he' _ _ ha)).mono (by omega)) (kT.trans (Kp.of fun a u ha => k2 _ _ (he' _ _ ha)))
        · have e : wd ∉ ws := fun m => e (decide_eq_true m)
          refine ⟨_, rfl, .inl ⟨rfl, _, SqL.of lT⟩, _, rfl, l, _, _, rfl, rfl, lT, by rw [List.length_map]; exact small1000 (by omega), ?_⟩
          exact fin _ _ _ hwk e oT lT (DT.mono (by omega)) kT
    · rintro σ H4 ⟨v5, v6, ws, rfl, o4, l4, wl, wn, wok, D4, k4⟩
      exact ⟨_, rfl, k l ws H4 hlH hnl hgl l4 wl wn wok (D4.mono (by omega)) k4⟩
end
end Lw

set_option Elab.async false
set_option linter.all false
set_option maxRecDepth 100000
set_option maxHeartbeats 4000000
namespace Lw
open L2 hiding Ext
open PySem PySem.Spec PyProof.Rows Gn Gr Gk Go Gt Gf
/-! ### facts -/
inductive Fact
  | row (b : Bool) (p : Int) (n : Str) (z : Int)
  | dep (m : Int) (n : Str) (z : Int)
  | rel (p z : Int)
  | wd (p : Int)
  | ans (b : Bool) (p q : Int)
deriving DecidableEq
def kinds : Fin 7 → Str
  | 0 => "spender"
  | 1 => "request"
  | 2 => "deposit"
  | 3 => "release"
  | 4 => "withdrawn"
  | 5 => "consent"
  | 6 => "refuse"
namespace Fact
def tag : Fact → Fin 7
  | .row true _ _ _ => 0
  | .row false _ _ _ => 1
  | .dep .. => 2
  | .rel .. => 3
  | .wd .. => 4
  | .ans true _ _ => 5
  | .ans false _ _ => 6
def n1 : Fact → Int
  | .row _ p _ _ => p
  | .dep m _ _ => m
  | .rel p _ => p
  | .wd p => p
  | .ans _ p _ => p
def rest : Fact → List V
  | .row _ _ n z => [.str n, .int z]
  | .dep _ n z => [.str n, .int z]
  | .rel _ z => [.int z]
  | .wd _ => []
  | .ans _ _ q => [.int q]
def vals (f : Fact) : List V := .str (kinds f.tag) :: .int f.n1 :: f.rest
def drest : Fact → List PyData
  | .row _ _ n z => [.str n, .int z]
  | .dep _ n z => [.str n, .int z]
  | .rel _ z => [.int z]
  | .wd _ => []
  | .ans _ _ q => [.int q]
def data (f : Fact) : PyData := .tuple (.str (kinds f.tag) :: .int f.n1 :: f.drest)
def ok : Fact → Prop
  | .row _ _ n _ => nameOk n = true
  | .dep _ n _ => nameOk n = true
  | _ => True
end Fact
theorem kinds_inj : ∀ t u : Fin 7, (kinds t = kinds u) = (t = u) := by
  intro t u
  exact propext ⟨fun h => by revert t u; decide +kernel, fun h => by rw [h]⟩
theorem kind_eq (t u : Fin 7) : decide (V.str (kinds t) = V.str (kinds u)) = decide (t = u) := by
  by_cases h : t = u
  · rw [h]; simp
  · rw [decide_eq_false h]
    refine decide_eq_false fun e => h ?_
    rw [← kinds_inj t u]
    injection e
theorem in_rows : ∀ t : Fin 7, inV (.str (kinds t)) [.str "spender", .str "request"] = decide (t.val < 2) := by decide +kernel
theorem in_ans : ∀ t : Fin 7, inV (.str (kinds t)) [.str "consent", .str "refuse"] = decide (5 ≤ t.val) := by decide +kernel
theorem in_three : ∀ t : Fin 7, inV (.str (kinds t)) [.str "consent", .str "refuse", .str "withdrawn"] = decide (4 ≤ t.val) := by decide +kernel
theorem kinds_ok : ∀ t : Fin 7, PyData.strOk (kinds t) = true := by decide +kernel
theorem name_ok {n : Str} (h : nameOk n = true) : PyData.strOk n = true := (name_asc19 h).ok
def FAt (H : Hp) (a : Addr) (f : Fact) : Prop := H a = some (.tup f.vals)
theorem dp_fact {K : PySem.W.Frag} {H : Hp} {a : Addr} {f : Fact} (h : FAt H a f) : Dp K H (.ref a) f.data := by
  refine .tup (SqT.of h) (.cons (.str _) (.cons (.int _) ?_))
  cases f with
  | row b p n z => exact .cons (.str _) (.cons (.int _) .nil)
  | dep m n z => exact .cons (.str _) (.cons (.int _) .nil)
  | rel p z => exact .cons (.int _) .nil
  | wd p => exact .nil
  | ans b p q => exact .cons (.int _) .nil
theorem dp_tail {K : PySem.W.Frag} {H : Hp} {a : Addr} {f : Fact} (h : H a = some (.tup (.int f.n1 :: f.rest))) : Dp K H (.ref a) (.tuple (.int f.n1 :: f.drest)) := by
  refine .tup (SqT.of h) (.cons (.int _) ?_)
  cases f with
  | row b p n z => exact .cons (.str _) (.cons (.int _) .nil)
  | dep m n z => exact .cons (.str _) (.cons (.int _) .nil)
  | rel p z => exact .cons (.int _) .nil
  | wd p => exact .nil
  | ans b p q => exact .cons (.int _) .nil
theorem shaped_tup {ds : List PyData} (h : ∀ x ∈ ds, flatD x = true) : SeqAt.shaped (.tuple ds) = true := by
  obtain ⟨b1, b2⟩ := lay_flats h
  have e : PyData.depth (.tuple ds) = PyData.depthAll ds + 1 := by simp only [PyData.depth]
  unfold SeqAt.shaped
  rw [e]
  simp only [PyData.canLay0, b1, Bool.true_and, decide_eq_true_eq]
  omega
theorem flat_rest {f : Fact} (h : f.ok) : ∀ x ∈ f.drest, flatD x = true := by
  intro x hx
  cases f with
  | row b p n z =>
    simp only [Fact.drest, List.mem_cons, List.not_mem_nil, or_false] at hx
    rcases hx with rfl | rfl
    · exact name_ok h
    · rfl
  | dep m n z =>
    simp only [Fact.drest, List.mem_cons, List.not_mem_nil, or_false] at hx
    rcases hx with rfl | rfl
    · exact name_ok h
    · rfl
  | rel p z =>
    simp only [Fact.drest, List.mem_cons, List.not_mem_nil, or_false] at hx
    rw [hx]; rfl
  | wd p => cases hx
  | ans b p q =>
    simp only [Fact.drest, List.mem_cons, List.not_mem_nil, or_false] at hx
    rw [hx]; rfl
theorem shaped_fact {f : Fact} (h : f.ok) : SeqAt.shaped f.data = true := shaped_tup fun x hx => by
  rcases List.mem_cons.mp hx with rfl | hx
  · exact kinds_ok _
  rcases List.mem_cons.mp hx with rfl | hx
  · rfl
  · exact flat_rest h x hx
theorem shaped_tail {f : Fact} (h : f.ok) : SeqAt.shaped (.tuple (.int f.n1 :: f.drest)) = true := shaped_tup fun x hx => by
  rcases List.mem_cons.mp hx with rfl | hx
  · rfl
  · exact flat_rest h x hx
def tailEq (f g : Fact) : Bool := PyData.eqv (.tuple (.int f.n1 :: f.drest)) (.tuple (.int g.n1 :: g.drest))
theorem bd {α : Type} [BEq α] [LawfulBEq α] [DecidableEq α] (x y : α) : (x == y) = decide (x = y) := by
  by_cases h : x = y
  · subst h; simp
  · rw [decide_eq_false h]
    exact Bool.eq_false_iff.mpr fun e => h (eq_of_beq e)
theorem eqv_fact (f g : Fact) : PyData.eqv f.data g.data = decide (f = g) := by
  have hk : ∀ t u : Fin 7, (kinds t == kinds u) = decide (t = u) := fun t u => by
    by_cases h : t = u
    · rw [h]; simp
    · rw [decide_eq_false h]
      exact Bool.eq_false_iff.mpr fun e => h (by rw [← kinds_inj t u]; exact eq_of_beq e)
  unfold Fact.data
  cases f with
  | row b p n z => cases g <;> cases b <;> (try rename_i b' _ _ _; cases b') <;> simp [PyData.eqv, PyData.eqvAll, Fact.tag, Fact.n1, Fact.drest, hk, bd, Bool.and_assoc, Bool.decide_and]
  | dep m n z => cases g <;> (try rename_i b' _ _ _; cases b') <;> (try rename_i b' _ _; cases b') <;> simp [PyData.eqv, PyData.eqvAll, Fact.tag, Fact.n1, Fact.drest, hk, bd, Bool.and_assoc, Bool.decide_and]
  | rel p z => cases g <;> (try rename_i b' _ _ _; cases b') <;> (try rename_i b' _ _; cases b') <;> simp [PyData.eqv, PyData.eqvAll, Fact.tag, Fact.n1, Fact.drest, hk, bd, Bool.and_assoc, Bool.decide_and]
  | wd p => cases g <;> (try rename_i b' _ _ _; cases b') <;> (try rename_i b' _ _; cases b') <;> simp [PyData.eqv, PyData.eqvAll, Fact.tag, Fact.n1, Fact.drest, hk, bd, Bool.and_assoc, Bool.decide_and]
  | ans b p q => cases g <;> cases b <;> (try rename_i b' _ _; cases b') <;> simp [PyData.eqv, PyData.eqvAll, Fact.tag, Fact.n1, Fact.drest, hk, bd, Bool.and_assoc, Bool.decide_and]
end Lw

set_option Elab.async false
set_option linter.all false
set_option maxRecDepth 100000
set_option maxHeartbeats 4000000
namespace Lw
open L2 hiding Ext
open PySem PySem.Spec PyProof.Rows Gn Gr Gk Go Gt Gf
abbrev sSup : Stmt := top 3
abbrev sContr : Stmt := top 4
abbrev sSlot : Stmt := top 5
abbrev sConf : Stmt := top 6
/-- a reading may ask more than it need -/
theorem PT.weaken {X : Cx} {e : Expr} {t t' : TT} (h : PT X e t) (w : ∀ σ H k, t' σ H k → t σ H k) : PT X e t' :=
  ⟨fun pins s σ H Q I z => h.run pins s σ H Q I (w _ _ _ z)⟩
theorem PE.weaken {X : Cx} {e : Expr} {t t' : TE} (h : PE X e t) (w : ∀ σ H k, t' σ H k → t σ H k) : PE X e t' :=
  ⟨fun pins s σ H Q I z => h.run pins s σ H Q I (w _ _ _ z)⟩
/-- two facts at two slots; a test of them that leaves what stands -/
def tF2 (i j : Nat) (val : Fact → Fact → Bool) : TT := fun σ H k => ∃ (p q : Addr) (f g : Fact), σ[i]? = some (some (.ref p)) ∧ σ[j]? = some (some (.ref q)) ∧ FAt H p f ∧ FAt H q g ∧ f.ok ∧ g.ok ∧ ∀ H', Ext H H' → k (val f g) H'
def eF2 (i j : Nat) (val : Fact → Fact → Bool) : TE := fun σ H k => ∃ (p q : Addr) (f g : Fact), σ[i]? = some (some (.ref p)) ∧ σ[j]? = some (some (.ref q)) ∧ FAt H p f ∧ FAt H q g ∧ f.ok ∧ g.ok ∧ ∀ H', Ext H H' → k (.bl (val f g)) H'
theorem len2 (f : Fact) : 2 ≤ f.vals.length := by show 2 ≤ f.rest.length + 1 + 1; omega
theorem at0 (f : Fact) : atI f.vals 0 = some (.str (kinds f.tag)) := (show atI f.vals ((0 : Nat) : Int) = _ from atI_nat rfl)
theorem at1 (f : Fact) : atI f.vals 1 = some (.int f.n1) := (show atI f.vals ((1 : Nat) : Int) = _ from atI_nat rfl)
theorem cut1 (f : Fact) : cutV f.vals (some 1) none = .int f.n1 :: f.rest := by
  have h := len2 f
  have e : HT.sIx f.vals.length 0 (some 1) = 1 := by
    unfold HT.sIx
    show min 1 _ = 1
    omega
  have e2 : HT.sIx f.vals.length f.vals.length none = f.vals.length := rfl
  unfold cutV
  rw [e, e2]
  show List.take _ (List.drop 1 f.vals) = _
  show List.take (f.rest.length + 1 + 1 - 1) (V.int f.n1 :: f.rest) = _
  exact List.take_length (l := V.int f.n1 :: f.rest)
theorem cut_no (f : Fact) : ¬ (HT.sIx f.vals.length 0 (some 1) = 0 ∧ HT.sIx f.vals.length f.vals.length none = f.vals.length) := by
  have h := len2 f
  have e : HT.sIx f.vals.length 0 (some 1) = 1 := by
    unfold HT.sIx
    show min 1 _ = 1
    omega
  rw [e]
  omega
/-- the rows that a fact supposes -/
def Fact.sup : Fact → List (Fin 7 × Int)
  | .rel p _ => [(0, p)]
  | .wd p => [(1, p)]
  | .ans _ p q => [(1, p), (0, q)]
  | _ => []
def SupAt (H : Hp) (vs : List V) (ss : List (Fin 7 × Int)) : Prop := vs.length = ss.length ∧ ∀ (i : Nat) (s : Fin 7 × Int), ss[i]? = some s → ∃ t, vs[i]? = some (V.ref t) ∧ H t = some (.tup [.str (kinds s.1), .int s.2])
theorem SupAt.ext {H H' : Hp} {vs : List V} {ss : List (Fin 7 × Int)} (h : SupAt H vs ss) (k : Ext H H') : SupAt H' vs ss :=
  ⟨h.1, fun i s hs => by obtain ⟨t, a, b⟩ := h.2 i s hs; exact ⟨t, a, k _ _ b⟩⟩
def contr (f g : Fact) : Bool := g.sup.any fun s => decide (s.2 = f.n1) && !decide (s.1 = f.tag)
def conf (f g : Fact) : Bool :=
  if decide (f = g) = true then false
  else if (decide (f.tag.val < 2) && decide (g.tag.val < 2)) = true then decide (f.n1 = g.n1)
  else if decide (f.tag.val < 2) = true then contr f g
  else if decide (g.tag.val < 2) = true then contr g f
  else if (decide (f.tag = 2) && decide (g.tag = 2)) = true then decide (f.n1 = g.n1)
  else if (decide (5 ≤ f.tag.val) && decide (5 ≤ g.tag.val)) = true then tailEq f g
  else false
section
variable {P : Program} {w : World} {K : PySem.W.Frag} {mg : Str → Option Value} {base : Heap}
/-- the module's tuples, the built-in names -/
structure Names (K : PySem.W.Frag) (mg : Str → Option Value) : Prop where
  rows : ∃ t, mg "ROWS" = some (.ref t) ∧ ∀ H, SqT K H t [.str "spender", .str "request"]
  answers : ∃ t, mg "ANSWERS" = some (.ref t) ∧ ∀ H, SqT K H t [.str "consent", .str "refuse"]
  any : mg "any" = none
def spSup : Sp := fun vs H Q _ => ∃ (a : Addr) (f : Fact), vs = [.ref a] ∧ FAt H a f ∧ ∀ (H' : Hp) (l : Addr) (xs : List V), Ext H H' → H' l = some (.lst xs) → SupAt H' xs f.sup → Q (.ref l) H'
theorem scSup : FnScope ["fact", "kind"] ["fact"] (defScope sSup) := ⟨rfl, rfl, rfl, by decide +kernel, rfl, by decide +kernel, by decide +kernel⟩
theorem ok_sup {f : Addr} {fd : FuncData} (F : Fun K "supposed_rows" "supposed_rows" sSup f fd) (T : Names K mg) : FnOk P w K mg base CX0 1 f fd ["fact"] spSup := by
  refine F.ok scSup (fun vs H Q E h => ?_) (fun cdv A outer s H vs Q E hr h => ?_)
  · obtain ⟨a, f, rfl, _⟩ := h
    rfl
  · obtain ⟨a, f, rfl, hf, k⟩ := h
    have hu := hu_of hr
    have nd := scSup.nd
    obtain ⟨tA, gA, sA⟩ := T.answers
    refine ⟨_, pss_cons (ps_set (i := 1) nd rfl (.inl rfl) (pe_ix ix_tup (pv 0) pe_int (fun _ _ => rfl)))
      (pss_cons (ps_if (pt_cmpR op_eq (pv 1) pe_str (nomark _)) (pss_one (ps_ret (pe_lst (pa_cons (pe_tup (pa_cons pe_str (pa_cons (pe_ix ix_tup (pv 0) pe_int (fun _ _ => rfl)) pa_nil))) pa_nil)))) pss_nil)
      (pss_cons (ps_if (pt_cmpR op_eq (pv 1) pe_str (nomark _)) (pss_one (ps_ret (pe_lst (pa_cons (pe_tup (pa_cons pe_str (pa_cons (pe_ix ix_tup (pv 0) pe_int (fun _ _ => rfl)) pa_nil))) pa_nil)))) pss_nil)
      (pss_cons (ps_if (pt_cmpR op_in_seq (pv 1) (pe_glob (v := .ref tA) rfl gA rfl) rfl) (pss_one (ps_ret (pe_lst (pa_cons (pe_tup (pa_cons pe_str (pa_cons (pe_ix ix_tup (pv 0) pe_int (fun _ _ => rfl)) pa_nil))) (pa_cons (pe_tup (pa_cons pe_str (pa_cons (pe_ix ix_tup (pv 0) pe_int (fun _ _ => rfl)) pa_nil))) pa_nil))))) pss_nil)
      (pss_one (ps_ret (pe_lst pa_nil)))))), ?_⟩
    refine ⟨_, rfl, a, _, _, _, rfl, rfl, SqT.of hf, at0 f, ?_⟩
    refine ⟨_, rfl, rfl, _, rfl, ?_⟩
    have one : ∀ (s : Fin 7 × Int) (H1 : Hp) (t l : Addr), f.sup = [s] → H t = none → H1 = upd H t (.tup [.str (kinds s.1), .int s.2]) → H1 l = none → Q (.ref l) (upd H1 l (.lst [.ref t])) := fun s H1 t l e ht e1 hl => by
      subst e1
      refine k _ l _ ((Ext.new ht).trans (Ext.new hl)) upd_same ?_
      rw [e]
      refine ⟨rfl, fun i s' hs => ?_⟩
      cases i with
      | zero =>
        cases hs
        exact ⟨t, rfl, new_same hl _ _ upd_same⟩
      | succ i => cases hs
    refine ite2 (fun e => ?_) (fun n1 => ?_)
    · have e := (kind_eq f.tag 3).symm.trans e
      cases f with
      | rel p z =>
        refine ⟨_, rfl, a, _, _, _, rfl, rfl, SqT.of hf, rfl, by show 2 ≤ sizeLine; decide, fun t ht => ?_⟩
        exact ⟨by show 1 ≤ sizeLine; decide, fun l hl => one (0, p) _ t l rfl ht rfl hl⟩
      | row b _ _ _ => cases b <;> cases e
      | dep _ _ _ => cases e
      | wd _ => cases e
      | ans b _ _ => cases b <;> cases e
    refine ⟨_, rfl, rfl, _, rfl, ?_⟩
    refine ite2 (fun e => ?_) (fun n2 => ?_)
    · have e := (kind_eq f.tag 4).symm.trans e
      cases f with
      | wd p =>
        refine ⟨_, rfl, a, _, _, _, rfl, rfl, SqT.of hf, rfl, by show 2 ≤ sizeLine; decide, fun t ht => ?_⟩
        exact ⟨by show 1 ≤ sizeLine; decide, fun l hl => one (1, p) _ t l rfl ht rfl hl⟩
      | row b _ _ _ => cases b <;> cases e
      | dep _ _ _ => cases e
      | rel _ _ => cases e
      | ans b _ _ => cases b <;> cases e
    refine ⟨_, rfl, tA, _, rfl, .inr (sA H), rfl, rfl, _, rfl, ?_⟩
    have n1 : decide (f.tag = 3) = false := (kind_eq f.tag 3).symm.trans (Bool.eq_false_iff.mpr n1)
    have n2 : decide (f.tag = 4) = false := (kind_eq f.tag 4).symm.trans (Bool.eq_false_iff.mpr n2)
    refine ite2 (fun e => ?_) (fun n3 => ?_)
    · have e := (in_ans f.tag).symm.trans e
      cases f with
      | ans b p q =>
        refine ⟨_, rfl, a, _, _, _, rfl, rfl, SqT.of hf, rfl, by show 2 ≤ sizeLine; decide, fun t ht => ?_⟩
        have h1 := new_same (o := .tup [.str "request", .int p]) ht _ _ hf
        refine ⟨_, rfl, a, _, _, _, rfl, rfl, SqT.of h1, rfl, by show 2 ≤ sizeLine; decide, fun t2 ht2 => ?_⟩
        refine ⟨by show 2 ≤ sizeLine; decide, fun l hl => ?_⟩
        refine k _ l _ (((Ext.new ht).trans (Ext.new ht2)).trans (Ext.new hl)) upd_same ⟨rfl, fun i s' hs => ?_⟩
        match i, hs with
        | 0, hs =>
          cases hs
          exact ⟨t, rfl, new_same hl _ _ (new_same ht2 _ _ upd_same)⟩
        | 1, hs =>
          cases hs
          exact ⟨t2, rfl, new_same hl _ _ upd_same⟩
        | i + 2, hs => cases hs
      | row b _ _ _ => cases b <;> cases e
      | dep _ _ _ => cases e
      | rel _ _ => cases e
      | wd _ => cases e
    have n3 : decide (5 ≤ f.tag.val) = false := (in_ans f.tag).symm.trans (Bool.eq_false_iff.mpr n3)
    refine ⟨Nat.zero_le _, fun l hl => ?_⟩
    refine k _ l [] (Ext.new hl) upd_same ?_
    cases f with
    | row b _ _ _ => exact ⟨rfl, fun i s hs => by cases hs⟩
    | dep _ _ _ => exact ⟨rfl, fun i s hs => by cases hs⟩
    | rel _ _ => cases n1
    | wd _ => cases n2
    | ans b _ _ => cases b <;> cases n3
def spContr : Sp := fun vs H Q _ => ∃ (a b : Addr) (f g : Fact), vs = [.ref a, .ref b] ∧ FAt H a f ∧ FAt H b g ∧ ∀ H', Ext H H' → Q (.bl (contr f g)) H'
theorem scContr : FnScope ["row", "fact", "kind", "place"] ["row", "fact"] (defScope sContr) := ⟨rfl, rfl, rfl, by decide +kernel, rfl, by decide +kernel, by decide +kernel⟩
theorem ok_contr {f fS : Addr} {fd fdS : FuncData} (F : Fun K "contradicts" "contradicts" sContr f fd) (T : Names K mg) (GS : FnOk P w K mg base CX0 1 fS fdS ["fact"] spSup) (bS : Binds K fdS ["fact"] []) (kS : PySem.W.keepIn K (.ref fS) = true) (mS : mg "supposed_rows" = some (.ref fS)) :
    FnOk P w K mg base CX0 2 f fd ["row", "fact"] spContr := by
  refine F.ok scContr (fun vs H Q E h => ?_) (fun cdv A outer s H vs Q E hr h => ?_)
  · obtain ⟨a, b, f, g, rfl, _⟩ := h
    rfl
  · obtain ⟨a, b, f, g, rfl, hf, hg, k⟩ := h
    have hu := hu_of hr
    have nd := scContr.nd
    refine ⟨_, pss_one (ps_ret (pe_callB (cr_any rfl) rfl T.any (by decide +kernel) (pa_cons (pe_lc (own := [("kind", 2), ("place", 3)]) (g := gTup K 2 (gCons (gName 2) (gCons (gName 3) gNil))) (tt := tYes) rfl nd (pi_list (pe_call GS hr rfl mS kS bS .nil pass0 (pa_cons (pv 1) pa_nil))) (blkOk_by (N := ["row", "fact", "kind", "place"]) (sc := defScope sContr) (by decide +kernel))
      (fun _ _ _ _ _ => by exact (pg_tup rfl (pgs_cons (pg_name (i := 2) nd rfl (.inl rfl)) (pgs_cons (pg_name (i := 3) nd rfl (.inl rfl)) pgs_nil)))) (fun _ _ _ _ _ => pts_nil)
      (fun _ _ _ _ _ => pe_and (pe_cmpR op_eq (pv 3) (pe_ix (r := rIxT K) ix_tup (pv 0) pe_int (fun _ _ => rfl)) (nomark _)) (pe_one (pe_cmpR op_ne (pv 2) (pe_ix (r := rIxT K) ix_tup (pv 0) pe_int (fun _ _ => rfl)) (nomark _))))) pa_nil))), ?_⟩
    refine ⟨_, rfl, b, g, rfl, hg, fun H1 l xs k1 hl hS => ?_⟩
    refine ⟨l, rfl, ⟨_, SqL.of hl⟩, fun D hD => ?_⟩
    let fv : Fin 7 × Int → Bool := fun s => decide (s.2 = f.n1) && !decide (s.1 = f.tag)
    refine lc_list (K := K) (a := l) (xs := xs) (fun i H' => H' D = some (.lst (((g.sup.take i).map fv).map V.bl)) ∧ Ext H1 H') ⟨upd_same, Ext.new hD⟩ (fun i H' _ ⟨_, e⟩ => SqL.of (e _ _ hl)) ?_ ?_
    · rintro i x H2 hx ⟨d2, k2⟩
      have hi : i < xs.length := by
        rcases Nat.lt_or_ge i xs.length with h | h
        · exact h
        · rw [List.getElem?_eq_none h] at hx; cases hx
      have hi2 : i < g.sup.length := by rw [← hS.1]; exact hi
      have hsi := List.getElem?_eq_getElem hi2
      obtain ⟨t, h1, h2⟩ := hS.2 i _ hsi
      rw [hx] at h1
      cases h1
      have h2 := k2 _ _ h2
      have hf2 := k2 _ _ (k1 _ _ hf)
      have fin : ∀ c : Bool, fv g.sup[i] = c → ∃ ys, H2 D = some (.lst ys) ∧ ys.length < sizeLine ∧ (upd H2 D (.lst (ys ++ [V.bl c]))) D = some (.lst (((g.sup.take (i + 1)).map fv).map V.bl)) ∧ Ext H1 (upd H2 D (.lst (ys ++ [V.bl c]))) := fun c ec => by
        refine ⟨_, d2, ?_, ?_, fun a o e => ?_⟩
        · have h2 : g.sup.length ≤ 2 := by cases g <;> (show _ ≤ 2) <;> simp [Fact.sup]
          rw [List.length_map, List.length_map, List.length_take]
          exact small1000 (by omega)
        · rw [upd_same, take_succ_map fv hsi, List.map_append, ec]
          rfl
        · rw [upd_ne (ne_of_none e hD)]
          exact k2 a o e
      refine ⟨t, _, rfl, SqT.of h2, rfl, _, _, rfl, _, _, rfl, rfl, rfl, yes_of ?_⟩
      refine ⟨_, rfl, _, rfl, a, _, _, _, rfl, rfl, SqT.of hf2, at1 f, rfl, _, rfl, ?_⟩
      have e1 : decide (V.int g.sup[i].2 = V.int f.n1) = decide (g.sup[i].2 = f.n1) := by
        by_cases h : g.sup[i].2 = f.n1
        · rw [h]; simp
        · rw [decide_eq_false h]; exact decide_eq_false fun z => h (by injection z)
      refine ite2 (fun e => ?_) (fun e => ?_)
      · refine ⟨_, rfl, _, rfl, a, _, _, _, rfl, rfl, SqT.of hf2, at0 f, rfl, ?_⟩
        refine fin _ ?_
        show (decide (g.sup[i].2 = f.n1) && !decide (g.sup[i].1 = f.tag)) = _
        rw [← e1, e, Bool.true_and, ← kind_eq]
      · refine fin _ ?_
        show (decide (g.sup[i].2 = f.n1) && !decide (g.sup[i].1 = f.tag)) = _
        rw [← e1, Bool.eq_false_iff.mpr e, Bool.false_and]
    · rintro H2 ⟨d2, k2⟩
      refine ⟨D, _, rfl, SqL.of d2, ?_⟩
      rw [hS.1, List.take_length, List.any_map]
      exact k _ (k1.trans k2)
end
end Lw

set_option Elab.async false
set_option linter.all false
set_option maxRecDepth 100000
set_option maxHeartbeats 4000000
/-! values as data stay -/
namespace Gy
open L2 hiding Ext
open PySem PySem.Spec PyProof.Rows Gn Gr Gk Go Gt
theorem tup_ext {K : PySem.W.Frag} {H H' : Hp} {a : Addr} {xs : List V} (k : Ext H H') (h : SqT K H a xs) : SqT K H' a xs := by
  rcases h with (h | ⟨o, h⟩) | h
  · exact .inl (.inl (k _ _ h))
  · exact .inl (.inr ⟨o, k _ _ h⟩)
  · exact .inr h
mutual
theorem dp_ext {K : PySem.W.Frag} {H H' : Hp} (k : Ext H H') : ∀ (v : V) (x : PyData), Dp K H v x → Dp K H' v x
  | _, _, .non => .non
  | _, _, .bl b => .bl b
  | _, _, .int i => .int i
  | _, _, .str s => .str s
  | _, _, .lst e r => .lst (Same.seq k e) (dp_extAll k _ _ r)
  | _, _, .tup e r => .tup (tup_ext k e) (dp_extAll k _ _ r)
theorem dp_extAll {K : PySem.W.Frag} {H H' : Hp} (k : Ext H H') : ∀ (vs : List V) (xs : List PyData), DpAll K H vs xs → DpAll K H' vs xs
  | _, _, .nil => .nil
  | _, _, .cons e r => .cons (dp_ext k _ _ e) (dp_extAll k _ _ r)
end
end Gy

set_option Elab.async false
set_option linter.all false
set_option maxRecDepth 100000
set_option maxHeartbeats 4000000
namespace Lw
open L2 hiding Ext
open PySem PySem.Spec PyProof.Rows Gn Gr Gk Go Gt Gf Gy
theorem iteS2 {c : Bool} {A B : Prop} (h : c = true) (a : A) : if c = true then A else B := by
  rw [if_pos h]
  exact a
theorem iteN2 {c : Bool} {A B : Prop} (h : c = false) (b : B) : if c = true then A else B := by
  rw [if_neg (by rw [h]; exact Bool.false_ne_true)]
  exact b
section
variable {P : Program} {w : World} {K : PySem.W.Frag} {mg : Str → Option Value} {base : Heap}
theorem dec_int (x y : Int) : decide (V.int x = V.int y) = decide (x = y) := by
  by_cases h : x = y
  · rw [h]; simp
  · rw [decide_eq_false h]
    exact decide_eq_false fun z => h (by injection z)
/-! ### slot -/
def slotD : Fact → PyData
  | .row _ p _ _ => .tuple [.str "row", .int p]
  | .dep m _ _ => .tuple [.str "deposit", .int m]
  | .ans _ p q => .tuple [.str "answer", .int p, .int q]
  | _ => .none
theorem shaped_slot (f : Fact) : SeqAt.shaped (slotD f) = true := by
  cases f with
  | row b p n z =>
    exact shaped_tup fun x hx => by
      simp only [List.mem_cons, List.not_mem_nil, or_false] at hx
      rcases hx with rfl | rfl
      · decide +kernel
      · rfl
  | dep m n z =>
    exact shaped_tup fun x hx => by
      simp only [List.mem_cons, List.not_mem_nil, or_false] at hx
      rcases hx with rfl | rfl
      · decide +kernel
      · rfl
  | rel p z => rfl
  | wd p => rfl
  | ans b p q =>
    exact shaped_tup fun x hx => by
      simp only [List.mem_cons, List.not_mem_nil, or_false] at hx
      rcases hx with rfl | rfl | rfl
      · decide +kernel
      · rfl
      · rfl
def noSlot : Fact → Bool
  | .rel .. => true
  | .wd .. => true
  | _ => false
def spSlot (K : PySem.W.Frag) : Sp := fun vs H Q _ => ∃ (a : Addr) (f : Fact), vs = [.ref a] ∧ FAt H a f ∧ ∀ (H' : Hp) (v : V), Ext H H' → Dp K H' v (slotD f) → decide (v = .non) = noSlot f → Q v H'
theorem scSlot : FnScope ["fact", "kind"] ["fact"] (defScope sSlot) := ⟨rfl, rfl, rfl, by decide +kernel, rfl, by decide +kernel, by decide +kernel⟩
theorem at2a (b : Bool) (p q : Int) : atI (Fact.ans b p q).vals 2 = some (.int q) := (show atI (Fact.ans b p q).vals ((2 : Nat) : Int) = _ from atI_nat rfl)
theorem ok_slot {f : Addr} {fd : FuncData} (F : Fun K "slot" "slot" sSlot f fd) (T : Names K mg) : FnOk P w K mg base CX0 1 f fd ["fact"] (spSlot K) := by
  refine F.ok scSlot (fun vs H Q E h => ?_) (fun cdv A outer s H vs Q E hr h => ?_)
  · obtain ⟨a, f, rfl, _⟩ := h
    rfl
  · obtain ⟨a, f, rfl, hf, k⟩ := h
    have hu := hu_of hr
    have nd := scSlot.nd
    obtain ⟨tR, gR, sR⟩ := T.rows
    obtain ⟨tA, gA, sA⟩ := T.answers
    refine ⟨_, pss_cons (ps_set (i := 1) nd rfl (.inl rfl) (pe_ix ix_tup (pv 0) pe_int (fun _ _ => rfl)))
      (pss_cons (ps_if (pt_cmpR op_in_seq (pv 1) (pe_glob (v := .ref tR) rfl gR rfl) rfl) (pss_one (ps_ret (pe_tup (pa_cons pe_str (pa_cons (pe_ix ix_tup (pv 0) pe_int (fun _ _ => rfl)) pa_nil))))) pss_nil)
      (pss_cons (ps_if (pt_cmpR op_eq (pv 1) pe_str (nomark _)) (pss_one (ps_ret (pe_tup (pa_cons pe_str (pa_cons (pe_ix ix_tup (pv 0) pe_int (fun _ _ => rfl)) pa_nil))))) pss_nil)
      (pss_cons (ps_if (pt_cmpR op_in_seq (pv 1) (pe_glob (v := .ref tA) rfl gA rfl) rfl) (pss_one (ps_ret (pe_tup (pa_cons pe_str (pa_cons (pe_ix ix_tup (pv 0) pe_int (fun _ _ => rfl)) (pa_cons (pe_ix ix_tup (pv 0) pe_int (fun _ _ => rfl)) pa_nil)))))) pss_nil)
      (pss_one (ps_ret pe_non))))), ?_⟩
    refine ⟨_, rfl, a, _, _, _, rfl, rfl, SqT.of hf, at0 f, ?_⟩
    refine ⟨_, rfl, tR, _, rfl, .inr (sR H), rfl, rfl, _, rfl, ?_⟩
    show if inV (.str (kinds f.tag)) [.str "spender", .str "request"] = true then _ else _
    rw [in_rows]
    cases f with
    | row b p n z =>
      refine iteS2 (by cases b <;> rfl) ?_
      refine ⟨_, rfl, a, _, _, _, rfl, rfl, SqT.of hf, at1 _, by show 2 ≤ sizeLine; decide, fun t ht => ?_⟩
      exact k _ _ (Ext.new ht) (.tup (SqT.of upd_same) (.cons (.str _) (.cons (.int _) .nil))) rfl
    | dep m n z =>
      refine iteN2 rfl ?_
      refine ⟨_, rfl, rfl, _, rfl, iteS2 (by show decide (V.str (kinds 2) = V.str "deposit") = true; decide +kernel) ?_⟩
      refine ⟨_, rfl, a, _, _, _, rfl, rfl, SqT.of hf, at1 _, by show 2 ≤ sizeLine; decide, fun t ht => ?_⟩
      exact k _ _ (Ext.new ht) (.tup (SqT.of upd_same) (.cons (.str _) (.cons (.int _) .nil))) rfl
    | rel p z =>
      refine iteN2 rfl ?_
      refine ⟨_, rfl, rfl, _, rfl, iteN2 (by show decide (V.str (kinds 3) = V.str "deposit") = false; decide +kernel) ?_⟩
      refine ⟨_, rfl, tA, _, rfl, .inr (sA H), rfl, rfl, _, rfl, ?_⟩
      show if inV (.str (kinds (Fact.rel p z).tag)) [.str "consent", .str "refuse"] = true then _ else _
      rw [in_ans]
      exact iteN2 rfl (k _ _ Ext.refl .non rfl)
    | wd p =>
      refine iteN2 rfl ?_
      refine ⟨_, rfl, rfl, _, rfl, iteN2 (by show decide (V.str (kinds 4) = V.str "deposit") = false; decide +kernel) ?_⟩
      refine ⟨_, rfl, tA, _, rfl, .inr (sA H), rfl, rfl, _, rfl, ?_⟩
      show if inV (.str (kinds (Fact.wd p).tag)) [.str "consent", .str "refuse"] = true then _ else _
      rw [in_ans]
      exact iteN2 rfl (k _ _ Ext.refl .non rfl)
    | ans b p q =>
      refine iteN2 (by cases b <;> rfl) ?_
      refine ⟨_, rfl, rfl, _, rfl, iteN2 (by
        cases b
        · show decide (V.str (kinds 6) = V.str "deposit") = false; decide +kernel
        · show decide (V.str (kinds 5) = V.str "deposit") = false; decide +kernel) ?_⟩
      refine ⟨_, rfl, tA, _, rfl, .inr (sA H), rfl, rfl, _, rfl, ?_⟩
      show if inV (.str (kinds (Fact.ans b p q).tag)) [.str "consent", .str "refuse"] = true then _ else _
      rw [in_ans]
      refine iteS2 (by cases b <;> rfl) ?_
      refine ⟨_, rfl, a, _, _, _, rfl, rfl, SqT.of hf, at1 _, _, rfl, a, _, _, _, rfl, rfl, SqT.of hf, at2a b p q, by show 3 ≤ sizeLine; decide, fun t ht => ?_⟩
      exact k _ _ (Ext.new ht) (.tup (SqT.of upd_same) (.cons (.str _) (.cons (.int _) (.cons (.int _) .nil)))) rfl
/-! ### do_conflict -/
def slotB (f g : Fact) : Bool := !noSlot f && PyData.eqv (slotD f) (slotD g)
def isRow : Fact → Bool
  | .row .. => true
  | _ => false
def isDep : Fact → Bool
  | .dep .. => true
  | _ => false
def isAns : Fact → Bool
  | .ans .. => true
  | _ => false
theorem t_row (f : Fact) : decide (f.tag.val < 2) = isRow f := by
  cases f with
  | row b p n z => cases b <;> rfl
  | ans b p q => cases b <;> rfl
  | _ => rfl
theorem t_dep (f : Fact) : decide (f.tag = 2) = isDep f := by
  cases f with
  | row b p n z => cases b <;> rfl
  | ans b p q => cases b <;> rfl
  | _ => rfl
theorem t_ans (f : Fact) : decide (5 ≤ f.tag.val) = isAns f := by
  cases f with
  | row b p n z => cases b <;> rfl
  | ans b p q => cases b <;> rfl
  | _ => rfl
theorem contr_row (f : Fact) (b : Bool) (p : Int) (n : Str) (z : Int) : contr f (.row b p n z) = false := rfl
theorem conf_new (f g : Fact) : conf f g = if decide (f = g) = true then false else if slotB f g = true then true else if decide (f.tag.val < 2) = true then contr f g else (decide (g.tag.val < 2) && contr g f) := by
  have e1 : (("row" : Str) == "deposit") = false := by decide +kernel
  have e2 : (("row" : Str) == "answer") = false := by decide +kernel
  have e3 : (("deposit" : Str) == "row") = false := by decide +kernel
  have e4 : (("deposit" : Str) == "answer") = false := by decide +kernel
  have e5 : (("answer" : Str) == "row") = false := by decide +kernel
  have e6 : (("answer" : Str) == "deposit") = false := by decide +kernel
  unfold conf
  rw [t_row, t_row, t_dep, t_dep, t_ans, t_ans]
  by_cases h : f = g
  · rw [decide_eq_true h]
    rfl
  · rw [decide_eq_false h]
    cases f with
    | row b p n z => cases g <;> simp [slotB, noSlot, slotD, isRow, isDep, isAns, Fact.n1, PyData.eqv, PyData.eqvAll, contr_row, e1, e2, bd] <;> try exact decide_eq_decide.mpr Iff.rfl
    | dep m n z => cases g <;> simp [slotB, noSlot, slotD, isRow, isDep, isAns, Fact.n1, PyData.eqv, PyData.eqvAll, contr_row, e3, e4, bd] <;> try exact decide_eq_decide.mpr Iff.rfl
    | rel p z => cases g <;> simp [slotB, noSlot, slotD, isRow, isDep, isAns, PyData.eqv, PyData.eqvAll]
    | wd p => cases g <;> simp [slotB, noSlot, slotD, isRow, isDep, isAns, PyData.eqv, PyData.eqvAll]
    | ans b p q => cases g <;> simp [slotB, noSlot, slotD, tailEq, isRow, isDep, isAns, Fact.n1, Fact.drest, PyData.eqv, PyData.eqvAll, e5, e6, bd]
def spConf : Sp := fun vs H Q _ => ∃ (a b : Addr) (f g : Fact), vs = [.ref a, .ref b] ∧ FAt H a f ∧ FAt H b g ∧ f.ok ∧ g.ok ∧ ∀ H', Ext H H' → Q (.bl (conf f g)) H'
theorem scConf : FnScope ["one", "other"] ["one", "other"] (defScope sConf) := ⟨rfl, rfl, rfl, by decide +kernel, rfl, by decide +kernel, by decide +kernel⟩
theorem ok_conf {f fC fS : Addr} {fd fdC fdS : FuncData} (F : Fun K "do_conflict" "do_conflict" sConf f fd) (T : Names K mg) (GS : FnOk P w K mg base CX0 1 fS fdS ["fact"] (spSlot K)) (bS : Binds K fdS ["fact"] []) (kS : PySem.W.keepIn K (.ref fS) = true) (mS : mg "slot" = some (.ref fS)) (GC : FnOk P w K mg base CX0 2 fC fdC ["row", "fact"] spContr) (bC : Binds K fdC ["row", "fact"] []) (kC : PySem.W.keepIn K (.ref fC) = true) (mC : mg "contradicts" = some (.ref fC)) :
    FnOk P w K mg base CX0 3 f fd ["one", "other"] spConf := by
  refine F.ok scConf (fun vs H Q E h => ?_) (fun cdv A outer s H vs Q E hr h => ?_)
  · obtain ⟨a, b, f, g, rfl, _⟩ := h
    rfl
  · have hr1 : Room 1 (A.deeper (envOfC "do_conflict" (defScope sConf) s.heap.objs.size f cdv)) := hr.mono (by decide)
    obtain ⟨a, b, f, g, rfl, hf, hg, fo, go, k⟩ := h
    have hu := hu_of hr
    have nd := scConf.nd
    obtain ⟨tR, gR, sR⟩ := T.rows
    obtain ⟨tA, gA, sA⟩ := T.answers
    refine ⟨_, pss_cons (ps_if (pt_cmpR (op_eqD hr.units) (pv 0) (pv 1) (nomark _)) (pss_one (ps_ret pe_bl)) pss_nil)
      (pss_cons (ps_if (PT.weaken (t' := tF2 0 1 slotB) (PW.pt (pw_and (pt_cmpR op_notN (pe_call GS hr1 rfl mS kS bS .nil pass0 (pa_cons (pv 0) pa_nil)) pe_non (nomark _)) (pw_and1 (pt_cmpR (op_eqD hr.units) (pe_call GS hr1 rfl mS kS bS .nil pass0 (pa_cons (pv 0) pa_nil)) (pe_call GS hr1 rfl mS kS bS .nil pass0 (pa_cons (pv 1) pa_nil)) (nomark _))))) ?w2) (pss_one (ps_ret pe_bl)) pss_nil)
      (pss_cons (ps_if (pt_cmpR op_in_seq (pe_ix ix_tup (pv 0) pe_int (fun _ _ => rfl)) (pe_glob (v := .ref tR) rfl gR rfl) rfl) (pss_one (ps_ret (pe_call GC hr rfl mC kC bC .nil pass0 (pa_cons (pv 0) (pa_cons (pv 1) pa_nil))))) pss_nil)
      (pss_one (ps_ret (pe_and (pe_cmpR op_in_seq (pe_ix ix_tup (pv 1) pe_int (fun _ _ => rfl)) (pe_glob (v := .ref tR) rfl gR rfl) rfl) (pe_one (pe_call GC hr rfl mC kC bC .nil pass0 (pa_cons (pv 1) (pa_cons (pv 0) pa_nil))))))))), ?_⟩
    case w2 =>
      rintro σ H k ⟨p, q, f, g, hi, hj, hf, hg, fo, go, hk⟩
      refine ⟨_, hi, p, f, rfl, hf, fun H1 v1 k1 d1 n1 => ?_⟩
      refine ⟨rfl, _, rfl, ?_⟩
      show if (!decide (v1 = V.non)) = true then _ else _
      rw [n1]
      cases hn : noSlot f with
      | true =>
        have : slotB f g = false := by unfold slotB; rw [hn]; rfl
        rw [this] at hk
        exact iteF (hk H1 k1)
      | false =>
        have : slotB f g = PyData.eqv (slotD f) (slotD g) := by unfold slotB; rw [hn]; rfl
        rw [this] at hk
        refine iteT ?_
        refine ⟨_, hi, p, f, rfl, k1 _ _ hf, fun H2 v2 k2 d2 _ => ?_⟩
        refine ⟨_, hj, q, g, rfl, k2 _ _ (k1 _ _ hg), fun H3 v3 k3 d3 _ => ?_⟩
        exact ⟨_, _, dp_ext k3 _ _ d2, d3, shaped_slot f, shaped_slot g, _, rfl, hk H3 ((k1.trans k2).trans k3)⟩
    refine ⟨_, rfl, _, rfl, _, _, dp_fact hf, dp_fact hg, shaped_fact fo, shaped_fact go, _, rfl, ?_⟩
    rw [eqv_fact]
    rw [conf_new] at k
    refine ite2 (fun e => ?_) (fun e1 => ?_)
    · rw [if_pos e] at k
      exact k H Ext.refl
    rw [if_neg e1] at k
    refine ⟨a, b, f, g, rfl, rfl, hf, hg, fo, go, fun H1 k1 => ?_⟩
    have hf1 := k1 _ _ hf
    have hg1 := k1 _ _ hg
    refine ite2 (fun e => ?_) (fun e2 => ?_)
    · rw [if_pos e] at k
      exact k H1 k1
    rw [if_neg e2] at k
    refine ⟨_, rfl, a, _, _, _, rfl, rfl, SqT.of hf1, at0 f, tR, _, rfl, .inr (sR H1), rfl, rfl, _, rfl, ?_⟩
    refine ite2 (fun e => ?_) (fun e3 => ?_)
    · rw [if_pos ((in_rows f.tag).symm.trans e)] at k
      exact ⟨_, rfl, _, rfl, a, b, f, g, rfl, hf1, hg1, fun H2 k2 => k H2 (k1.trans k2)⟩
    rw [if_neg (fun z => e3 ((in_rows f.tag).trans z))] at k
    refine ⟨_, rfl, b, _, _, _, rfl, rfl, SqT.of hg1, at0 g, tR, _, rfl, .inr (sR H1), rfl, rfl, _, rfl, ?_⟩
    refine ite2 (fun e => ?_) (fun e4 => ?_)
    · rw [(in_rows g.tag).symm.trans e, Bool.true_and] at k
      exact ⟨_, rfl, _, rfl, b, a, g, f, rfl, hg1, hf1, fun H2 k2 => k H2 (k1.trans k2)⟩
    · have e5 : decide (g.tag.val < 2) = false := (in_rows g.tag).symm.trans (Bool.eq_false_iff.mpr e4)
      rw [e5, Bool.false_and] at k
      exact k H1 k1
end
end Lw

set_option Elab.async false
set_option linter.all false
set_option maxRecDepth 100000
set_option maxHeartbeats 4000000
namespace Lw
open L2 hiding Ext
open PySem PySem.Spec PyProof.Rows Gn Gr Gk Go Gt Gf
abbrev sLConf : Stmt := top 14
/-- the law's own answer, the one way round -/
def Fact.n2 : Fact → Int
  | .ans _ _ q => q
  | _ => 0
def half (f g : Fact) : Option Bool :=
  if (decide (f.tag.val < 2) && decide (g.tag.val < 2)) = true then some (decide (f.n1 = g.n1) && !decide (f = g))
  else if (decide (f.tag = 2) && decide (g.tag = 2)) = true then some (decide (f.n1 = g.n1) && !decide (f = g))
  else if (decide (f.tag = 5) && (decide (g.tag = 6) && tailEq f g)) = true then some true
  else if (decide (f.tag = 1) && (decide (g.tag = 3) && decide (f.n1 = g.n1))) = true then some true
  else if (decide (f.tag = 0) && (decide (4 ≤ g.tag.val) && decide (f.n1 = g.n1))) = true then some true
  else if (decide (f.tag = 1) && (decide (5 ≤ g.tag.val) && decide (f.n1 = g.n2))) = true then some true
  else none
theorem tail_ans (b b' : Bool) (p q p' q' : Int) : tailEq (.ans b p q) (.ans b' p' q') = (decide (p = p') && decide (q = q')) := by
  unfold tailEq
  simp [PyData.eqv, PyData.eqvAll, Fact.n1, Fact.drest, bd]
def lo2 : Fin 7 → Bool
  | 0 => true
  | 1 => true
  | _ => false
theorem t_lt2 (t : Fin 7) : decide (t.val < 2) = lo2 t := by revert t; decide
def hi5 : Fin 7 → Bool
  | 5 => true
  | 6 => true
  | _ => false
theorem t_ge5 (t : Fin 7) : decide (5 ≤ t.val) = hi5 t := by revert t; decide
def hi4 : Fin 7 → Bool
  | 4 => true
  | 5 => true
  | 6 => true
  | _ => false
theorem t_ge4 (t : Fin 7) : decide (4 ≤ t.val) = hi4 t := by revert t; decide
theorem og1 (x y : Int) : decide (x = y) = (if decide (y = x) = true then some true else none).getD false := by
  by_cases h : x = y
  · subst h; simp
  · have h' := Ne.symm h
    simp [h, h']
theorem og2 (x y : Int) : decide (x = y) = (if y = x then some true else none).getD false := by
  by_cases h : x = y
  · subst h; simp
  · have h' := Ne.symm h
    simp [h, h']
theorem og3 (x y : Int) : decide (x = y) = (if x = y then some true else none).getD false := by
  by_cases h : x = y
  · subst h; simp
  · simp [h]
theorem law_conf (f g : Fact) : conf f g = (half f g).getD ((half g f).getD false) := by
  unfold conf half
  simp only [t_lt2, t_ge5, t_ge4]
  rcases f with ⟨_ | _, p, n, z⟩ | ⟨p, n, z⟩ | ⟨p, z⟩ | ⟨p⟩ | ⟨_ | _, p, q⟩ <;> rcases g with ⟨_ | _, p', n', z'⟩ | ⟨p', n', z'⟩ | ⟨p', z'⟩ | ⟨p'⟩ | ⟨_ | _, p', q'⟩ <;>
    by_cases h : p = p' <;> (try subst h) <;> (try have h' := Ne.symm h) <;> simp_all [contr, Fact.sup, Fact.tag, Fact.n1, Fact.n2, tail_ans, lo2, hi5, hi4]
  all_goals first | exact og1 _ _ | exact og2 _ _ | exact og3 _ _
end Lw

set_option Elab.async false
set_option linter.all false
set_option maxRecDepth 100000
set_option maxHeartbeats 4000000
namespace Lw
open L2 hiding Ext
open PySem PySem.Spec PyProof.Rows Gn Gr Gk Go Gt Gf
section
variable {P : Program} {w : World} {K : PySem.W.Frag} {mg : Str → Option Value} {base : Heap}
theorem at2 {g : Fact} (h : decide (5 ≤ g.tag.val) = true) : atI g.vals 2 = some (.int g.n2) := by
  cases g with
  | ans b p q => exact (show atI _ ((2 : Nat) : Int) = _ from atI_nat rfl)
  | row b _ _ _ => cases b <;> cases h
  | dep _ _ _ => cases h
  | rel _ _ => cases h
  | wd _ => cases h
theorem scLConf : FnScope ["_law_left", "_law_right", "_law_first", "_law_second"] ["_law_left", "_law_right"] (defScope sLConf) := ⟨rfl, rfl, rfl, by decide +kernel, rfl, by decide +kernel, by decide +kernel⟩
theorem ok_lconf {f : Addr} {fd : FuncData} (F : Fun K "_law_conflicts" "_law_conflicts" sLConf f fd) : FnOk P w K mg base CX0 1 f fd ["_law_left", "_law_right"] spConf := by
  refine F.ok scLConf (fun vs H Q E h => ?_) (fun cdv A outer s H vs Q E hr h => ?_)
  · obtain ⟨a, b, f, g, rfl, _⟩ := h
    rfl
  · obtain ⟨a, b, f, g, rfl, hf, hg, fo, go, k⟩ := h
    have hu := hu_of hr
    have nd := scLConf.nd
    refine ⟨_, pss_cons (ps_for PassesOwn.never rfl (pi_list (pe_lst (pa_cons (pe_tup (pa_cons (pv 0) (pa_cons (pv 1) pa_nil))) (pa_cons (pe_tup (pa_cons (pv 1) (pa_cons (pv 0) pa_nil))) pa_nil)))) (by exact (pg_tup rfl (pgs_cons (pg_name (i := 2) nd rfl (.inl rfl)) (pgs_cons (pg_name (i := 3) nd rfl (.inl rfl)) pgs_nil))))
      (pss_cons (ps_if (PT.weaken (t' := tF2 2 3 fun f g => decide (f.tag.val < 2) && decide (g.tag.val < 2)) (PW.pt (pw_and (pt_cmpR op_in_seq (pe_ix ix_tup (pv 2) pe_int (fun _ _ => rfl)) (pe_tup (pa_cons pe_str (pa_cons pe_str pa_nil))) rfl) (pw_and1 (pt_cmpR op_in_seq (pe_ix ix_tup (pv 3) pe_int (fun _ _ => rfl)) (pe_tup (pa_cons pe_str (pa_cons pe_str pa_nil))) rfl)))) ?w1)
        (pss_one (ps_ret (PE.weaken (t' := eF2 2 3 fun f g => decide (f.n1 = g.n1) && !decide (f = g)) (pe_and (pe_cmpR op_eq (pe_ix ix_tup (pv 2) pe_int (fun _ _ => rfl)) (pe_ix ix_tup (pv 3) pe_int (fun _ _ => rfl)) (nomark _)) (pe_one (pe_cmpR (op_neD hr.units) (pv 2) (pv 3) (nomark _)))) ?r1))) pss_nil)
      (pss_cons (ps_if (PT.weaken (t' := tF2 2 3 fun f g => decide (f.tag = 2) && decide (g.tag = 2)) (PW.pt (pw_and (pt_cmpR op_eq (pe_ix ix_tup (pv 2) pe_int (fun _ _ => rfl)) pe_str (nomark _)) (pw_and1 (pt_cmpR op_eq (pe_ix ix_tup (pv 3) pe_int (fun _ _ => rfl)) pe_str (nomark _))))) ?w2)
        (pss_one (ps_ret (PE.weaken (t' := eF2 2 3 fun f g => decide (f.n1 = g.n1) && !decide (f = g)) (pe_and (pe_cmpR op_eq (pe_ix ix_tup (pv 2) pe_int (fun _ _ => rfl)) (pe_ix ix_tup (pv 3) pe_int (fun _ _ => rfl)) (nomark _)) (pe_one (pe_cmpR (op_neD hr.units) (pv 2) (pv 3) (nomark _)))) ?r2))) pss_nil)
      (pss_cons (ps_if (PT.weaken (t' := tF2 2 3 fun f g => decide (f.tag = 5) && (decide (g.tag = 6) && tailEq f g)) (PW.pt (pw_and (pt_cmpR op_eq (pe_ix ix_tup (pv 2) pe_int (fun _ _ => rfl)) pe_str (nomark _)) (pw_and (pt_cmpR op_eq (pe_ix ix_tup (pv 3) pe_int (fun _ _ => rfl)) pe_str (nomark _)) (pw_and1 (pt_cmpR (op_eqD hr.units) (pe_slice sl_tup (pv 2) (po_some pe_int) po_none) (pe_slice sl_tup (pv 3) (po_some pe_int) po_none) (nomark _)))))) ?w3)
        (pss_one (ps_ret pe_bl)) pss_nil)
      (pss_cons (ps_if (PT.weaken (t' := tF2 2 3 fun f g => decide (f.tag = 1) && (decide (g.tag = 3) && decide (f.n1 = g.n1))) (PW.pt (pw_and (pt_cmpR op_eq (pe_ix ix_tup (pv 2) pe_int (fun _ _ => rfl)) pe_str (nomark _)) (pw_and (pt_cmpR op_eq (pe_ix ix_tup (pv 3) pe_int (fun _ _ => rfl)) pe_str (nomark _)) (pw_and1 (pt_cmpR op_eq (pe_ix ix_tup (pv 2) pe_int (fun _ _ => rfl)) (pe_ix ix_tup (pv 3) pe_int (fun _ _ => rfl)) (nomark _)))))) ?w4)
        (pss_one (ps_ret pe_bl)) pss_nil)
      (pss_cons (ps_if (PT.weaken (t' := tF2 2 3 fun f g => decide (f.tag = 0) && (decide (4 ≤ g.tag.val) && decide (f.n1 = g.n1))) (PW.pt (pw_and (pt_cmpR op_eq (pe_ix ix_tup (pv 2) pe_int (fun _ _ => rfl)) pe_str (nomark _)) (pw_and (pt_cmpR op_in_seq (pe_ix ix_tup (pv 3) pe_int (fun _ _ => rfl)) (pe_tup (pa_cons pe_str (pa_cons pe_str (pa_cons pe_str pa_nil)))) rfl) (pw_and1 (pt_cmpR op_eq (pe_ix ix_tup (pv 2) pe_int (fun _ _ => rfl)) (pe_ix ix_tup (pv 3) pe_int (fun _ _ => rfl)) (nomark _)))))) ?w5)
        (pss_one (ps_ret pe_bl)) pss_nil)
      (pss_one (ps_if (PT.weaken (t' := tF2 2 3 fun f g => decide (f.tag = 1) && (decide (5 ≤ g.tag.val) && decide (f.n1 = g.n2))) (PW.pt (pw_and (pt_cmpR op_eq (pe_ix ix_tup (pv 2) pe_int (fun _ _ => rfl)) pe_str (nomark _)) (pw_and (pt_cmpR op_in_seq (pe_ix ix_tup (pv 3) pe_int (fun _ _ => rfl)) (pe_tup (pa_cons pe_str (pa_cons pe_str pa_nil))) rfl) (pw_and1 (pt_cmpR op_eq (pe_ix ix_tup (pv 2) pe_int (fun _ _ => rfl)) (pe_ix ix_tup (pv 3) pe_int (fun _ _ => rfl)) (nomark _)))))) ?w6)
        (pss_one (ps_ret pe_bl)) pss_nil))))))))
      (pss_one (ps_ret pe_bl)), ?_⟩
    case w1 =>
      rintro σ H k ⟨p, q, f, g, hi, hj, hf, hg, fo, go, hk⟩
      refine ⟨_, hi, p, _, _, _, rfl, rfl, SqT.of hf, at0 f, by show 2 ≤ sizeLine; decide, fun t ht => ?_⟩
      refine ⟨t, _, rfl, .inr (SqT.of upd_same), rfl, rfl, _, rfl, ?_⟩
      have hg1 := new_same (o := .tup [.str "spender", .str "request"]) ht _ _ hg
      have k1 : Ext H (upd H t (.tup [.str "spender", .str "request"])) := Ext.new ht
      generalize upd H t (.tup [.str "spender", .str "request"]) = H1 at hg1 k1 ⊢
      refine ite2 (fun e => ?_) (fun e => ?_)
      · refine ⟨_, hj, q, _, _, _, rfl, rfl, SqT.of hg1, at0 g, by show 2 ≤ sizeLine; decide, fun t2 ht2 => ?_⟩
        have hk : k (decide (f.tag.val < 2) && decide (g.tag.val < 2)) _ := hk _ (k1.trans (Ext.new (o := .tup [.str "spender", .str "request"]) ht2))
        rw [← in_rows, show inV _ _ = true from e, Bool.true_and, ← in_rows] at hk
        exact ⟨t2, _, rfl, .inr (SqT.of upd_same), rfl, rfl, _, rfl, hk⟩
      · have hk : k (decide (f.tag.val < 2) && decide (g.tag.val < 2)) _ := hk _ k1
        rw [← in_rows, show inV _ _ = false from Bool.eq_false_iff.mpr e, Bool.false_and] at hk
        exact hk
    case r1 =>
      rintro σ H k ⟨p, q, f, g, hi, hj, hf, hg, fo, go, hk⟩
      have hk : k (.bl (decide (f.n1 = g.n1) && !decide (f = g))) H := hk H Ext.refl
      refine ⟨_, hi, p, _, _, _, rfl, rfl, SqT.of hf, at1 f, _, hj, q, _, _, _, rfl, rfl, SqT.of hg, at1 g, rfl, _, rfl, ?_⟩
      rw [dec_int]
      refine ite2 (fun e => ?_) (fun e => ?_)
      · rw [e, Bool.true_and, ← eqv_fact] at hk
        exact ⟨_, hi, _, hj, _, _, dp_fact hf, dp_fact hg, shaped_fact fo, shaped_fact go, hk⟩
      · rw [Bool.eq_false_iff.mpr e, Bool.false_and] at hk
        exact hk
    case r2 =>
      rintro σ H k ⟨p, q, f, g, hi, hj, hf, hg, fo, go, hk⟩
      have hk : k (.bl (decide (f.n1 = g.n1) && !decide (f = g))) H := hk H Ext.refl
      refine ⟨_, hi, p, _, _, _, rfl, rfl, SqT.of hf, at1 f, _, hj, q, _, _, _, rfl, rfl, SqT.of hg, at1 g, rfl, _, rfl, ?_⟩
      rw [dec_int]
      refine ite2 (fun e => ?_) (fun e => ?_)
      · rw [e, Bool.true_and, ← eqv_fact] at hk
        exact ⟨_, hi, _, hj, _, _, dp_fact hf, dp_fact hg, shaped_fact fo, shaped_fact go, hk⟩
      · rw [Bool.eq_false_iff.mpr e, Bool.false_and] at hk
        exact hk
    case w2 =>
      rintro σ H k ⟨p, q, f, g, hi, hj, hf, hg, fo, go, hk⟩
      refine ⟨_, hi, p, _, _, _, rfl, rfl, SqT.of hf, at0 f, rfl, _, rfl, ?_⟩
      have hk : k (decide (f.tag = 2) && decide (g.tag = 2)) H := hk H Ext.refl
      rw [← kind_eq, ← kind_eq] at hk
      refine ite2 (fun e => ?_) (fun e => ?_)
      · rw [show decide (V.str (kinds f.tag) = V.str (kinds 2)) = true from e, Bool.true_and] at hk
        exact ⟨_, hj, q, _, _, _, rfl, rfl, SqT.of hg, at0 g, rfl, _, rfl, hk⟩
      · rw [show decide (V.str (kinds f.tag) = V.str (kinds 2)) = false from Bool.eq_false_iff.mpr e, Bool.false_and] at hk
        exact hk
    case w3 =>
      rintro σ H k ⟨p, q, f, g, hi, hj, hf, hg, fo, go, hk⟩
      have hk : ∀ H', Ext H H' → k (decide (f.tag = 5) && (decide (g.tag = 6) && tailEq f g)) H' := hk
      rw [← kind_eq, ← kind_eq] at hk
      refine ⟨_, hi, p, _, _, _, rfl, rfl, SqT.of hf, at0 f, rfl, _, rfl, ?_⟩
      refine ite2 (fun e => ?_) (fun e => ?_)
      · rw [show decide (V.str (kinds f.tag) = V.str (kinds 5)) = true from e, Bool.true_and] at hk
        refine ⟨_, hj, q, _, _, _, rfl, rfl, SqT.of hg, at0 g, rfl, _, rfl, ?_⟩
        refine ite2 (fun e => ?_) (fun e => ?_)
        · rw [show decide (V.str (kinds g.tag) = V.str (kinds 6)) = true from e, Bool.true_and] at hk
          refine ⟨_, hi, 1, rfl, p, f.vals, rfl, SqT.of hf, cut_no f, fun u hu => ?_⟩
          have hp4 : (upd H u (.tup (cutV f.vals (some 1) none))) u = some (.tup (.int f.n1 :: f.rest)) := by rw [upd_same, cut1]
          have hg4 := new_same (o := .tup (cutV f.vals (some 1) none)) hu _ _ hg
          have k4 : Ext H (upd H u (.tup (cutV f.vals (some 1) none))) := Ext.new hu
          generalize upd H u (.tup (cutV f.vals (some 1) none)) = H4 at hp4 hg4 k4 ⊢
          refine ⟨_, hj, 1, rfl, q, g.vals, rfl, SqT.of hg4, cut_no g, fun u2 hu2 => ?_⟩
          have hq5 : (upd H4 u2 (.tup (cutV g.vals (some 1) none))) u2 = some (.tup (.int g.n1 :: g.rest)) := by rw [upd_same, cut1]
          exact ⟨_, _, dp_tail (new_same hu2 _ _ hp4), dp_tail hq5, shaped_tail fo, shaped_tail go, _, rfl, hk _ (k4.trans (Ext.new hu2))⟩
        · rw [show decide (V.str (kinds g.tag) = V.str (kinds 6)) = false from Bool.eq_false_iff.mpr e, Bool.false_and] at hk
          exact hk H Ext.refl
      · rw [show decide (V.str (kinds f.tag) = V.str (kinds 5)) = false from Bool.eq_false_iff.mpr e, Bool.false_and] at hk
        exact hk H Ext.refl
    case w4 =>
      rintro σ H k ⟨p, q, f, g, hi, hj, hf, hg, fo, go, hk⟩
      have hk : k (decide (f.tag = 1) && (decide (g.tag = 3) && decide (f.n1 = g.n1))) H := hk H Ext.refl
      rw [← kind_eq, ← kind_eq, ← dec_int] at hk
      refine ⟨_, hi, p, _, _, _, rfl, rfl, SqT.of hf, at0 f, rfl, _, rfl, ?_⟩
      refine ite2 (fun e => ?_) (fun e => ?_)
      · rw [show decide (V.str (kinds f.tag) = V.str (kinds 1)) = true from e, Bool.true_and] at hk
        refine ⟨_, hj, q, _, _, _, rfl, rfl, SqT.of hg, at0 g, rfl, _, rfl, ?_⟩
        refine ite2 (fun e => ?_) (fun e => ?_)
        · rw [show decide (V.str (kinds g.tag) = V.str (kinds 3)) = true from e, Bool.true_and] at hk
          exact ⟨_, hi, p, _, _, _, rfl, rfl, SqT.of hf, at1 f, _, hj, q, _, _, _, rfl, rfl, SqT.of hg, at1 g, rfl, _, rfl, hk⟩
        · rw [show decide (V.str (kinds g.tag) = V.str (kinds 3)) = false from Bool.eq_false_iff.mpr e, Bool.false_and] at hk
          exact hk
      · rw [show decide (V.str (kinds f.tag) = V.str (kinds 1)) = false from Bool.eq_false_iff.mpr e, Bool.false_and] at hk
        exact hk
    case w5 =>
      rintro σ H k ⟨p, q, f, g, hi, hj, hf, hg, fo, go, hk⟩
      have hk : ∀ H', Ext H H' → k (decide (f.tag = 0) && (decide (4 ≤ g.tag.val) && decide (f.n1 = g.n1))) H' := hk
      rw [← kind_eq, ← in_three, ← dec_int] at hk
      refine ⟨_, hi, p, _, _, _, rfl, rfl, SqT.of hf, at0 f, rfl, _, rfl, ?_⟩
      refine ite2 (fun e => ?_) (fun e => ?_)
      · rw [show decide (V.str (kinds f.tag) = V.str (kinds 0)) = true from e, Bool.true_and] at hk
        refine ⟨_, hj, q, _, _, _, rfl, rfl, SqT.of hg, at0 g, by show 3 ≤ sizeLine; decide, fun t ht => ?_⟩
        refine ⟨t, _, rfl, .inr (SqT.of upd_same), rfl, rfl, _, rfl, ?_⟩
        have hf1 := new_same (o := .tup [.str "consent", .str "refuse", .str "withdrawn"]) ht _ _ hf
        have hg1 := new_same (o := .tup [.str "consent", .str "refuse", .str "withdrawn"]) ht _ _ hg
        have hk := hk _ (Ext.new (o := .tup [.str "consent", .str "refuse", .str "withdrawn"]) ht)
        refine ite2 (fun e => ?_) (fun e => ?_)
        · rw [show inV _ _ = true from e, Bool.true_and] at hk
          exact ⟨_, hi, p, _, _, _, rfl, rfl, SqT.of hf1, at1 f, _, hj, q, _, _, _, rfl, rfl, SqT.of hg1, at1 g, rfl, _, rfl, hk⟩
        · rw [show inV _ _ = false from Bool.eq_false_iff.mpr e, Bool.false_and] at hk
          exact hk
      · rw [show decide (V.str (kinds f.tag) = V.str (kinds 0)) = false from Bool.eq_false_iff.mpr e, Bool.false_and] at hk
        exact hk H Ext.refl
    case w6 =>
      rintro σ H k ⟨p, q, f, g, hi, hj, hf, hg, fo, go, hk⟩
      have hk : ∀ H', Ext H H' → k (decide (f.tag = 1) && (decide (5 ≤ g.tag.val) && decide (f.n1 = g.n2))) H' := hk
      rw [← kind_eq, ← dec_int] at hk
      refine ⟨_, hi, p, _, _, _, rfl, rfl, SqT.of hf, at0 f, rfl, _, rfl, ?_⟩
      refine ite2 (fun e => ?_) (fun e => ?_)
      · rw [show decide (V.str (kinds f.tag) = V.str (kinds 1)) = true from e, Bool.true_and] at hk
        refine ⟨_, hj, q, _, _, _, rfl, rfl, SqT.of hg, at0 g, by show 2 ≤ sizeLine; decide, fun t ht => ?_⟩
        refine ⟨t, _, rfl, .inr (SqT.of upd_same), rfl, rfl, _, rfl, ?_⟩
        have hf1 := new_same (o := .tup [.str "consent", .str "refuse"]) ht _ _ hf
        have hg1 := new_same (o := .tup [.str "consent", .str "refuse"]) ht _ _ hg
        have hk := hk _ (Ext.new (o := .tup [.str "consent", .str "refuse"]) ht)
        refine ite2 (fun e => ?_) (fun e => ?_)
        · have e5 : decide (5 ≤ g.tag.val) = true := (in_ans g.tag).symm.trans e
          rw [e5, Bool.true_and] at hk
          exact ⟨_, hi, p, _, _, _, rfl, rfl, SqT.of hf1, at1 f, _, hj, q, _, _, _, rfl, rfl, SqT.of hg1, at2 e5, rfl, _, rfl, hk⟩
        · rw [show decide (5 ≤ g.tag.val) = false from (in_ans g.tag).symm.trans (Bool.eq_false_iff.mpr e), Bool.false_and] at hk
          exact hk
      · rw [show decide (V.str (kinds f.tag) = V.str (kinds 1)) = false from Bool.eq_false_iff.mpr e, Bool.false_and] at hk
        exact hk H Ext.refl
    refine ⟨_, rfl, _, rfl, by show 2 ≤ sizeLine; decide, fun t1 ht1 => ?_⟩
    refine ⟨_, rfl, _, rfl, by show 2 ≤ sizeLine; decide, fun t2 ht2 => ?_⟩
    refine ⟨by show 2 ≤ sizeLine; decide, fun l hl => ?_⟩
    have e1 := new_same (o := .lst [.ref t1, .ref t2]) hl _ _ (new_same (o := .tup [.ref b, .ref a]) ht2 _ _ (upd_same (H := H) (a := t1) (o := .tup [.ref a, .ref b])))
    have e2 := new_same (o := .lst [.ref t1, .ref t2]) hl _ _ (upd_same (H := upd H t1 (.tup [.ref a, .ref b])) (a := t2) (o := .tup [.ref b, .ref a]))
    have e3 : (upd (upd (upd H t1 (.tup [.ref a, .ref b])) t2 (.tup [.ref b, .ref a])) l (.lst [.ref t1, .ref t2])) l = some (.lst [.ref t1, .ref t2]) := upd_same
    have k0 : Ext H (upd (upd (upd H t1 (.tup [.ref a, .ref b])) t2 (.tup [.ref b, .ref a])) l (.lst [.ref t1, .ref t2])) := ((Ext.new ht1).trans (Ext.new ht2)).trans (Ext.new hl)
    refine ⟨l, rfl, ⟨_, SqL.of e3⟩, ?_⟩
    generalize upd (upd (upd H t1 (.tup [.ref a, .ref b])) t2 (.tup [.ref b, .ref a])) l (.lst [.ref t1, .ref t2]) = H0 at e1 e2 e3 k0 ⊢
    have lc := law_conf f g
    refine for_list (K := K) (a := l) (xs := [.ref t1, .ref t2]) (fun i σ H' => (∃ (v2 v3 : Option V), σ = [some (.ref a), some (.ref b), v2, v3]) ∧ Ext H0 H' ∧ (1 ≤ i → half f g = none) ∧ (2 ≤ i → half g f = none))
      ⟨⟨none, none, rfl⟩, Ext.refl, fun h => by omega, fun h => by omega⟩ (fun i σ H' _ ⟨_, z, _⟩ => SqL.of (z _ _ e3)) ?_ ?_
    · rintro i x σ H1 hx ⟨⟨v2, v3, rfl⟩, k1, n1, n2⟩
      obtain ⟨t, p, q, f', g', rfl, ht, hp, hq, fo', go', hret, hnext⟩ : ∃ (t p q : Addr) (f' g' : Fact), x = V.ref t ∧ H1 t = some (.tup [.ref p, .ref q]) ∧ FAt H1 p f' ∧ FAt H1 q g' ∧ f'.ok ∧ g'.ok ∧ (∀ r, half f' g' = some r → conf f g = r) ∧ (half f' g' = none → (1 ≤ i + 1 → half f g = none) ∧ (2 ≤ i + 1 → half g f = none)) := by
        match i, hx, n1 with
        | 0, hx, _ =>
          cases hx
          refine ⟨t1, a, b, f, g, rfl, k1 _ _ e1, k1 _ _ (k0 _ _ hf), k1 _ _ (k0 _ _ hg), fo, go, fun r e => by rw [lc, e]; rfl, fun e => ⟨fun _ => e, fun h => by omega⟩⟩
        | 1, hx, n1 =>
          cases hx
          refine ⟨t2, b, a, g, f, rfl, k1 _ _ e2, k1 _ _ (k0 _ _ hg), k1 _ _ (k0 _ _ hf), go, fo, fun r e => by rw [lc, n1 (Nat.le_refl 1), e]; rfl, fun e => ⟨fun _ => n1 (Nat.le_refl 1), fun _ => e⟩⟩
        | i + 2, hx, _ => cases hx
      unfold half at hret hnext
      refine ⟨t, _, rfl, SqT.of ht, rfl, _, _, rfl, _, _, rfl, rfl, ?_⟩
      have ret : ∀ (r : Bool) (H' : Hp), conf f g = r → Ext H1 H' → Q (.bl r) H' := fun r H' e z => by
        rw [← e]
        exact k H' ((k0.trans k1).trans z)
      refine ⟨p, q, f', g', rfl, rfl, hp, hq, fo', go', fun H2 k2 => ?_⟩
      refine ite2 (fun e => ?_) (fun e => ?_)
      · exact ⟨p, q, f', g', rfl, rfl, k2 _ _ hp, k2 _ _ hq, fo', go', fun H3 k3 => ret _ _ (hret _ (if_pos e)) (k2.trans k3)⟩
      rw [if_neg e] at hret hnext
      refine ⟨p, q, f', g', rfl, rfl, k2 _ _ hp, k2 _ _ hq, fo', go', fun H3 k3 => ?_⟩
      have k3 := k2.trans k3
      refine ite2 (fun e => ?_) (fun e => ?_)
      · exact ⟨p, q, f', g', rfl, rfl, k3 _ _ hp, k3 _ _ hq, fo', go', fun H4 k4 => ret _ _ (hret _ (if_pos e)) (k3.trans k4)⟩
      rw [if_neg e] at hret hnext
      refine ⟨p, q, f', g', rfl, rfl, k3 _ _ hp, k3 _ _ hq, fo', go', fun H4 k4 => ?_⟩
      have k4 := k3.trans k4
      refine ite2 (fun e => ?_) (fun e => ?_)
      · exact ret _ _ (hret _ (if_pos e)) k4
      rw [if_neg e] at hret hnext
      refine ⟨p, q, f', g', rfl, rfl, k4 _ _ hp, k4 _ _ hq, fo', go', fun H5 k5 => ?_⟩
      have k5 := k4.trans k5
      refine ite2 (fun e => ?_) (fun e => ?_)
      · exact ret _ _ (hret _ (if_pos e)) k5
      rw [if_neg e] at hret hnext
      refine ⟨p, q, f', g', rfl, rfl, k5 _ _ hp, k5 _ _ hq, fo', go', fun H6 k6 => ?_⟩
      have k6 := k5.trans k6
      refine ite2 (fun e => ?_) (fun e => ?_)
      · exact ret _ _ (hret _ (if_pos e)) k6
      rw [if_neg e] at hret hnext
      refine ⟨p, q, f', g', rfl, rfl, k6 _ _ hp, k6 _ _ hq, fo', go', fun H7 k7 => ?_⟩
      have k7 := k6.trans k7
      refine ite2 (fun e => ?_) (fun e => ?_)
      · exact ret _ _ (hret _ (if_pos e)) k7
      rw [if_neg e] at hret hnext
      obtain ⟨m1, m2⟩ := hnext rfl
      exact ⟨⟨_, _, rfl⟩, k1.trans k7, m1, m2⟩
    · rintro σ H1 ⟨⟨v2, v3, rfl⟩, k1, n1, n2⟩
      have r : conf f g = false := by rw [lc, n1 (by show 1 ≤ 2; omega), n2 (Nat.le_refl 2)]; rfl
      rw [r] at k
      exact k H1 (k0.trans k1)
end
end Lw

set_option Elab.async false
set_option linter.all false
set_option maxRecDepth 100000
set_option maxHeartbeats 4000000
namespace Lw
open L2 hiding Ext
open PySem PySem.Spec PyProof.Rows Gn Gr Gk Go Gt Gf
abbrev sFact : Stmt := top 13
abbrev sBeside : Stmt := top 15
theorem PS.weaken {X : Cx} {e : Stmt} {t t' : TS} (h : PS X e t) (w : ∀ D σ H, t' D σ H → t D σ H) : PS X e t' :=
  ⟨fun pins s σ H D I z => h.run pins s σ H D I (w _ _ _ z)⟩
theorem FAt.kp {ns : List Int} {d g c a : Addr} {b : Nat} {H H' : Hp} {f : Fact} (h : FAt H a f) (D : Dw ns d g c b H) (k : Kp d g H H') : FAt H' a f := by
  obtain ⟨⟨gs, l, t, hd, hg, t0, tb⟩, hc, ncd, ncg⟩ := D
  exact k a _ (ne_of h hd (by intro z; cases z)) (ne_of h hg (by intro z; cases z)) h
section
variable {P : Program} {w : World} {K : PySem.W.Frag} {mg : Str → Option Value} {base : Heap}
abbrev nFact : List Str := ["_law_state", "_law_names", "_law_places", "_law_marks", "_law_way", "_law_spot", "_law_number", "_law_later"]
def Nm (H : Hp) (a : Addr) (ws : List Str) : Prop := H a = some (.lst (ws.map V.str)) ∧ ws ≠ [] ∧ ws.length ≤ 8 ∧ ∀ x ∈ ws, nameOk x = true
def spFact (ns : List Int) : Sp := fun vs H Q _ => ∃ (d g c l : Addr) (b : Nat) (m z : Int) (ws : List Str), vs = [.ref d, .ref l, .int m, .int z] ∧ Dw ns d g c b H ∧ b ≤ 800000000 ∧ l ≠ d ∧ l ≠ g ∧ Nm H l ws ∧ 4 ≤ m ∧ m ≤ 20 ∧ 1 ≤ z ∧ z ≤ 1000 ∧
  ∀ (p : Addr) (f : Fact) (H' : Hp), f.ok → FAt H' p f → Dw ns d g c (b + 20) H' → Kp d g H H' → Q (.ref p) H'
theorem scFact : FnScope nFact ["_law_state", "_law_names", "_law_places", "_law_marks"] (defScope sFact) := ⟨rfl, rfl, rfl, by decide +kernel, rfl, by decide +kernel, by decide +kernel⟩
theorem ok_fact {f fT fP : Addr} {fd fdT fdP : FuncData} (ns : List Int) (F : Fun K "_law_fact" "_law_fact" sFact f fd) (R : Draw P w K mg base ns fT fP fdT fdP) : FnOk P w K mg base CX0 4 f fd ["_law_state", "_law_names", "_law_places", "_law_marks"] (spFact ns) := by
  refine F.ok scFact (fun vs H Q E h => ?_) (fun cdv A outer s H vs Q E hr h => ?_)
  · obtain ⟨d, g, c, l, b, m, z, ws, rfl, _⟩ := h
    rfl
  · obtain ⟨d, g, c, l, b, m, z, ws, rfl, D, hb, nld, nlg, ⟨hl, hws, hlen, hok⟩, m0, m1, z0, z1, k⟩ := h
    have hu := hu_of hr
    have nd := scFact.nd
    have hr3 : Room 3 (A.deeper (envOfC "_law_fact" (defScope sFact) s.heap.objs.size f cdv)) := hr
    have hr2 : Room 2 (A.deeper (envOfC "_law_fact" (defScope sFact) s.heap.objs.size f cdv)) := hr.mono (by decide)
    refine ⟨_, pss_cons (ps_par (i := 4) (j := 5) (by rfl) nd rfl rfl (by decide) rfl rfl (pa_cons (pe_call R.GT hr2 rfl R.mT R.kT R.bT .nil pass0 (pa_cons (pv 0) (pa_cons pe_int pa_nil))) (pa_cons (pe_op op_add pe_int (pe_call R.GT hr2 rfl R.mT R.kT R.bT .nil pass0 (pa_cons (pv 0) (pa_cons (pv 2) pa_nil)))) pa_nil)) (by rfl))
(pss_cons (ps_set (i := 6) nd rfl (.inl rfl) (pe_call R.GP hr3 rfl R.mP R.kP R.bP .nil pass0 (pa_cons (pv 0) (pa_cons (pe_lst (pa_cons pe_int (pa_cons pe_int (pa_cons pe_int (pa_cons (pe_op op_add pe_int (pe_call R.GT hr2 rfl R.mT R.kT R.bT .nil pass0 (pa_cons (pv 0) (pa_cons pe_int pa_nil)))) (pa_cons (pe_op op_add pe_int (pe_call R.GT hr2 rfl R.mT R.kT R.bT .nil pass0 (pa_cons (pv 0) (pa_cons (pe_op op_pow pe_int pe_int) pa_nil)))) (pa_cons (pe_op op_pow pe_int pe_int) pa_nil))))))) pa_nil))))
(pss_cons (ps_if (pt_cmpR op_lt (pv 4) pe_int (nomark _)) (pss_one (ps_ret (pe_tup (pa_cons (pe_ix ix_list (pe_lst (pa_cons pe_str (pa_cons pe_str pa_nil))) (pv 4) (fun _ _ => rfl)) (pa_cons (pv 5) (pa_cons (pe_call R.GP hr3 rfl R.mP R.kP R.bP .nil pass0 (pa_cons (pv 0) (pa_cons (pv 1) pa_nil))) (pa_cons (pv 6) pa_nil))))))) pss_nil)
(pss_cons (ps_if (pt_cmpR op_lt (pv 4) pe_int (nomark _)) (pss_one (ps_ret (pe_tup (pa_cons pe_str (pa_cons (pe_op op_add pe_int (pe_call R.GT hr2 rfl R.mT R.kT R.bT .nil pass0 (pa_cons (pv 0) (pa_cons (pv 3) pa_nil)))) (pa_cons (pe_call R.GP hr3 rfl R.mP R.kP R.bP .nil pass0 (pa_cons (pv 0) (pa_cons (pv 1) pa_nil))) (pa_cons (pv 6) pa_nil))))))) pss_nil)
(pss_cons (ps_if (pt_cmpR op_eq (pv 4) pe_int (nomark _)) (pss_one (ps_ret (pe_tup (pa_cons pe_str (pa_cons (pv 5) (pa_cons (pv 6) pa_nil)))))) pss_nil)
(pss_cons (ps_if (pt_cmpR op_eq (pv 4) pe_int (nomark _)) (pss_one (ps_ret (pe_tup (pa_cons pe_str (pa_cons (pv 5) pa_nil))))) pss_nil)
(pss_cons (ps_set (i := 7) nd rfl (.inl rfl) (pe_op op_add pe_int (pe_call R.GT hr2 rfl R.mT R.kT R.bT .nil pass0 (pa_cons (pv 0) (pa_cons (pe_op op_sub (pv 2) pe_int) pa_nil)))))
(pss_one (ps_ret (pe_tup (pa_cons (pe_ix ix_list (pe_lst (pa_cons pe_str (pa_cons pe_str pa_nil))) (pe_op op_sub (pv 4) pe_int) (fun _ _ => rfl)) (pa_cons (pv 7) (pa_cons (pe_op op_add pe_int (pe_call R.GT hr2 rfl R.mT R.kT R.bT .nil pass0 (pa_cons (pv 0) (pa_cons (pe_op op_sub (pv 7) pe_int) pa_nil)))) pa_nil)))))))))))), ?_⟩
    refine ⟨_, rfl, d, g, c, _, 8, rfl, D, by omega, by decide, by decide, fun r H1 r0 r1 D1 k1 => ?_⟩
    refine ⟨_, rfl, _, rfl, d, g, c, _, m, rfl, D1, by omega, by omega, by omega, fun y H2 y0 y1 D2 k2 => ?_⟩
    refine ⟨_, _, rfl, rfl, ?_⟩
    refine ⟨_, _, rfl, ?_⟩
    refine ⟨_, rfl, _, rfl, d, g, c, _, 12, rfl, D2, by omega, by decide, by decide, fun u1 H3 _ _ D3 k3 => ?_⟩
    refine ⟨_, _, rfl, rfl, ?_⟩
    refine ⟨_, rfl, _, _, rfl, rfl, ⟨by decide, by decide, by decide⟩, d, g, c, _, _, rfl, D3, by omega, by decide +kernel, by decide +kernel, fun u2 H4 _ _ D4 k4 => ?_⟩
    refine ⟨_, _, rfl, rfl, ?_⟩
    refine ⟨_, _, rfl, rfl, ⟨by decide, by decide, by decide⟩, by show 6 ≤ sizeLine; decide, fun q hq => ?_⟩
    refine ⟨d, g, c, _, D4.new hq, by omega, .inl ⟨q, _, rfl, upd_same, D4.nd hq, D4.ng hq, by show 0 < 6; decide, by show 6 ≤ 1000000; decide, fun x H5 hx D5 k5 => ?_⟩⟩
    obtain ⟨nm, rfl⟩ : ∃ n : Int, x = .int n := by
      simp only [List.mem_cons, List.not_mem_nil, or_false] at hx
      rcases hx with rfl | rfl | rfl | rfl | rfl | rfl <;> exact ⟨_, rfl⟩
    have kk : Kp d g H H5 := ((((k1.trans k2).trans k3).trans k4).trans (Kp.new hq)).trans k5
    have hl5 := kk l _ nld nlg hl
    clear hx k1 k2 k3 k4 k5 D1 D2 D3 D4
    have D5 : Dw ns d g c (b + 5) H5 := D5.mono (by omega)
    have wpos : 0 < (ws.map V.str).length := by rw [List.length_map]; exact List.length_pos_iff.mpr hws
    have wlen : (ws.map V.str).length ≤ 1000000 := by rw [List.length_map]; omega
    refine ⟨_, rfl, _, _, rfl, rfl, _, rfl, ?_⟩
    refine ite2 (fun e => ?_) (fun n1 => ?_)
    · have e : r < 2 := of_decide_eq_true e
      refine ⟨by show 2 ≤ sizeLine; decide, fun q2 hq2 => ?_⟩
      have D6 := D5.new (o := .lst [.str "spender", .str "request"]) hq2
      have hl6 := new_same (o := .lst [.str "spender", .str "request"]) hq2 _ _ hl5
      have fin : ∀ (bb : Bool) (x : V) (H7 : Hp) (t : Addr), x ∈ ws.map V.str → Dw ns d g c (b + 6) H7 → Kp d g H H7 → H7 t = none → Q (.ref t) (upd H7 t (.tup [.str (kinds (Fact.row bb (1 + y) "" 0).tag), .int (1 + y), x, .int nm])) := fun bb x H7 t hx D7 k7 ht => by
        obtain ⟨n, hn, rfl⟩ := List.mem_map.mp hx
        refine k t (.row bb (1 + y) n nm) _ (hok n hn) (by cases bb <;> exact upd_same) ((D7.new ht).mono (by omega)) (k7.trans (Kp.new ht))
      have hr01 : r = 0 ∨ r = 1 := by omega
      rcases hr01 with rfl | rfl
      · refine ⟨_, rfl, q2, _, 0, V.str "spender", rfl, rfl, SqL.of upd_same, rfl, ?_⟩
        refine ⟨_, rfl, _, rfl, _, rfl, d, g, c, _, D6, by omega, .inl ⟨l, _, rfl, hl6, nld, nlg, wpos, wlen, fun x H7 hx D7 k7 => ?_⟩⟩
        exact ⟨_, rfl, by show 4 ≤ sizeLine; decide, fun t ht => fin true x H7 t hx D7 ((kk.trans (Kp.new hq2)).trans k7) ht⟩
      · refine ⟨_, rfl, q2, _, 1, V.str "request", rfl, rfl, SqL.of upd_same, rfl, ?_⟩
        refine ⟨_, rfl, _, rfl, _, rfl, d, g, c, _, D6, by omega, .inl ⟨l, _, rfl, hl6, nld, nlg, wpos, wlen, fun x H7 hx D7 k7 => ?_⟩⟩
        exact ⟨_, rfl, by show 4 ≤ sizeLine; decide, fun t ht => fin false x H7 t hx D7 ((kk.trans (Kp.new hq2)).trans k7) ht⟩
    have n1 : ¬ r < 2 := of_decide_eq_false (Bool.eq_false_iff.mpr n1)
    refine ⟨_, rfl, _, _, rfl, rfl, _, rfl, ?_⟩
    refine ite2 (fun e => ?_) (fun n2 => ?_)
    · refine ⟨_, rfl, _, rfl, d, g, c, _, z, rfl, D5, by omega, by omega, by omega, fun mk H6 _ _ D6 k6 => ?_⟩
      refine ⟨_, _, rfl, rfl, ?_⟩
      refine ⟨_, rfl, _, rfl, d, g, c, _, D6, by omega, .inl ⟨l, _, rfl, k6 _ _ nld nlg hl5, nld, nlg, wpos, wlen, fun x H7 hx D7 k7 => ?_⟩⟩
      refine ⟨_, rfl, by show 4 ≤ sizeLine; decide, fun t ht => ?_⟩
      obtain ⟨n, hn, rfl⟩ := List.mem_map.mp hx
      exact k t (.dep (1 + mk) n nm) _ (hok n hn) upd_same ((D7.new ht).mono (by omega)) (((kk.trans k6).trans k7).trans (Kp.new ht))
    have n2 : ¬ r < 4 := of_decide_eq_false (Bool.eq_false_iff.mpr n2)
    refine ⟨_, rfl, rfl, _, rfl, ?_⟩
    refine ite2 (fun e => ?_) (fun n3 => ?_)
    · refine ⟨_, rfl, _, rfl, by show 3 ≤ sizeLine; decide, fun t ht => ?_⟩
      exact k t (.rel (1 + y) nm) _ trivial upd_same ((D5.new ht).mono (by omega)) (kk.trans (Kp.new ht))
    have n3 : ¬ r = 4 := fun e => n3 (decide_eq_true (by rw [e]))
    refine ⟨_, rfl, rfl, _, rfl, ?_⟩
    refine ite2 (fun e => ?_) (fun n4 => ?_)
    · refine ⟨_, rfl, by show 2 ≤ sizeLine; decide, fun t ht => ?_⟩
      exact k t (.wd (1 + y)) _ trivial upd_same ((D5.new ht).mono (by omega)) (kk.trans (Kp.new ht))
    have n4 : ¬ r = 5 := fun e => n4 (decide_eq_true (by rw [e]))
    refine ⟨_, rfl, _, rfl, _, _, rfl, rfl, d, g, c, _, m - 1, rfl, D5, by omega, by omega, by omega, fun la H6 la0 la1 D6 k6 => ?_⟩
    refine ⟨_, _, rfl, rfl, ?_⟩
    refine ⟨by show 2 ≤ sizeLine; decide, fun q2 hq2 => ?_⟩
    have D7 := D6.new (o := .lst [.str "consent", .str "refuse"]) hq2
    have k7 : Kp d g H (upd H6 q2 (.lst [.str "consent", .str "refuse"])) := (kk.trans k6).trans (Kp.new hq2)
    have e7 : (upd H6 q2 (.lst [.str "consent", .str "refuse"])) q2 = some (.lst [.str "consent", .str "refuse"]) := upd_same
    generalize upd H6 q2 (.lst [.str "consent", .str "refuse"]) = H7 at D7 k7 e7 ⊢
    refine ⟨_, rfl, _, _, rfl, rfl, ?_⟩
    have hr67 : r = 6 ∨ r = 7 := by omega
    rcases hr67 with rfl | rfl
    · refine ⟨q2, _, 0, V.str "consent", rfl, rfl, SqL.of e7, rfl, ?_⟩
      refine ⟨_, rfl, _, rfl, _, rfl, _, _, rfl, rfl, d, g, c, _, 2 + la - 1, rfl, D7, by omega, by omega, by omega, fun sp H8 _ _ D8 k8 => ?_⟩
      refine ⟨_, _, rfl, rfl, by show 3 ≤ sizeLine; decide, fun t ht => ?_⟩
      exact k t (.ans true (2 + la) (1 + sp)) _ trivial upd_same ((D8.new ht).mono (by omega)) ((k7.trans k8).trans (Kp.new ht))
    · refine ⟨q2, _, 1, V.str "refuse", rfl, rfl, SqL.of e7, rfl, ?_⟩
      refine ⟨_, rfl, _, rfl, _, rfl, _, _, rfl, rfl, d, g, c, _, 2 + la - 1, rfl, D7, by omega, by omega, by omega, fun sp H8 _ _ D8 k8 => ?_⟩
      refine ⟨_, _, rfl, rfl, by show 3 ≤ sizeLine; decide, fun t ht => ?_⟩
      exact k t (.ans false (2 + la) (1 + sp)) _ trivial upd_same ((D8.new ht).mono (by omega)) ((k7.trans k8).trans (Kp.new ht))
end
end Lw

set_option Elab.async false
set_option linter.all false
set_option maxRecDepth 100000
set_option maxHeartbeats 4000000
namespace Lw
open L2 hiding Ext
open PySem PySem.Spec PyProof.Rows Gn Gr Gk Go Gt Gf
abbrev nBeside : List Str := ["_law_state", "_law_names", "_law_thing", "_law_number", "_law_near"]
def FsAt (H : Hp) (xs : List V) : Prop := ∀ x ∈ xs, ∃ (p : Addr) (f : Fact), x = .ref p ∧ FAt H p f ∧ f.ok
theorem FsAt.ext {H H' : Hp} {xs : List V} (h : FsAt H xs) (k : Ext H H') : FsAt H' xs := fun x hx => by
  obtain ⟨p, f, a, b, c⟩ := h x hx
  exact ⟨p, f, a, k _ _ b, c⟩
theorem FsAt.app {H : Hp} {xs ys : List V} (h : FsAt H xs) (k : FsAt H ys) : FsAt H (xs ++ ys) := fun x hx => (List.mem_append.mp hx).elim (h x) (k x)
theorem FsAt.nil {H : Hp} : FsAt H [] := fun x hx => by cases hx
theorem FsAt.cons {H : Hp} {p : Addr} {f : Fact} {xs : List V} (h : FAt H p f) (o : f.ok) (k : FsAt H xs) : FsAt H (.ref p :: xs) := fun x hx => by
  rcases List.mem_cons.mp hx with rfl | hx
  · exact ⟨p, f, rfl, h, o⟩
  · exact k x hx
theorem Nm.ext {H H' : Hp} {l : Addr} {ws : List Str} (h : Nm H l ws) (k : Ext H H') : Nm H' l ws := ⟨k _ _ h.1, h.2⟩
theorem nm_ends {H : Hp} {l : Addr} {ws : List Str} (h : Nm H l ws) : ∃ w0 w9, atI (ws.map V.str) 0 = some (.str w0) ∧ atI (ws.map V.str) (-1) = some (.str w9) ∧ nameOk w0 = true ∧ nameOk w9 = true := by
  obtain ⟨_, h1, _, h2⟩ := h
  cases ws with
  | nil => exact absurd rfl h1
  | cons w r =>
    rcases List.eq_nil_or_concat (w :: r) with e | ⟨r', w', e⟩
    · cases e
    · refine ⟨w, w', (show atI _ ((0 : Nat) : Int) = _ from atI_nat rfl), ?_, h2 w (List.mem_cons_self ..), ?_⟩
      · rw [e, List.concat_eq_append, List.map_append]
        exact atI_last _ _
      · exact h2 w' (by rw [e, List.concat_eq_append]; exact List.mem_append.mpr (.inr (List.mem_singleton.mpr rfl)))
def eFact (S : Fact → Prop) : TE := fun σ H Q => ∃ (d l th : Addr) (z : Int) (ws : List Str) (f : Fact) (o4 : Option V), σ = [some (.ref d), some (.ref l), some (.ref th), some (.int z), o4] ∧ Nm H l ws ∧ FAt H th f ∧ f.ok ∧ S f ∧
  ∀ (t : Addr) (H' : Hp) (f' : Fact), f'.ok → FAt H' t f' → Ext H H' → Q (.ref t) H'
def tNear : TS := fun D σ H => ∃ (d l th a : Addr) (z : Int) (ws : List Str) (f : Fact) (xs : List V), σ = [some (.ref d), some (.ref l), some (.ref th), some (.int z), some (.ref a)] ∧ Nm H l ws ∧ FAt H th f ∧ f.ok ∧ H a = some (.lst xs) ∧ FsAt H xs ∧ xs.length ≤ 50 ∧
  ∀ (a' : Addr) (xs' : List V) (H' : Hp), Ext H H' → H' a' = some (.lst xs') → FsAt H' xs' → xs'.length ≤ xs.length + 5 → D.nx [some (.ref d), some (.ref l), some (.ref th), some (.int z), some (.ref a')] H'
section
variable {P : Program} {w : World} {K : PySem.W.Frag} {mg : Str → Option Value} {base : Heap}
theorem ans_of {f : Fact} (h : decide (5 ≤ f.tag.val) = true) : ∃ b p q, f = .ans b p q := by
  cases f with
  | ans b p q => exact ⟨b, p, q, rfl⟩
  | row b _ _ _ => cases b <;> cases h
  | dep _ _ _ => cases h
  | rel _ _ => cases h
  | wd _ => cases h
def spBeside (ns : List Int) : Sp := fun vs H Q _ => ∃ (d g c l th : Addr) (b : Nat) (ws : List Str) (f : Fact), vs = [.ref d, .ref l, .ref th] ∧ Dw ns d g c b H ∧ b ≤ 800000000 ∧ l ≠ d ∧ l ≠ g ∧ Nm H l ws ∧ FAt H th f ∧ f.ok ∧
  ∀ (p : Addr) (f' : Fact) (H' : Hp), f'.ok → FAt H' p f' → Dw ns d g c (b + 20) H' → Kp d g H H' → Q (.ref p) H'
theorem scBeside : FnScope nBeside ["_law_state", "_law_names", "_law_thing"] (defScope sBeside) := ⟨rfl, rfl, rfl, by decide +kernel, rfl, by decide +kernel, by decide +kernel⟩
theorem ok_beside {fB fT fP : Addr} {fd fdT fdP : FuncData} (ns : List Int) (F : Fun K "_law_beside" "_law_beside" sBeside fB fd) (R : Draw P w K mg base ns fT fP fdT fdP) : FnOk P w K mg base CX0 4 fB fd ["_law_state", "_law_names", "_law_thing"] (spBeside ns) := by
  refine F.ok scBeside (fun vs H Q E h => ?_) (fun cdv A outer s H vs Q E hr h => ?_)
  · obtain ⟨d, g, c, l, th, b, ws, f, rfl, _⟩ := h
    rfl
  · obtain ⟨d, g, c, l, th, b, ws, f, rfl, D, hb, nld, nlg, hN, hf, fo, k⟩ := h
    have hu := hu_of hr
    have nd := scBeside.nd
    have hr3 : Room 3 (A.deeper (envOfC "_law_beside" (defScope sBeside) s.heap.objs.size fB cdv)) := hr
    have hr2 : Room 2 (A.deeper (envOfC "_law_beside" (defScope sBeside) s.heap.objs.size fB cdv)) := hr.mono (by decide)
    refine ⟨_, pss_cons (ps_set (i := 3) nd rfl (.inl rfl) (pe_op op_add pe_int (pe_call R.GT hr2 rfl R.mT R.kT R.bT .nil pass0 (pa_cons (pv 0) (pa_cons pe_int pa_nil)))))
(pss_cons (ps_set (i := 4) nd rfl (.inl rfl) (pe_lst (pa_cons (PE.weaken (t' := eFact (fun _ => True)) (pe_tup (pa_cons pe_str (pa_cons (pe_ix ix_tup (pv 2) pe_int (fun _ _ => rfl)) (pa_cons (pe_ix ix_list (pv 1) pe_int (fun _ _ => rfl)) (pa_cons (pv 3) pa_nil))))) (by rintro σ H Q ⟨d, l, th, z, ws, f, o4, rfl, hN, hf, fo, hS, hk⟩; obtain ⟨w0, w9, h0, h9, n0, n9⟩ := nm_ends hN; exact ⟨_, rfl, th, _, _, _, rfl, rfl, SqT.of hf, at1 f, _, rfl, l, _, _, _, rfl, rfl, SqL.of hN.1, h0, _, rfl, by show 4 ≤ sizeLine; decide, fun t ht => hk t _ (.row true f.n1 w0 z) n0 upd_same (Ext.new ht)⟩)) (pa_cons (PE.weaken (t' := eFact (fun _ => True)) (pe_tup (pa_cons pe_str (pa_cons (pe_ix ix_tup (pv 2) pe_int (fun _ _ => rfl)) (pa_cons (pe_ix ix_list (pv 1) (pe_un un_neg pe_int) (fun _ _ => rfl)) (pa_cons (pv 3) pa_nil))))) (by rintro σ H Q ⟨d, l, th, z, ws, f, o4, rfl, hN, hf, fo, hS, hk⟩; obtain ⟨w0, w9, h0, h9, n0, n9⟩ := nm_ends hN; exact ⟨_, rfl, th, _, _, _, rfl, rfl, SqT.of hf, at1 f, _, rfl, _, rfl, l, _, _, _, rfl, rfl, SqL.of hN.1, h9, _, rfl, by show 4 ≤ sizeLine; decide, fun t ht => hk t _ (.row false f.n1 w9 z) n9 upd_same (Ext.new ht)⟩)) pa_nil))))
(pss_cons (ps_if (pt_cmpR op_eq (pe_ix ix_tup (pv 2) pe_int (fun _ _ => rfl)) pe_str (nomark _)) (pss_one (ps_ret (PE.weaken (t' := eFact (fun _ => True)) (pe_tup (pa_cons pe_str (pa_cons (pe_ix ix_tup (pv 2) pe_int (fun _ _ => rfl)) (pa_cons (pe_ix ix_list (pv 1) pe_int (fun _ _ => rfl)) (pa_cons (pv 3) pa_nil))))) (by rintro σ H Q ⟨d, l, th, z, ws, f, o4, rfl, hN, hf, fo, hS, hk⟩; obtain ⟨w0, w9, h0, h9, n0, n9⟩ := nm_ends hN; exact ⟨_, rfl, th, _, _, _, rfl, rfl, SqT.of hf, at1 f, _, rfl, l, _, _, _, rfl, rfl, SqL.of hN.1, h0, _, rfl, by show 4 ≤ sizeLine; decide, fun t ht => hk t _ (.dep f.n1 w0 z) n0 upd_same (Ext.new ht)⟩)))) pss_nil)
(pss_cons (PS.weaken (t' := tNear) (ps_if (pt_cmpR op_in_seq (pe_ix ix_tup (pv 2) pe_int (fun _ _ => rfl)) (pe_tup (pa_cons pe_str (pa_cons pe_str pa_nil))) rfl) (pss_cons (ps_set (i := 4) nd rfl (.inl rfl) (pe_op op_cat (pv 4) (pe_lst (pa_cons (PE.weaken (t' := eFact (fun f => decide (5 ≤ f.tag.val) = true)) (pe_tup (pa_cons pe_str (pa_cons (pe_ix ix_tup (pv 2) pe_int (fun _ _ => rfl)) (pa_cons (pe_ix ix_list (pv 1) pe_int (fun _ _ => rfl)) (pa_cons (pv 3) pa_nil))))) (by rintro σ H Q ⟨d, l, th, z, ws, f, o4, rfl, hN, hf, fo, hS, hk⟩; obtain ⟨w0, w9, h0, h9, n0, n9⟩ := nm_ends hN; exact ⟨_, rfl, th, _, _, _, rfl, rfl, SqT.of hf, at2 hS, _, rfl, l, _, _, _, rfl, rfl, SqL.of hN.1, h0, _, rfl, by show 4 ≤ sizeLine; decide, fun t ht => hk t _ (.row true f.n2 w0 z) n0 upd_same (Ext.new ht)⟩)) (pa_cons (PE.weaken (t' := eFact (fun f => decide (5 ≤ f.tag.val) = true)) (pe_tup (pa_cons pe_str (pa_cons (pe_ix ix_tup (pv 2) pe_int (fun _ _ => rfl)) (pa_cons (pe_ix ix_list (pv 1) pe_int (fun _ _ => rfl)) (pa_cons (pv 3) pa_nil))))) (by rintro σ H Q ⟨d, l, th, z, ws, f, o4, rfl, hN, hf, fo, hS, hk⟩; obtain ⟨w0, w9, h0, h9, n0, n9⟩ := nm_ends hN; exact ⟨_, rfl, th, _, _, _, rfl, rfl, SqT.of hf, at2 hS, _, rfl, l, _, _, _, rfl, rfl, SqL.of hN.1, h0, _, rfl, by show 4 ≤ sizeLine; decide, fun t ht => hk t _ (.row false f.n2 w0 z) n0 upd_same (Ext.new ht)⟩)) pa_nil)))))
(pss_one (ps_set (i := 4) nd rfl (.inl rfl) (pe_op op_cat (pv 4) (pe_lst (pa_cons (PE.weaken (t' := eFact (fun f => decide (5 ≤ f.tag.val) = true)) (pe_op op_catT (pe_tup (pa_cons pe_str pa_nil)) (pe_slice sl_tup (pv 2) (po_some pe_int) po_none)) (by
      rintro σ H Q ⟨d, l, th, z, ws, f, o4, rfl, hN, hf, fo, hS, hk⟩
      obtain ⟨bb, a1, a2, rfl⟩ := ans_of hS
      refine ⟨by show 1 ≤ sizeLine; decide, fun u hu => ?_⟩
      have hf1 := new_same (o := .tup [.str "consent"]) hu _ _ hf
      refine ⟨_, rfl, 1, rfl, th, (Fact.ans bb a1 a2).vals, rfl, SqT.of hf1, cut_no _, fun v hv => ?_⟩
      have hu1 := new_same (o := .tup (cutV (Fact.ans bb a1 a2).vals (some 1) none)) hv _ _ (upd_same (H := H) (a := u) (o := .tup [.str "consent"]))
      have hv1 : (upd (upd H u (.tup [.str "consent"])) v (.tup (cutV (Fact.ans bb a1 a2).vals (some 1) none))) v = some (.tup [.int a1, .int a2]) := by rw [upd_same, cut1]; rfl
      exact ⟨u, v, _, _, rfl, rfl, SqT.of hu1, SqT.of hv1, (fun z => by cases z), by show 3 ≤ sizeLine; decide, (fun z => by cases z), fun _ p hp => hk p _ (.ans true a1 a2) trivial upd_same (((Ext.new hu).trans (Ext.new hv)).trans (Ext.new hp))⟩)) (pa_cons (PE.weaken (t' := eFact (fun f => decide (5 ≤ f.tag.val) = true)) (pe_op op_catT (pe_tup (pa_cons pe_str pa_nil)) (pe_slice sl_tup (pv 2) (po_some pe_int) po_none)) (by
      rintro σ H Q ⟨d, l, th, z, ws, f, o4, rfl, hN, hf, fo, hS, hk⟩
      obtain ⟨bb, a1, a2, rfl⟩ := ans_of hS
      refine ⟨by show 1 ≤ sizeLine; decide, fun u hu => ?_⟩
      have hf1 := new_same (o := .tup [.str "refuse"]) hu _ _ hf
      refine ⟨_, rfl, 1, rfl, th, (Fact.ans bb a1 a2).vals, rfl, SqT.of hf1, cut_no _, fun v hv => ?_⟩
      have hu1 := new_same (o := .tup (cutV (Fact.ans bb a1 a2).vals (some 1) none)) hv _ _ (upd_same (H := H) (a := u) (o := .tup [.str "refuse"]))
      have hv1 : (upd (upd H u (.tup [.str "refuse"])) v (.tup (cutV (Fact.ans bb a1 a2).vals (some 1) none))) v = some (.tup [.int a1, .int a2]) := by rw [upd_same, cut1]; rfl
      exact ⟨u, v, _, _, rfl, rfl, SqT.of hu1, SqT.of hv1, (fun z => by cases z), by show 3 ≤ sizeLine; decide, (fun z => by cases z), fun _ p hp => hk p _ (.ans false a1 a2) trivial upd_same (((Ext.new hu).trans (Ext.new hv)).trans (Ext.new hp))⟩)) (pa_cons (PE.weaken (t' := eFact (fun f => decide (5 ≤ f.tag.val) = true)) (pe_tup (pa_cons pe_str (pa_cons (pe_ix ix_tup (pv 2) pe_int (fun _ _ => rfl)) (pa_cons (pv 3) pa_nil)))) (by rintro σ H Q ⟨d, l, th, z, ws, f, o4, rfl, hN, hf, fo, hS, hk⟩; obtain ⟨w0, w9, h0, h9, n0, n9⟩ := nm_ends hN; exact ⟨_, rfl, th, _, _, _, rfl, rfl, SqT.of hf, at2 hS, _, rfl, by show 3 ≤ sizeLine; decide, fun t ht => hk t _ (.rel f.n2 z) trivial upd_same (Ext.new ht)⟩)) pa_nil)))))))) pss_nil) ?wa)
(pss_cons (PS.weaken (t' := tNear) (ps_if (pt_cmpR op_gt (pe_ix ix_tup (pv 2) pe_int (fun _ _ => rfl)) pe_int (nomark _)) (pss_one (ps_set (i := 4) nd rfl (.inl rfl) (pe_op op_cat (pv 4) (pe_lst (pa_cons (PE.weaken (t' := eFact (fun _ => True)) (pe_tup (pa_cons pe_str (pa_cons (pe_ix ix_tup (pv 2) pe_int (fun _ _ => rfl)) (pa_cons pe_int pa_nil)))) (by rintro σ H Q ⟨d, l, th, z, ws, f, o4, rfl, hN, hf, fo, hS, hk⟩; obtain ⟨w0, w9, h0, h9, n0, n9⟩ := nm_ends hN; exact ⟨_, rfl, th, _, _, _, rfl, rfl, SqT.of hf, at1 f, by show 3 ≤ sizeLine; decide, fun t ht => hk t _ (.ans true f.n1 1) trivial upd_same (Ext.new ht)⟩)) (pa_cons (PE.weaken (t' := eFact (fun _ => True)) (pe_tup (pa_cons pe_str (pa_cons (pe_ix ix_tup (pv 2) pe_int (fun _ _ => rfl)) (pa_cons (pe_op op_sub (pe_ix ix_tup (pv 2) pe_int (fun _ _ => rfl)) pe_int) pa_nil)))) (by rintro σ H Q ⟨d, l, th, z, ws, f, o4, rfl, hN, hf, fo, hS, hk⟩; obtain ⟨w0, w9, h0, h9, n0, n9⟩ := nm_ends hN; exact ⟨_, rfl, th, _, _, _, rfl, rfl, SqT.of hf, at1 f, _, rfl, th, _, _, _, rfl, rfl, SqT.of hf, at1 f, _, _, rfl, rfl, by show 3 ≤ sizeLine; decide, fun t ht => hk t _ (.ans false f.n1 (f.n1 - 1)) trivial upd_same (Ext.new ht)⟩)) pa_nil)))))) pss_nil) ?wb)
(pss_cons (PS.weaken (t' := tNear) (ps_if (pt_cmpR op_lt (pe_ix ix_tup (pv 2) pe_int (fun _ _ => rfl)) pe_int (nomark _)) (pss_one (ps_set (i := 4) nd rfl (.inl rfl) (pe_op op_cat (pv 4) (pe_lst (pa_cons (PE.weaken (t' := eFact (fun _ => True)) (pe_tup (pa_cons pe_str (pa_cons (pe_op op_add (pe_ix ix_tup (pv 2) pe_int (fun _ _ => rfl)) pe_int) (pa_cons (pe_ix ix_tup (pv 2) pe_int (fun _ _ => rfl)) pa_nil)))) (by rintro σ H Q ⟨d, l, th, z, ws, f, o4, rfl, hN, hf, fo, hS, hk⟩; obtain ⟨w0, w9, h0, h9, n0, n9⟩ := nm_ends hN; exact ⟨_, rfl, th, _, _, _, rfl, rfl, SqT.of hf, at1 f, _, _, rfl, rfl, _, rfl, th, _, _, _, rfl, rfl, SqT.of hf, at1 f, by show 3 ≤ sizeLine; decide, fun t ht => hk t _ (.ans true (f.n1 + 1) f.n1) trivial upd_same (Ext.new ht)⟩)) (pa_cons (PE.weaken (t' := eFact (fun _ => True)) (pe_tup (pa_cons pe_str (pa_cons pe_int (pa_cons (pe_ix ix_tup (pv 2) pe_int (fun _ _ => rfl)) pa_nil)))) (by rintro σ H Q ⟨d, l, th, z, ws, f, o4, rfl, hN, hf, fo, hS, hk⟩; obtain ⟨w0, w9, h0, h9, n0, n9⟩ := nm_ends hN; exact ⟨_, rfl, th, _, _, _, rfl, rfl, SqT.of hf, at1 f, by show 3 ≤ sizeLine; decide, fun t ht => hk t _ (.ans false 20 f.n1) trivial upd_same (Ext.new ht)⟩)) pa_nil)))))) pss_nil) ?wc)
(pss_one (ps_ret (pe_call R.GP hr3 rfl R.mP R.kP R.bP .nil pass0 (pa_cons (pv 0) (pa_cons (pe_op op_cat (pv 4) (pe_lst (pa_cons (PE.weaken (t' := eFact (fun _ => True)) (pe_tup (pa_cons pe_str (pa_cons (pe_ix ix_tup (pv 2) pe_int (fun _ _ => rfl)) (pa_cons (pv 3) pa_nil)))) (by rintro σ H Q ⟨d, l, th, z, ws, f, o4, rfl, hN, hf, fo, hS, hk⟩; obtain ⟨w0, w9, h0, h9, n0, n9⟩ := nm_ends hN; exact ⟨_, rfl, th, _, _, _, rfl, rfl, SqT.of hf, at1 f, _, rfl, by show 3 ≤ sizeLine; decide, fun t ht => hk t _ (.rel f.n1 z) trivial upd_same (Ext.new ht)⟩)) (pa_cons (PE.weaken (t' := eFact (fun _ => True)) (pe_tup (pa_cons pe_str (pa_cons (pe_ix ix_tup (pv 2) pe_int (fun _ _ => rfl)) pa_nil))) (by rintro σ H Q ⟨d, l, th, z, ws, f, o4, rfl, hN, hf, fo, hS, hk⟩; obtain ⟨w0, w9, h0, h9, n0, n9⟩ := nm_ends hN; exact ⟨_, rfl, th, _, _, _, rfl, rfl, SqT.of hf, at1 f, by show 2 ≤ sizeLine; decide, fun t ht => hk t _ (.wd f.n1) trivial upd_same (Ext.new ht)⟩)) pa_nil)))) pa_nil)))))))))), ?_⟩
    case wa =>
      rintro D σ H ⟨d, l, th, a, z, ws, f, xs, rfl, hN, hf, fo, ha, hx, hn, hk⟩
      have same : ∀ H', Ext H H' → D.nx [some (.ref d), some (.ref l), some (.ref th), some (.int z), some (.ref a)] H' := fun H' e => hk a xs H' e (e _ _ ha) (hx.ext e) (by omega)
      refine ⟨_, rfl, th, _, _, _, rfl, rfl, SqT.of hf, at0 f, by show 2 ≤ sizeLine; decide, fun t ht => ⟨t, _, rfl, .inr (SqT.of upd_same), rfl, rfl, _, rfl, ?_⟩⟩
      have k1 : Ext H (upd H t (.tup [.str "consent", .str "refuse"])) := Ext.new ht
      generalize upd H t (.tup [.str "consent", .str "refuse"]) = H1 at k1 ⊢
      refine ite2 (fun e => ?_) (fun e => same _ k1)
      have hS : decide (5 ≤ f.tag.val) = true := (in_ans f.tag).symm.trans e
      refine ⟨_, rfl, d, l, th, z, ws, f, _, rfl, hN.ext k1, k1 _ _ hf, fo, hS, fun t1 H2 f1 o1 e1 k2 => ?_⟩
      have k2' := k1.trans k2
      refine ⟨d, l, th, z, ws, f, _, rfl, hN.ext k2', k2' _ _ hf, fo, hS, fun t2 H3 f2 o2 e2 k3 => ?_⟩
      have k3' := k2'.trans k3
      refine ⟨by show 2 ≤ sizeLine; decide, fun q hq => ?_⟩
      have k4' := k3'.trans (Ext.new (o := .lst [.ref t1, .ref t2]) hq)
      refine ⟨a, q, _, _, rfl, rfl, k4' _ _ ha, upd_same, by rw [sizeLine_eq]; show _ + 2 ≤ _; omega, fun p hp => ?_⟩
      have hx4 : FsAt (upd H3 q (.lst [.ref t1, .ref t2])) (xs ++ [.ref t1, .ref t2]) := (hx.ext k4').app (.cons (new_same hq _ _ (k3 _ _ e1)) o1 (.cons (new_same hq _ _ e2) o2 .nil))
      have k5 : Ext H (upd (upd H3 q (.lst [.ref t1, .ref t2])) p (.lst (xs ++ [.ref t1, .ref t2]))) := k4'.trans (Ext.new hp)
      have hx5 := hx4.ext (Ext.new (o := .lst (xs ++ [.ref t1, .ref t2])) hp)
      have hp5 : (upd (upd H3 q (.lst [.ref t1, .ref t2])) p (.lst (xs ++ [.ref t1, .ref t2]))) p = some (.lst (xs ++ [.ref t1, .ref t2])) := upd_same
      generalize upd (upd H3 q (.lst [.ref t1, .ref t2])) p (.lst (xs ++ [.ref t1, .ref t2])) = H5 at k5 hx5 hp5 ⊢
      have l5 : (xs ++ [V.ref t1, V.ref t2]).length = xs.length + 2 := List.length_append
      generalize xs ++ [V.ref t1, V.ref t2] = ys at hx5 hp5 l5 ⊢
      refine ⟨_, rfl, d, l, th, z, ws, f, _, rfl, hN.ext k5, k5 _ _ hf, fo, hS, fun t3 H6 f3 o3 e3 k6 => ?_⟩
      have k6' := k5.trans k6
      refine ⟨d, l, th, z, ws, f, _, rfl, hN.ext k6', k6' _ _ hf, fo, hS, fun t4 H7 f4 o4 e4 k7 => ?_⟩
      have k7' := k6'.trans k7
      refine ⟨d, l, th, z, ws, f, _, rfl, hN.ext k7', k7' _ _ hf, fo, hS, fun t5 H8 f5 o5 e5 k8 => ?_⟩
      have k58 := (k6.trans k7).trans k8
      refine ⟨by show 3 ≤ sizeLine; decide, fun q2 hq2 => ?_⟩
      have k59 := k58.trans (Ext.new (o := .lst [.ref t3, .ref t4, .ref t5]) hq2)
      refine ⟨p, q2, _, _, rfl, rfl, k59 _ _ hp5, upd_same, by rw [sizeLine_eq]; show _ + 3 ≤ _; omega, fun p2 hp2 => ?_⟩
      have hx9 : FsAt (upd H8 q2 (.lst [.ref t3, .ref t4, .ref t5])) (ys ++ [.ref t3, .ref t4, .ref t5]) := (hx5.ext k59).app (.cons (new_same hq2 _ _ (k8 _ _ (k7 _ _ e3))) o3 (.cons (new_same hq2 _ _ (k8 _ _ e4)) o4 (.cons (new_same hq2 _ _ e5) o5 .nil)))
      exact hk p2 _ _ ((k5.trans k59).trans (Ext.new hp2)) upd_same (hx9.ext (Ext.new hp2)) (by rw [List.length_append]; show _ + 3 ≤ _; omega)
    case wb =>
      rintro D σ H ⟨d, l, th, a, z, ws, f, xs, rfl, hN, hf, fo, ha, hx, hn, hk⟩
      refine ⟨_, rfl, th, _, _, _, rfl, rfl, SqT.of hf, at1 f, _, _, rfl, rfl, _, rfl, ?_⟩
      refine ite2 (fun e => ?_) (fun e => hk a xs H Ext.refl ha hx (by omega))
      refine ⟨_, rfl, d, l, th, z, ws, f, _, rfl, hN, hf, fo, trivial, fun t1 H2 f1 o1 e1 k2 => ?_⟩
      refine ⟨d, l, th, z, ws, f, _, rfl, hN.ext k2, k2 _ _ hf, fo, trivial, fun t2 H3 f2 o2 e2 k3 => ?_⟩
      have k3' := k2.trans k3
      refine ⟨by show 2 ≤ sizeLine; decide, fun q hq => ?_⟩
      have k4' := k3'.trans (Ext.new (o := .lst [.ref t1, .ref t2]) hq)
      refine ⟨a, q, _, _, rfl, rfl, k4' _ _ ha, upd_same, by rw [sizeLine_eq]; show _ + 2 ≤ _; omega, fun p hp => ?_⟩
      have hx4 : FsAt (upd H3 q (.lst [.ref t1, .ref t2])) (xs ++ [.ref t1, .ref t2]) := (hx.ext k4').app (.cons (new_same hq _ _ (k3 _ _ e1)) o1 (.cons (new_same hq _ _ e2) o2 .nil))
      exact hk p _ _ (k4'.trans (Ext.new hp)) upd_same (hx4.ext (Ext.new hp)) (by rw [List.length_append]; show _ + 2 ≤ _; omega)
    case wc =>
      rintro D σ H ⟨d, l, th, a, z, ws, f, xs, rfl, hN, hf, fo, ha, hx, hn, hk⟩
      refine ⟨_, rfl, th, _, _, _, rfl, rfl, SqT.of hf, at1 f, _, _, rfl, rfl, _, rfl, ?_⟩
      refine ite2 (fun e => ?_) (fun e => hk a xs H Ext.refl ha hx (by omega))
      refine ⟨_, rfl, d, l, th, z, ws, f, _, rfl, hN, hf, fo, trivial, fun t1 H2 f1 o1 e1 k2 => ?_⟩
      refine ⟨d, l, th, z, ws, f, _, rfl, hN.ext k2, k2 _ _ hf, fo, trivial, fun t2 H3 f2 o2 e2 k3 => ?_⟩
      have k3' := k2.trans k3
      refine ⟨by show 2 ≤ sizeLine; decide, fun q hq => ?_⟩
      have k4' := k3'.trans (Ext.new (o := .lst [.ref t1, .ref t2]) hq)
      refine ⟨a, q, _, _, rfl, rfl, k4' _ _ ha, upd_same, by rw [sizeLine_eq]; show _ + 2 ≤ _; omega, fun p hp => ?_⟩
      have hx4 : FsAt (upd H3 q (.lst [.ref t1, .ref t2])) (xs ++ [.ref t1, .ref t2]) := (hx.ext k4').app (.cons (new_same hq _ _ (k3 _ _ e1)) o1 (.cons (new_same hq _ _ e2) o2 .nil))
      exact hk p _ _ (k4'.trans (Ext.new hp)) upd_same (hx4.ext (Ext.new hp)) (by rw [List.length_append]; show _ + 2 ≤ _; omega)
    refine ⟨_, rfl, d, g, c, _, 9, rfl, D, by omega, by decide, by decide, fun z H1 _ _ D1 k1 => ?_⟩
    have hN1 : Nm H1 l ws := ⟨k1 _ _ nld nlg hN.1, hN.2⟩
    have hf1 : FAt H1 th f := hf.kp D k1
    refine ⟨_, _, rfl, rfl, ?_⟩
    refine ⟨d, l, th, 1 + z, ws, f, _, rfl, hN1, hf1, fo, trivial, fun t1 H2 f1 o1 e1 k2 => ?_⟩
    refine ⟨d, l, th, 1 + z, ws, f, _, rfl, hN1.ext k2, k2 _ _ hf1, fo, trivial, fun t2 H3 f2 o2 e2 k3 => ?_⟩
    refine ⟨by show 2 ≤ sizeLine; decide, fun a ha => ?_⟩
    have k4 := (k2.trans k3).trans (Ext.new (o := .lst [.ref t1, .ref t2]) ha)
    have hx4 : FsAt (upd H3 a (.lst [.ref t1, .ref t2])) [.ref t1, .ref t2] := .cons (new_same ha _ _ (k3 _ _ e1)) o1 (.cons (new_same ha _ _ e2) o2 .nil)
    have a4 : (upd H3 a (.lst [.ref t1, .ref t2])) a = some (.lst [.ref t1, .ref t2]) := upd_same
    generalize upd H3 a (.lst [.ref t1, .ref t2]) = H4 at k4 hx4 a4 ⊢
    refine ⟨_, rfl, th, _, _, _, rfl, rfl, SqT.of (k4 _ _ hf1), at0 f, rfl, _, rfl, ?_⟩
    refine ite2 (fun e => ?_) (fun e => ?_)
    · refine ⟨d, l, th, 1 + z, ws, f, _, rfl, hN1.ext k4, k4 _ _ hf1, fo, trivial, fun t3 H5 f3 o3 e3 k5 => ?_⟩
      exact k t3 f3 H5 o3 e3 ((D1.keep (k4.trans k5)).mono (by omega)) (k1.trans (Kp.of (k4.trans k5)))
    refine ⟨d, l, th, a, 1 + z, ws, f, _, rfl, hN1.ext k4, k4 _ _ hf1, fo, a4, hx4, (by show 2 ≤ 50; omega), fun a5 xs5 H5 k5 h5 hx5 n5 => ?_⟩
    have n5 : xs5.length ≤ 7 := n5
    have k45 := k4.trans k5
    refine ⟨d, l, th, a5, 1 + z, ws, f, _, rfl, hN1.ext k45, k45 _ _ hf1, fo, h5, hx5, by omega, fun a6 xs6 H6 k6 h6 hx6 n6 => ?_⟩
    have k46 := k45.trans k6
    refine ⟨d, l, th, a6, 1 + z, ws, f, _, rfl, hN1.ext k46, k46 _ _ hf1, fo, h6, hx6, by omega, fun a7 xs7 H7 k7 h7 hx7 n7 => ?_⟩
    have k47 := k46.trans k7
    refine ⟨_, rfl, _, rfl, d, l, th, 1 + z, ws, f, _, rfl, hN1.ext k47, k47 _ _ hf1, fo, trivial, fun t8 H8 f8 o8 e8 k8 => ?_⟩
    have k48 := k47.trans k8
    refine ⟨d, l, th, 1 + z, ws, f, _, rfl, hN1.ext k48, k48 _ _ hf1, fo, trivial, fun t9 H9 f9 o9 e9 k9 => ?_⟩
    have k49 := k48.trans k9
    refine ⟨by show 2 ≤ sizeLine; decide, fun q hq => ?_⟩
    have k79 := (k8.trans k9).trans (Ext.new (o := .lst [.ref t8, .ref t9]) hq)
    have k4q := k49.trans (Ext.new (o := .lst [.ref t8, .ref t9]) hq)
    refine ⟨a7, q, _, _, rfl, rfl, k79 _ _ h7, upd_same, by rw [sizeLine_eq]; show _ + 2 ≤ _; omega, fun p hp => ?_⟩
    have Dq := D1.keep k4q
    have hxq : FsAt (upd H9 q (.lst [.ref t8, .ref t9])) (xs7 ++ [.ref t8, .ref t9]) := (hx7.ext k79).app (.cons (new_same hq _ _ (k9 _ _ e8)) o8 (.cons (new_same hq _ _ e9) o9 .nil))
    have Dp := Dq.new (o := .lst (xs7 ++ [.ref t8, .ref t9])) hp
    refine ⟨d, g, c, _, Dp, by omega, .inl ⟨p, _, rfl, upd_same, Dq.nd hp, Dq.ng hp, by rw [List.length_append]; show 0 < _ + 2; omega, by rw [List.length_append]; show _ + 2 ≤ _; omega, fun x H' hx D' k' => ?_⟩⟩
    obtain ⟨t, f', rfl, ht, o'⟩ := hxq x hx
    have ht' : FAt H' t f' := FAt.kp (show FAt _ t f' from new_same hp _ _ ht) Dp k'
    exact k t f' H' o' ht' (D'.mono (by omega)) ((k1.trans (Kp.of (k4q.trans (Ext.new hp)))).trans k')
end
end Lw

set_option Elab.async false
set_option linter.all false
set_option maxRecDepth 100000
set_option maxHeartbeats 8000000
namespace Lw
open L2 hiding Ext
open PySem PySem.Spec PyProof.Rows Gn Gr Gk Go Gt Gf Ge
abbrev sLaw : Stmt := top 16
abbrev nLaw : List Str := ["_law_script", "_law_state", "_law_turn", "_law_names", "_law_some", "_law_places", "_law_k", "_law_left", "_law_right", "_law_due"]
def gSw : List Value → List Value → List Value
  | [], [x, y] => [y, x]
  | _, _ => []
def gSwV : List V → List V → List V
  | [], [x, y] => [y, x]
  | _, _ => []
theorem kb_swap {K : PySem.W.Frag} {fd : FuncData} {y z : Str} (b : ∀ (s : Shared) (u v : Value), BindsTo s fd ⟨[], [(y, u), (z, v)]⟩ [(z, v), (y, u)]) : KBinds K fd [z, y] [y, z] gSw gSwV := by
  refine ⟨fun s us ws _ hl => ?_, fun r q => ?_⟩
  · match us, ws, hl with
    | [], [u, v], _ => exact b s u v
    | [], [], hl => cases hl
    | [], [_], hl => cases hl
    | [], _ :: _ :: _ :: _, hl => cases hl
    | _ :: _, _, hl => cases hl
  · cases r with
    | nil =>
      cases q with
      | nil => exact .nil
      | cons q1 q2 =>
        cases q2 with
        | nil => exact .nil
        | cons q2 q3 =>
          cases q3 with
          | nil => exact .cons q2 (.cons q1 .nil)
          | cons _ _ => exact .nil
    | cons _ _ => exact .nil
section
variable {P : Program} {w : World} {K : PySem.W.Frag} {mg : Str → Option Value} {base : Heap}
theorem scLaw : FnScope nLaw ["_law_script"] (defScope sLaw) := ⟨rfl, rfl, rfl, by decide +kernel, rfl, by decide +kernel, by decide +kernel⟩
structure Two (mg : Str → Option Value) : Prop where
  range : mg "range" = none
  repr : mg "repr" = none
theorem two_ok (c : Bool) : (PyData.list [.bool c, .bool c]).showable = true ∧ (PyData.list [.bool c, .bool c]).depth ≤ 60 ∧ (PyData.list [.bool c, .bool c]).shown.length ≤ 100 := by
  cases c <;> refine ⟨by decide +kernel, by decide +kernel, by decide +kernel⟩
theorem ok_law {fB fT fP fW fF fY fL fC f : Addr} {fdB fdT fdP fdW fdF fdY fdL fdC : FuncData} {ns : List Int} {a : Addr} {A : Around} {s : Shared} {H : Hp} {cdv : Value} (hl : ns.length ≤ 63) (B : Bed K mg base A) (hr : Room 4 (A.deeper (envOfC "law" (defScope sLaw) s.heap.objs.size f cdv))) (hS : SqL K H a (ns.map V.int))
    (R : Draw P w K mg base ns fT fP fdT fdP) (T : Two mg)
    (GB : FnOk P w K mg base CX0 1 fB fdB ["_law_script"] (spBegun K ns)) (bB : Binds K fdB ["_law_script"] []) (kB : PySem.W.keepIn K (.ref fB) = true) (mB : mg "_law_begun" = some (.ref fB))
    (GW : FnOk P w K mg base CX0 4 fW fdW ["_law_state", "_law_size"] (spWords ns)) (bW : Binds K fdW ["_law_state", "_law_size"] []) (kW : PySem.W.keepIn K (.ref fW) = true) (mW : mg "_law_words" = some (.ref fW))
    (GF : FnOk P w K mg base CX0 4 fF fdF ["_law_state", "_law_names", "_law_places", "_law_marks"] (spFact ns)) (bF : Binds K fdF ["_law_state", "_law_names", "_law_places", "_law_marks"] []) (kF : PySem.W.keepIn K (.ref fF) = true) (mF : mg "_law_fact" = some (.ref fF))
    (GY : FnOk P w K mg base CX0 4 fY fdY ["_law_state", "_law_names", "_law_thing"] (spBeside ns)) (bY : Binds K fdY ["_law_state", "_law_names", "_law_thing"] []) (kY : PySem.W.keepIn K (.ref fY) = true) (mY : mg "_law_beside" = some (.ref fY))
    (GL : FnOk P w K mg base CX0 1 fL fdL ["_law_left", "_law_right"] spConf) (bL : Binds K fdL ["_law_left", "_law_right"] []) (kL : PySem.W.keepIn K (.ref fL) = true) (mL : mg "_law_conflicts" = some (.ref fL))
    (GC : FnOk P w K mg base CX0 3 fC fdC ["one", "other"] spConf) (bC : Binds K fdC ["one", "other"] []) (kbC : KBinds K fdC ["one", "other"] ["other", "one"] gSw gSwV) (kC : PySem.W.keepIn K (.ref fC) = true) (mC : mg "do_conflict" = some (.ref fC)) :
    ∃ t, PSs (cxOf CX0 P w K mg base nLaw "law" (defScope sLaw) f cdv A [] s H E0).nox (defBody sLaw) t ∧ t { nx := fun _ _ => False, rt := fun v _ => v = .bl true } (L2.start nLaw [.ref a]) H := by
  have nd := scLaw.nd
  have hu := hu_of hr
  have hr4 := hr
  have hr3 : Room 3 (A.deeper (envOfC "law" (defScope sLaw) s.heap.objs.size f cdv)) := hr.mono (by decide)
  have hr2 : Room 2 (A.deeper (envOfC "law" (defScope sLaw) s.heap.objs.size f cdv)) := hr.mono (by decide)
  have hr1 : Room 1 (A.deeper (envOfC "law" (defScope sLaw) s.heap.objs.size f cdv)) := hr.mono (by decide)
  have hgd : (A.deeper (envOfC "law" (defScope sLaw) s.heap.objs.size f cdv)).guards = some [] := B.gd
  refine ⟨_, pss_cons (ps_set (i := 1) nd rfl (.inl rfl) (pe_call GB hr1 rfl mB kB bB .nil pass0 (pa_cons (pv 0) pa_nil)))
(pss_cons (ps_for PassesOwn.never rfl (pi_range1 rfl T.range (pa_cons pe_int pa_nil)) (pg_name (i := 2) nd rfl (.inl rfl))
(pss_cons (ps_par (i := 3) (j := 4) (by rfl) nd rfl rfl (by decide) rfl rfl (pa_cons (pe_call GW hr4 rfl mW kW bW .nil pass0 (pa_cons (pv 1) (pa_cons (pe_op op_add pe_int (pe_call R.GT hr2 rfl R.mT R.kT R.bT .nil pass0 (pa_cons (pv 1) (pa_cons pe_int pa_nil)))) pa_nil))) (pa_cons (pe_lst pa_nil) pa_nil)) (by rfl))
(pss_cons (ps_set (i := 5) nd rfl (.inl rfl) (pe_call R.GP hr3 rfl R.mP R.kP R.bP .nil pass0 (pa_cons (pv 1) (pa_cons (pe_lst (pa_cons pe_int (pa_cons pe_int (pa_cons pe_int pa_nil)))) pa_nil))))
(pss_cons (ps_for PassesOwn.never rfl (pi_range1 rfl T.range (pa_cons pe_int pa_nil)) (pg_name (i := 6) nd rfl (.inl rfl))
(pss_cons (ps_expr (pe_bm PySem.F.plainAttrs_list PySem.F.slot_list_append PySem.F.type_list_append mt_append (pv 4) (pa_cons (pe_call GF hr4 rfl mF kF bF .nil pass0 (pa_cons (pv 1) (pa_cons (pv 3) (pa_cons (pv 5) (pa_cons pe_int pa_nil))))) pa_nil)))
(pss_one (ps_expr (pe_bm PySem.F.plainAttrs_list PySem.F.slot_list_append PySem.F.type_list_append mt_append (pv 4) (pa_cons (pe_call GY hr4 rfl mY kY bY .nil pass0 (pa_cons (pv 1) (pa_cons (pv 3) (pa_cons (pe_ix ix_list (pv 4) (pe_un un_neg pe_int) (fun _ _ => rfl)) pa_nil)))) pa_nil))))))
(pss_one (ps_for PassesOwn.never rfl (pi_list (pv 4)) (pg_name (i := 7) nd rfl (.inl rfl))
(pss_one (ps_for PassesOwn.never rfl (pi_list (pv 4)) (pg_name (i := 8) nd rfl (.inl rfl))
(pss_cons (ps_set (i := 9) nd rfl (.inl rfl) (pe_call GL hr1 rfl mL kL bL .nil pass0 (pa_cons (pv 7) (pa_cons (pv 8) pa_nil))))
(pss_one (ps_if (pt_cmpR op_ne (pe_callB (call_repr hgd hr.units B.sys) rfl T.repr (by decide +kernel) (pa_cons (pe_lst (pa_cons (pe_call GC hr3 rfl mC kC bC .nil pass0 (pa_cons (pv 7) (pa_cons (pv 8) pa_nil))) (pa_cons (pe_kw GC hr3 rfl mC kC kbC pass0 (pk_cons (pv 8) (pk_cons (pv 7) pk_nil))) pa_nil))) pa_nil)) (pe_callB (call_repr hgd hr.units B.sys) rfl T.repr (by decide +kernel) (pa_cons (pe_lst (pa_cons (pv 9) (pa_cons (pv 9) pa_nil))) pa_nil)) (nomark _)) (pss_one (ps_ret pe_bl)) pss_nil)))))))))))
(pss_one (ps_ret pe_bl))), ?_⟩
  refine ⟨_, rfl, a, rfl, hS, hl, fun d g c H1 D1 x1 fd fg fc => ?_⟩
  refine ⟨3, rfl, by decide, by decide, for_range (lo := 0) (n := 3) (fun i σ H' => ∃ (v2 v3 v4 v5 v6 v7 v8 v9 : Option V), σ = [some (.ref a), some (.ref d), v2, v3, v4, v5, v6, v7, v8, v9] ∧ Dw ns d g c (i * 2000) H') ⟨none, none, none, none, none, none, none, none, rfl, D1⟩ ?_ ?_⟩
  · rintro i σ H2 hi ⟨v2, v3, v4, v5, v6, v7, v8, v9, rfl, D2⟩
    refine ⟨_, rfl, _, rfl, d, g, c, _, 8, rfl, D2, by omega, by decide, by decide, fun r H3 r0 r1 D3 k3 => ?_⟩
    refine ⟨_, _, rfl, rfl, ?_⟩
    refine ⟨d, g, c, _, 1 + r, rfl, D3, by omega, by omega, by omega, fun l ws H4 l0 nld nlg hl4 wl wn wok D4 k4 => ?_⟩
    refine ⟨Nat.zero_le _, fun so hso => ?_⟩
    refine ⟨_, _, rfl, ?_⟩
    have nsd := D4.nd hso
    have nsg := D4.ng hso
    have nsc : so ≠ c := fun e => by rw [e, D4.cl] at hso; cases hso
    have nls : l ≠ so := ne_of_none hl4 hso
    have D5 := D4.new (o := .lst []) hso
    have hN5 : Nm (upd H4 so (.lst [])) l ws := ⟨new_same hso _ _ hl4, (fun e => by rw [e] at wl; simp at wl; omega), by omega, wok⟩
    have hs5 : (upd H4 so (.lst [])) so = some (.lst []) := upd_same
    generalize upd H4 so (.lst []) = H5 at D5 hN5 hs5 ⊢
    refine ⟨_, rfl, by show 3 ≤ sizeLine; decide, fun q hq => ?_⟩
    refine ⟨d, g, c, _, D5.new hq, by omega, .inl ⟨q, _, rfl, upd_same, D5.nd hq, D5.ng hq, by show 0 < 3; decide, by show 3 ≤ 1000000; decide, fun x H6 hx D6 k6 => ?_⟩⟩
    obtain ⟨m, rfl, m0, m1⟩ : ∃ m : Int, x = .int m ∧ 4 ≤ m ∧ m ≤ 20 := by
      simp only [List.mem_cons, List.not_mem_nil, or_false] at hx
      rcases hx with rfl | rfl | rfl <;> exact ⟨_, rfl, by decide, by decide⟩
    have k56 : Kp d g H5 H6 := (Kp.new hq).trans k6
    have hN6 : Nm H6 l ws := ⟨k56 _ _ nld nlg hN5.1, hN5.2⟩
    have hs6 := k56 _ _ nsd nsg hs5
    have D6 : Dw ns d g c (i * 2000 + 300) H6 := D6.mono (by omega)
    clear k56 hs5 hN5 D5 D4 D3 k3 k4 hl4 k6
    refine ⟨6, rfl, by decide, by decide, for_range (lo := 0) (n := 6) (fun j σ H' => ∃ (v6 : Option V) (xs : List V), σ = [some (.ref a), some (.ref d), some (.int (0 + (i : Int))), some (.ref l), some (.ref so), some (.int m), v6, v7, v8, v9] ∧ Nm H' l ws ∧ H' so = some (.lst xs) ∧ FsAt H' xs ∧ xs.length = 2 * j ∧ Dw ns d g c (i * 2000 + 300 + j * 50) H')
      ⟨v6, [], rfl, hN6, hs6, .nil, rfl, D6⟩ ?_ ?_⟩
    · rintro j σ H7 hj ⟨v6', xs, rfl, hN7, hs7, hx7, xl, D7⟩
      have put : ∀ {H' : Hp} {ys : List V} {p : Addr} {f' : Fact} {bb : Nat}, Nm H' l ws → H' so = some (.lst ys) → FsAt H' ys → FAt H' p f' → f'.ok → Dw ns d g c bb H' →
          Nm (upd H' so (.lst (ys ++ [.ref p]))) l ws ∧ (upd H' so (.lst (ys ++ [.ref p]))) so = some (.lst (ys ++ [.ref p])) ∧ FsAt (upd H' so (.lst (ys ++ [.ref p]))) (ys ++ [.ref p]) ∧ Dw ns d g c bb (upd H' so (.lst (ys ++ [.ref p]))) := by
        intro H' ys p f' bb a1 a2 a3 a4 a5 a6
        have tk : ∀ {t : Addr} {f2 : Fact}, FAt H' t f2 → FAt (upd H' so (.lst (ys ++ [.ref p]))) t f2 := fun {t f2} h => by
          show upd H' so _ t = _
          rw [upd_ne (ne_of h a2 (by intro z; cases z))]
          exact h
        refine ⟨⟨by rw [upd_ne nls]; exact a1.1, a1.2⟩, upd_same, fun y hy => ?_, a6.put a2 nsd nsg nsc⟩
        rcases List.mem_append.mp hy with hy | hy
        · obtain ⟨t, f2, e, ht, o2⟩ := a3 y hy
          exact ⟨t, f2, e, tk ht, o2⟩
        · rw [List.mem_singleton.mp hy]
          exact ⟨p, f', rfl, tk a4, a5⟩
      have fkp : ∀ {H' H'' : Hp} {ys : List V} {bb : Nat}, FsAt H' ys → Dw ns d g c bb H' → Kp d g H' H'' → FsAt H'' ys := fun h DD kk y hy => by
        obtain ⟨t, f2, e, ht, o2⟩ := h y hy
        exact ⟨t, f2, e, ht.kp DD kk, o2⟩
      refine ⟨_, rfl, .inl ⟨rfl, _, SqL.of hs7⟩, _, rfl, _, rfl, _, rfl, d, g, c, l, _, m, 3, ws, rfl, D7, by omega, nld, nlg, hN7, m0, m1, by decide, by decide, fun p f1 H8 o1 e1 D8 k8 => ?_⟩
      have hs8 := k8 _ _ nsd nsg hs7
      refine ⟨so, _, _, rfl, rfl, hs8, small1000 (by omega), ?_⟩
      obtain ⟨b1, b2, b3, b4⟩ := put (⟨k8 _ _ nld nlg hN7.1, hN7.2⟩ : Nm H8 l ws) hs8 (fkp hx7 D7 k8) e1 o1 D8
      have p9 : FAt (upd H8 so (.lst (xs ++ [.ref p]))) p f1 := by
        show upd H8 so _ p = _
        rw [upd_ne (ne_of e1 hs8 (by intro z; cases z))]
        exact e1
      generalize upd H8 so (.lst (xs ++ [.ref p])) = H9 at b1 b2 b3 b4 p9 ⊢
      refine ⟨_, rfl, .inl ⟨rfl, _, SqL.of b2⟩, _, rfl, _, rfl, _, rfl, _, rfl, so, _, _, _, rfl, rfl, SqL.of b2, atI_last _ _, ?_⟩
      refine ⟨d, g, c, l, p, _, ws, f1, rfl, b4, by omega, nld, nlg, b1, p9, o1, fun p2 f2 H10 o2 e2 D10 k10 => ?_⟩
      have hs10 := k10 _ _ nsd nsg b2
      refine ⟨so, _, _, rfl, rfl, hs10, small1000 (by rw [List.length_append]; show _ + 1 ≤ _; omega), ?_⟩
      obtain ⟨c1, c2, c3, c4⟩ := put (⟨k10 _ _ nld nlg b1.1, b1.2⟩ : Nm H10 l ws) hs10 (fkp b3 b4 k10) e2 o2 D10
      exact ⟨_, _, rfl, c1, c2, c3, by rw [List.length_append, List.length_append]; show _ + 1 + 1 = _; omega, c4.mono (by omega)⟩
    rintro σ H7 ⟨v6', xs, rfl, hN7, hs7, hx7, xl, D7⟩
    have inxs : ∀ {j : Nat} {x : V} {H' : Hp}, Ext H7 H' → xs[j]? = some x → ∃ (p : Addr) (f : Fact), x = .ref p ∧ FAt H' p f ∧ f.ok := fun {j x H'} k h => (hx7.ext k) x (List.mem_of_getElem? h)
    refine ⟨_, rfl, so, rfl, ⟨_, SqL.of hs7⟩, ?_⟩
    refine for_list (K := K) (a := so) (xs := xs) (fun j σ H' => ∃ (v7 v8 v9 : Option V), σ = [some (.ref a), some (.ref d), some (.int (0 + (i : Int))), some (.ref l), some (.ref so), some (.int m), v6', v7, v8, v9] ∧ Ext H7 H') ⟨v7, v8, v9, rfl, Ext.refl⟩ (fun j σ H' _ ⟨_, _, _, _, z⟩ => SqL.of (z _ _ hs7)) ?_ ?_
    · rintro j x σ H8 hx ⟨v7', v8', v9', rfl, k8⟩
      obtain ⟨p, f1, rfl, hp, o1⟩ := inxs k8 hx
      refine ⟨_, rfl, so, rfl, ⟨_, SqL.of (k8 _ _ hs7)⟩, ?_⟩
      refine for_list (K := K) (a := so) (xs := xs) (fun j σ H' => ∃ (v8 v9 : Option V), σ = [some (.ref a), some (.ref d), some (.int (0 + (i : Int))), some (.ref l), some (.ref so), some (.int m), v6', some (.ref p), v8, v9] ∧ Ext H7 H') ⟨v8', v9', rfl, k8⟩ (fun j σ H' _ ⟨_, _, _, z⟩ => SqL.of (z _ _ hs7)) ?_ ?_
      · rintro j2 x σ H9 hx2 ⟨v8, v9, rfl, k9⟩
        obtain ⟨q, f2, rfl, hq, o2⟩ := inxs k9 hx2
        have hp9 : FAt H9 p f1 := by
          obtain ⟨p', f', e, hp', o'⟩ := inxs k9 hx
          cases e
          have h7 : FAt H7 p f1 := by
            obtain ⟨p2, f3, e, hp2, _⟩ := hx7 _ (List.mem_of_getElem? hx)
            cases e
            have := k8 _ _ hp2
            have := this.symm.trans hp
            exact hp2.trans this
          exact k9 _ _ h7
        refine ⟨_, rfl, _, rfl, p, q, f1, f2, rfl, hp9, hq, o1, o2, fun H10 k10 => ?_⟩
        refine ⟨_, rfl, _, rfl, p, q, f1, f2, rfl, k10 _ _ hp9, k10 _ _ hq, o1, o2, fun H11 k11 => ?_⟩
        have k911 := k10.trans k11
        refine ⟨_, rfl, _, rfl, p, q, f1, f2, rfl, k911 _ _ hp9, k911 _ _ hq, o1, o2, fun H12 k12 => ?_⟩
        have k912 := k911.trans k12
        obtain ⟨s1, s2, s3⟩ := two_ok (conf f1 f2)
        refine ⟨by show 2 ≤ sizeLine; decide, fun u hu => ?_⟩
        refine ⟨_, _, rfl, Dr.lst upd_same (.cons (.bl _) (.cons (.bl _) .nil)), s1, s2, Nat.le_trans s3 (by decide), ?_⟩
        refine ⟨_, rfl, _, rfl, by show 2 ≤ sizeLine; decide, fun u2 hu2 => ?_⟩
        refine ⟨_, _, rfl, Dr.lst upd_same (.cons (.bl _) (.cons (.bl _) .nil)), s1, s2, Nat.le_trans s3 (by decide), ?_⟩
        refine ⟨rfl, _, rfl, iteNS rfl ?_⟩
        exact ⟨_, _, rfl, ((k9.trans k912).trans (Ext.new hu)).trans (Ext.new hu2)⟩
      · rintro σ H9 ⟨v8, v9, rfl, k9⟩
        exact ⟨_, _, _, rfl, k9⟩
    · rintro σ H8 ⟨v7', v8', v9', rfl, k8⟩
      exact ⟨_, _, _, _, _, _, _, _, rfl, (D7.keep k8).mono (by omega)⟩
  · rintro σ H2 ⟨v2, v3, v4, v5, v6, v7, v8, v9, rfl, D2⟩
    rfl
end
end Lw

set_option Elab.async false
set_option linter.all false
set_option maxRecDepth 100000
set_option maxHeartbeats 8000000
namespace Lw
open L2 hiding Ext
open PySem PySem.Spec PyProof.Rows Gn Gr Gk Go Gt Gf Ge
/-- what the top has left, def by def -/
theorem all_mk {P : Program} {w : World} {K : PySem.W.Frag} {h : Heap} {mg : Str → Option Value} {fa : Addr} (X : K.In h) (G : h.Ns mainGlobals mg) (hfa : mg "law" = some (.ref fa))
    {fB : Addr} {odB anB : Option Addr} {slB : Array (Option Value)} {ocB kVB dcB pmB cdB ctB : Value}
    (aB : PySem.W.nsIn K mainGlobals "_law_begun" = some (some (.ref fB))) (lB : K.lookup fB = some ⟨ocB, odB, .func (PySem.W.fnOf "_law_begun" "_law_begun" (defArgs sBegun) (defBody sBegun) (defScope sBegun) .none kVB dcB pmB anB cdB ctB), slB⟩)
    (cB : PySem.W.codeIn K cdB "_law_begun" = true) (kB : PySem.W.keepIn K (.ref fB) = true)
    {fM : Addr} {odM anM : Option Addr} {slM : Array (Option Value)} {ocM kVM dcM pmM cdM ctM : Value}
    (aM : PySem.W.nsIn K mainGlobals "_law_mixed" = some (some (.ref fM))) (lM : K.lookup fM = some ⟨ocM, odM, .func (PySem.W.fnOf "_law_mixed" "_law_mixed" (defArgs sMixed) (defBody sMixed) (defScope sMixed) .none kVM dcM pmM anM cdM ctM), slM⟩)
    (cM : PySem.W.codeIn K cdM "_law_mixed" = true) (kM : PySem.W.keepIn K (.ref fM) = true)
    {fT : Addr} {odT anT : Option Addr} {slT : Array (Option Value)} {ocT kVT dcT pmT cdT ctT : Value}
    (aT : PySem.W.nsIn K mainGlobals "_law_take" = some (some (.ref fT))) (lT : K.lookup fT = some ⟨ocT, odT, .func (PySem.W.fnOf "_law_take" "_law_take" (defArgs sTake) (defBody sTake) (defScope sTake) .none kVT dcT pmT anT cdT ctT), slT⟩)
    (cT : PySem.W.codeIn K cdT "_law_take" = true) (kT : PySem.W.keepIn K (.ref fT) = true)
    {fP : Addr} {odP anP : Option Addr} {slP : Array (Option Value)} {ocP kVP dcP pmP cdP ctP : Value}
    (aP : PySem.W.nsIn K mainGlobals "_law_pick" = some (some (.ref fP))) (lP : K.lookup fP = some ⟨ocP, odP, .func (PySem.W.fnOf "_law_pick" "_law_pick" (defArgs sPick) (defBody sPick) (defScope sPick) .none kVP dcP pmP anP cdP ctP), slP⟩)
    (cP : PySem.W.codeIn K cdP "_law_pick" = true) (kP : PySem.W.keepIn K (.ref fP) = true)
    {fW : Addr} {odW anW : Option Addr} {slW : Array (Option Value)} {ocW kVW dcW pmW cdW ctW : Value}
    (aW : PySem.W.nsIn K mainGlobals "_law_words" = some (some (.ref fW))) (lW : K.lookup fW = some ⟨ocW, odW, .func (PySem.W.fnOf "_law_words" "_law_words" (defArgs sWords) (defBody sWords) (defScope sWords) .none kVW dcW pmW anW cdW ctW), slW⟩)
    (cW : PySem.W.codeIn K cdW "_law_words" = true) (kW : PySem.W.keepIn K (.ref fW) = true)
    {fF : Addr} {odF anF : Option Addr} {slF : Array (Option Value)} {ocF kVF dcF pmF cdF ctF : Value}
    (aF : PySem.W.nsIn K mainGlobals "_law_fact" = some (some (.ref fF))) (lF : K.lookup fF = some ⟨ocF, odF, .func (PySem.W.fnOf "_law_fact" "_law_fact" (defArgs sFact) (defBody sFact) (defScope sFact) .none kVF dcF pmF anF cdF ctF), slF⟩)
    (cF : PySem.W.codeIn K cdF "_law_fact" = true) (kF : PySem.W.keepIn K (.ref fF) = true)
    {fY : Addr} {odY anY : Option Addr} {slY : Array (Option Value)} {ocY kVY dcY pmY cdY ctY : Value}
    (aY : PySem.W.nsIn K mainGlobals "_law_beside" = some (some (.ref fY))) (lY : K.lookup fY = some ⟨ocY, odY, .func (PySem.W.fnOf "_law_beside" "_law_beside" (defArgs sBeside) (defBody sBeside) (defScope sBeside) .none kVY dcY pmY anY cdY ctY), slY⟩)
    (cY : PySem.W.codeIn K cdY "_law_beside" = true) (kY : PySem.W.keepIn K (.ref fY) = true)
    {fZ : Addr} {odZ anZ : Option Addr} {slZ : Array (Option Value)} {ocZ kVZ dcZ pmZ cdZ ctZ : Value}
    (aZ : PySem.W.nsIn K mainGlobals "_law_conflicts" = some (some (.ref fZ))) (lZ : K.lookup fZ = some ⟨ocZ, odZ, .func (PySem.W.fnOf "_law_conflicts" "_law_conflicts" (defArgs sLConf) (defBody sLConf) (defScope sLConf) .none kVZ dcZ pmZ anZ cdZ ctZ), slZ⟩)
    (cZ : PySem.W.codeIn K cdZ "_law_conflicts" = true) (kZ : PySem.W.keepIn K (.ref fZ) = true)
    {fS : Addr} {odS anS : Option Addr} {slS : Array (Option Value)} {ocS kVS dcS pmS cdS ctS : Value}
    (aS : PySem.W.nsIn K mainGlobals "supposed_rows" = some (some (.ref fS))) (lS : K.lookup fS = some ⟨ocS, odS, .func (PySem.W.fnOf "supposed_rows" "supposed_rows" (defArgs sSup) (defBody sSup) (defScope sSup) .none kVS dcS pmS anS cdS ctS), slS⟩)
    (cS : PySem.W.codeIn K cdS "supposed_rows" = true) (kS : PySem.W.keepIn K (.ref fS) = true)
    {fD : Addr} {odD anD : Option Addr} {slD : Array (Option Value)} {ocD kVD dcD pmD cdD ctD : Value}
    (aD : PySem.W.nsIn K mainGlobals "contradicts" = some (some (.ref fD))) (lD : K.lookup fD = some ⟨ocD, odD, .func (PySem.W.fnOf "contradicts" "contradicts" (defArgs sContr) (defBody sContr) (defScope sContr) .none kVD dcD pmD anD cdD ctD), slD⟩)
    (cD : PySem.W.codeIn K cdD "contradicts" = true) (kD : PySem.W.keepIn K (.ref fD) = true)
    {fO : Addr} {odO anO : Option Addr} {slO : Array (Option Value)} {ocO kVO dcO pmO cdO ctO : Value}
    (aO : PySem.W.nsIn K mainGlobals "slot" = some (some (.ref fO))) (lO : K.lookup fO = some ⟨ocO, odO, .func (PySem.W.fnOf "slot" "slot" (defArgs sSlot) (defBody sSlot) (defScope sSlot) .none kVO dcO pmO anO cdO ctO), slO⟩)
    (cO : PySem.W.codeIn K cdO "slot" = true) (kO : PySem.W.keepIn K (.ref fO) = true)
    {fC : Addr} {odC anC : Option Addr} {slC : Array (Option Value)} {ocC kVC dcC pmC cdC ctC : Value}
    (aC : PySem.W.nsIn K mainGlobals "do_conflict" = some (some (.ref fC))) (lC : K.lookup fC = some ⟨ocC, odC, .func (PySem.W.fnOf "do_conflict" "do_conflict" (defArgs sConf) (defBody sConf) (defScope sConf) .none kVC dcC pmC anC cdC ctC), slC⟩)
    (cC : PySem.W.codeIn K cdC "do_conflict" = true) (kC : PySem.W.keepIn K (.ref fC) = true)
    {fL : Addr} {odL anL : Option Addr} {slL : Array (Option Value)} {ocL kVL dcL pmL cdL ctL : Value}
    (aL : PySem.W.nsIn K mainGlobals "law" = some (some (.ref fL))) (lL : K.lookup fL = some ⟨ocL, odL, .func (PySem.W.fnOf "law" "law" (defArgs sLaw) (defBody sLaw) (defScope sLaw) .none kVL dcL pmL anL cdL ctL), slL⟩)
    (cL : PySem.W.codeIn K cdL "law" = true) (kL : PySem.W.keepIn K (.ref fL) = true)
    {pr : Addr} {pdr : Option Addr} {pnr : Nat} {psr : Array (Option Value)} {tr0 tr1 : Tok}
    (br : PySem.W.nsIn K mainGlobals "ROWS" = some (some (.ref pr))) (ur : K.lookup pr = some ⟨.type "tuple", pdr, .seq #[.str "spender" tr0, .str "request" tr1] pnr, psr⟩)
    {ps : Addr} {pds : Option Addr} {pns : Nat} {pss : Array (Option Value)} {ts0 ts1 : Tok}
    (bs : PySem.W.nsIn K mainGlobals "ANSWERS" = some (some (.ref ps))) (us : K.lookup ps = some ⟨.type "tuple", pds, .seq #[.str "consent" ts0, .str "refuse" ts1] pns, pss⟩)
    (z0 : PySem.W.nsIn K mainGlobals "list" = some none)
    (z1 : PySem.W.nsIn K mainGlobals "len" = some none)
    (z2 : PySem.W.nsIn K mainGlobals "range" = some none)
    (z3 : PySem.W.nsIn K mainGlobals "any" = some none)
    (z4 : PySem.W.nsIn K mainGlobals "repr" = some none)
    : ∃ fd : FuncData, Fun K "law" "law" sLaw fa fd ∧ (∀ (s : Shared) (u : Value), BindsTo s fd ⟨[u], []⟩ [("_law_script", u)]) ∧
      ∀ (base : Heap) (A : Around) (s : Shared) (H : Hp) (cdv : Value) (a : Addr) (ns : List Int), ns.length ≤ 63 → Bed K mg base A → Room 4 (A.deeper (envOfC "law" (defScope sLaw) s.heap.objs.size fa cdv)) → SqL K H a (ns.map V.int) →
        ∃ t, PSs (cxOf CX0 P w K mg base nLaw "law" (defScope sLaw) fa cdv A [] s H E0).nox (defBody sLaw) t ∧ t { nx := fun _ _ => False, rt := fun v _ => v = .bl true } (L2.start nLaw [.ref a]) H := by
  have e := hfa.symm.trans (PySem.W.mg_of X G aL)
  cases e
  have FB := fun_mk (st := sBegun) lB cB kB
  have mB := PySem.W.mg_of X G aB
  have bB := FB.binds (ps := ["_law_script"]) fun _ _ _ _ _ _ us hl => match us, hl with | [_], _ => rfl
  have FM := fun_mk (st := sMixed) lM cM kM
  have mM := PySem.W.mg_of X G aM
  have bM := FM.binds (ps := ["_law_state"]) fun _ _ _ _ _ _ us hl => match us, hl with | [_], _ => rfl
  have FT := fun_mk (st := sTake) lT cT kT
  have mT := PySem.W.mg_of X G aT
  have bT := FT.binds (ps := ["_law_state", "_law_size"]) fun _ _ _ _ _ _ us hl => match us, hl with | [_, _], _ => rfl
  have FP := fun_mk (st := sPick) lP cP kP
  have mP := PySem.W.mg_of X G aP
  have bP := FP.binds (ps := ["_law_state", "_law_some"]) fun _ _ _ _ _ _ us hl => match us, hl with | [_, _], _ => rfl
  have FW := fun_mk (st := sWords) lW cW kW
  have mW := PySem.W.mg_of X G aW
  have bW := FW.binds (ps := ["_law_state", "_law_size"]) fun _ _ _ _ _ _ us hl => match us, hl with | [_, _], _ => rfl
  have FF := fun_mk (st := sFact) lF cF kF
  have mF := PySem.W.mg_of X G aF
  have bF := FF.binds (ps := ["_law_state", "_law_names", "_law_places", "_law_marks"]) fun _ _ _ _ _ _ us hl => match us, hl with | [_, _, _, _], _ => rfl
  have FY := fun_mk (st := sBeside) lY cY kY
  have mY := PySem.W.mg_of X G aY
  have bY := FY.binds (ps := ["_law_state", "_law_names", "_law_thing"]) fun _ _ _ _ _ _ us hl => match us, hl with | [_, _, _], _ => rfl
  have FZ := fun_mk (st := sLConf) lZ cZ kZ
  have mZ := PySem.W.mg_of X G aZ
  have bZ := FZ.binds (ps := ["_law_left", "_law_right"]) fun _ _ _ _ _ _ us hl => match us, hl with | [_, _], _ => rfl
  have FS := fun_mk (st := sSup) lS cS kS
  have mS := PySem.W.mg_of X G aS
  have bS := FS.binds (ps := ["fact"]) fun _ _ _ _ _ _ us hl => match us, hl with | [_], _ => rfl
  have FD := fun_mk (st := sContr) lD cD kD
  have mD := PySem.W.mg_of X G aD
  have bD := FD.binds (ps := ["row", "fact"]) fun _ _ _ _ _ _ us hl => match us, hl with | [_, _], _ => rfl
  have FO := fun_mk (st := sSlot) lO cO kO
  have mO := PySem.W.mg_of X G aO
  have bO := FO.binds (ps := ["fact"]) fun _ _ _ _ _ _ us hl => match us, hl with | [_], _ => rfl
  have FC := fun_mk (st := sConf) lC cC kC
  have mC := PySem.W.mg_of X G aC
  have bC := FC.binds (ps := ["one", "other"]) fun _ _ _ _ _ _ us hl => match us, hl with | [_, _], _ => rfl
  have FL := fun_mk (st := sLaw) lL cL kL
  have mL := PySem.W.mg_of X G aL
  have bL := FL.binds (ps := ["_law_script"]) fun _ _ _ _ _ _ us hl => match us, hl with | [_], _ => rfl
  refine ⟨_, FL, fun s v => .of_eq rfl, fun base A s H cdv a ns hl B hr hS => ?_⟩
  have GM : FnOk P w K mg base CX0 1 _ _ ["_law_state"] (spMixed ns) := ok_mixed ns FM
  have GT : FnOk P w K mg base CX0 2 _ _ ["_law_state", "_law_size"] (spTake ns) := ok_take ns FT GM bM kM mM
  have GP : FnOk P w K mg base CX0 3 _ _ ["_law_state", "_law_some"] (spPick K ns) := ok_pick ns FP GT bT kT mT (PySem.W.mg_none_of X G z1)
  have R : Draw P w K mg base ns fT fP _ _ := ⟨GT, bT, kT, mT, GP, bP, kP, mP, (PySem.W.mg_none_of X G z1), (PySem.W.mg_none_of X G z2)⟩
  have N : Names K mg := ⟨⟨_, PySem.W.mg_of X G br, fun _ => .inr ⟨_, _, _, ur, rfl, rfl, by show 2 ≤ sizeLine; decide, .cons ⟨_, rfl⟩ (.cons ⟨_, rfl⟩ (.nil))⟩⟩, ⟨_, PySem.W.mg_of X G bs, fun _ => .inr ⟨_, _, _, us, rfl, rfl, by show 2 ≤ sizeLine; decide, .cons ⟨_, rfl⟩ (.cons ⟨_, rfl⟩ (.nil))⟩⟩, (PySem.W.mg_none_of X G z3)⟩
  have GD := ok_contr (P := P) (w := w) (base := base) FD N (ok_sup FS N) bS kS mS
  exact ok_law hl B hr hS R ⟨(PySem.W.mg_none_of X G z2), (PySem.W.mg_none_of X G z4)⟩ (ok_begun ns FB (PySem.W.mg_none_of X G z0)) bB kB mB (ok_words ns FW R) bW kW mW (ok_fact ns FF R) bF kF mF (ok_beside ns FY R) bY kY mY (ok_lconf FZ) bZ kZ mZ (ok_conf FC N (ok_slot FO N) bO kO mO GD bD kD mD) bC (kb_swap fun s u v => .of_eq rfl) kC mC
end Lw
open PySem PySem.W PyProof.Rows
set_option maxRecDepth 100000 in
set_option maxHeartbeats 0 in
theorem PySem.Challenge.cw_hearpurse_k21_conflicts_of_facts_holds : PySem.Challenge.rw_hearpurse_k21_conflicts_of_facts.Holds := by
  w_on; o_law; k_head; (case hw => w_witness2)
  k_fill
  refine Ge.walk_law (l := PySem.Challenge.rw_hearpurse_k21_conflicts_of_facts) (n := 63) (k := 4) (x := "_law_script") (st := Lw.sLaw) (N := Lw.nLaw) rfl (by decide) rfl ⟨rfl, by decide, by decide⟩ (by decide +kernel) Lw.scLaw (fun w h Y => PySem.W.kIn_of Y) ?F
  case F =>
    intro w mg fa h KX G hmg
    refine' Lw.all_mk KX G hmg ?aB ?lB ?cB ?kB ?aM ?lM ?cM ?kM ?aT ?lT ?cT ?kT ?aP ?lP ?cP ?kP ?aW ?lW ?cW ?kW ?aF ?lF ?cF ?kF ?aY ?lY ?cY ?kY ?aZ ?lZ ?cZ ?kZ ?aS ?lS ?cS ?kS ?aD ?lD ?cD ?kD ?aO ?lO ?cO ?kO ?aC ?lC ?cC ?kC ?aL ?lL ?cL ?kL ?br ?ur ?bs ?us ?z0 ?z1 ?z2 ?z3 ?z4
    (case aB => k_is)
    (case lB => k_is)
    (case cB => k_is)
    (case kB => k_is)
    (case aM => k_is)
    (case lM => k_is)
    (case cM => k_is)
    (case kM => k_is)
    (case aT => k_is)
    (case lT => k_is)
    (case cT => k_is)
    (case kT => k_is)
    (case aP => k_is)
    (case lP => k_is)
    (case cP => k_is)
    (case kP => k_is)
    (case aW => k_is)
    (case lW => k_is)
    (case cW => k_is)
    (case kW => k_is)
    (case aF => k_is)
    (case lF => k_is)
    (case cF => k_is)
    (case kF => k_is)
    (case aY => k_is)
    (case lY => k_is)
    (case cY => k_is)
    (case kY => k_is)
    (case aZ => k_is)
    (case lZ => k_is)
    (case cZ => k_is)
    (case kZ => k_is)
    (case aS => k_is)
    (case lS => k_is)
    (case cS => k_is)
    (case kS => k_is)
    (case aD => k_is)
    (case lD => k_is)
    (case cD => k_is)
    (case kD => k_is)
    (case aO => k_is)
    (case lO => k_is)
    (case cO => k_is)
    (case kO => k_is)
    (case aC => k_is)
    (case lC => k_is)
    (case cC => k_is)
    (case kC => k_is)
    (case aL => k_is)
    (case lL => k_is)
    (case cL => k_is)
    (case kL => k_is)
    (case br => k_is)
    (case ur => k_is)
    (case bs => k_is)
    (case us => k_is)
    (case z0 => k_is)
    (case z1 => k_is)
    (case z2 => k_is)
    (case z3 => k_is)
    (case z4 => k_is)

import PyProof.Rows.All
import Wide.All
import OpenK.AllK
import Wide.FinOn
import HandS.Base
import HandS.Call
import HandS.List
import HandS.Comp
import HandS.Ends
import HandS.Dict
import HandS.Iter
import HandS.Words
import PyProof.ReprRoads
import HandS.ForMost
import HandS.IsInst
import HandS.Walk
import PyProof.ReprLen
import PyProof.StrLawsRepr
import HandS.ClsMeth
import HandS.Property
import HandS.OwnEq
import HandS.DictComp
import HandS.Conv
import HandS.FStr
import PyProof.InstNe
import KE.KDictList
import HandS.Text
import HandS.ExcOwn
import HandS.ExcInit
import HandS.Exc
import HandS.ExcValue
import HandS.ExcField
import HandS.ExcIs
import KE.KExcIs
import HandS.Zip
import KE.GoesZip
import KE.GoesMore
import HandS.WordsExc
import PySem.Challenge.RW_hearpurse_k04_texts_spoilt
set_option Elab.async false
set_option linter.all false
set_option maxRecDepth 100000
set_option maxHeartbeats 4000000
namespace Gn
open PySem PySem.Spec PyProof.Rows L2

/-! ## heaps -/
theorem new_same {H : Hp} {p : Addr} {o : HO} (h : H p = none) : ∀ b u, H b = some u → upd H p o b = some u := by
  intro b u e
  rw [upd_ne (ne_of_none e h)]
  exact e
/-- the heap less two objects: those of the draws -/
def Rs (d g : Addr) (H : Hp) : Hp := fun a => if a = d ∨ a = g then none else H a
section
variable {d g a p : Addr} {H H' H2 : Hp} {o u : HO}
theorem rs_of (h : Rs d g H a = some o) : H a = some o ∧ a ≠ d ∧ a ≠ g := by
  unfold Rs at h
  by_cases c : a = d ∨ a = g
  · rw [if_pos c] at h; cases h
  · rw [if_neg c] at h
    exact ⟨h, fun e => c (.inl e), fun e => c (.inr e)⟩
theorem rs_to (h : H a = some o) (h1 : a ≠ d) (h2 : a ≠ g) : Rs d g H a = some o := by
  unfold Rs
  rw [if_neg (fun c => c.elim h1 h2)]
  exact h
/-- all that is no draw's stands -/
def Kp (d g : Addr) (H H' : Hp) : Prop := ∀ a o, a ≠ d → a ≠ g → H a = some o → H' a = some o
theorem Kp.refl : Kp d g H H := fun _ _ _ _ e => e
theorem Kp.trans (h : Kp d g H H') (k : Kp d g H' H2) : Kp d g H H2 := fun a o n1 n2 e => k a o n1 n2 (h a o n1 n2 e)
theorem Kp.new (hp : H p = none) : Kp d g H (upd H p o) := fun a u _ _ e => new_same hp a u e
theorem Kp.of (h : ∀ a o, H a = some o → H' a = some o) : Kp d g H H' := fun a o _ _ e => h a o e
theorem Kp.at_d : Kp d g H (upd H d o) := fun a u n1 _ e => by rw [upd_ne n1]; exact e
theorem Kp.at_g : Kp d g H (upd H g o) := fun a u _ n2 e => by rw [upd_ne n2]; exact e
end

/-! ## the draws' state -/
def kG : Key := Sum.inr ("great" : Str)
def kC : Key := Sum.inr ("cells" : Str)
def kL : Key := Sum.inr ("left" : Str)
def kT : Key := Sum.inr ("turn" : Str)
def dk (g c : Addr) (l t : Int) : List (Key × V) := [(kG, .ref g), (kC, .ref c), (kL, .int l), (kT, .int t)]
section
variable {g c : Addr} {l t z : Int} {H : Hp} {d : Addr}
theorem nGC : ¬ kG = kC := by decide +kernel
theorem nGL : ¬ kG = kL := by decide +kernel
theorem nGT : ¬ kG = kT := by decide +kernel
theorem nCL : ¬ kC = kL := by decide +kernel
theorem nCT : ¬ kC = kT := by decide +kernel
theorem nLT : ¬ kL = kT := by decide +kernel
theorem dk_g : valV (dk g c l t) kG = some (.ref g) := valV_pos rfl
theorem dk_c : valV (dk g c l t) kC = some (.ref c) := (valV_neg nGC).trans (valV_pos rfl)
theorem dk_l : valV (dk g c l t) kL = some (.int l) := (valV_neg nGL).trans ((valV_neg nCL).trans (valV_pos rfl))
theorem dk_t : valV (dk g c l t) kT = some (.int t) := (valV_neg nGT).trans ((valV_neg nCT).trans ((valV_neg nLT).trans (valV_pos rfl)))
theorem get_g (h : H d = some (.dK (dk g c l t))) : DGet H d (.str "great") (some (.ref g)) := by
  rw [← dk_g (g := g) (c := c) (l := l) (t := t)]
  exact DGet.k (k := kG) h
theorem get_c (h : H d = some (.dK (dk g c l t))) : DGet H d (.str "cells") (some (.ref c)) := by
  rw [← dk_c (g := g) (c := c) (l := l) (t := t)]
  exact DGet.k (k := kC) h
theorem get_l (h : H d = some (.dK (dk g c l t))) : DGet H d (.str "left") (some (.int l)) := by
  rw [← dk_l (g := g) (c := c) (l := l) (t := t)]
  exact DGet.k (k := kL) h
theorem get_t (h : H d = some (.dK (dk g c l t))) : DGet H d (.str "turn") (some (.int t)) := by
  rw [← dk_t (g := g) (c := c) (l := l) (t := t)]
  exact DGet.k (k := kT) h
theorem put_dk_l : putK (dk g c l t) kL (.int z) = dk g c z t := by
  unfold putK dk
  simp [nGL, nCL, Ne.symm nLT, (show ¬ kT = kL from fun e => nLT e.symm)]
theorem put_dk_t : putK (dk g c l t) kT (.int z) = dk g c l z := by
  unfold putK dk
  simp [nGT, nCT, nLT]
theorem put_l (h : H d = some (.dK (dk g c l t))) : DPut H d (.str "left") (.int z) (upd H d (.dK (dk g c z t))) := by
  rw [← put_dk_l (l := l)]
  exact DPut.k (k := kL) h (by show 4 < sizeLine; decide)
theorem put_t (h : H d = some (.dK (dk g c l t))) : DPut H d (.str "turn") (.int z) (upd H d (.dK (dk g c l z))) := by
  rw [← put_dk_t (t := t)]
  exact DPut.k (k := kT) h (by show 4 < sizeLine; decide)
theorem merge_dk : mergeK [] (dk g c l t) = dk g c l t := by
  have e1 : putK [] kG (.ref g) = [(kG, V.ref g)] := rfl
  have e2 : putK [(kG, V.ref g)] kC (.ref c) = [(kG, V.ref g), (kC, V.ref c)] := by unfold putK; simp [nGC]
  have e3 : putK [(kG, V.ref g), (kC, V.ref c)] kL (.int l) = [(kG, V.ref g), (kC, V.ref c), (kL, V.int l)] := by unfold putK; simp [nGL, nCL]
  have e4 : putK [(kG, V.ref g), (kC, V.ref c), (kL, V.int l)] kT (.int t) = [(kG, V.ref g), (kC, V.ref c), (kL, V.int l), (kT, V.int t)] := by unfold putK; simp [nGT, nCT, nLT]
  unfold mergeK dk
  simp only [List.foldl_cons, List.foldl_nil, e1, e2, e3, e4]
end
/-- the draws' dict at d, its lists at g and c; at most b turns were mixed -/
structure Dw (ns : List Int) (d g c : Addr) (b : Nat) (H : Hp) : Prop where
  st : ∃ (gs : List Int) (l t : Int), H d = some (.dK (dk g c l t)) ∧ H g = some (.lst (gs.map V.int)) ∧ 0 ≤ t ∧ t ≤ b
  cl : H c = some (.lst (ns.map V.int))
  ncd : c ≠ d
  ncg : c ≠ g
section
variable {ns : List Int} {d g c p : Addr} {b b' : Nat} {H H' : Hp} {o : HO}
theorem Dw.mono (h : Dw ns d g c b H) (k : b ≤ b') : Dw ns d g c b' H := by
  obtain ⟨⟨gs, l, t, h1, h2, h3, h4⟩, h5, h6, h7⟩ := h
  exact ⟨⟨gs, l, t, h1, h2, h3, by omega⟩, h5, h6, h7⟩
/-- what is new leaves them -/
theorem Dw.keep (h : Dw ns d g c b H) (k : ∀ a o, H a = some o → H' a = some o) : Dw ns d g c b H' := by
  obtain ⟨⟨gs, l, t, h1, h2, h3, h4⟩, h5, h6, h7⟩ := h
  exact ⟨⟨gs, l, t, k _ _ h1, k _ _ h2, h3, h4⟩, k _ _ h5, h6, h7⟩
theorem Dw.new (h : Dw ns d g c b H) (hp : H p = none) : Dw ns d g c b (upd H p o) := h.keep fun a u e => new_same hp a u e
theorem Dw.nd (h : Dw ns d g c b H) (hp : H p = none) : p ≠ d := by
  obtain ⟨⟨gs, l, t, h1, h2, h3, h4⟩, h5, h6, h7⟩ := h
  exact fun e => ne_of_none h1 hp e.symm
theorem Dw.ng (h : Dw ns d g c b H) (hp : H p = none) : p ≠ g := by
  obtain ⟨⟨gs, l, t, h1, h2, h3, h4⟩, h5, h6, h7⟩ := h
  exact fun e => ne_of_none h2 hp e.symm
theorem Dw.some (h : Dw ns d g c b H) : (∃ o, H d = some o) ∧ ∃ o, H g = some o := by
  obtain ⟨⟨gs, l, t, h1, h2, h3, h4⟩, h5, h6, h7⟩ := h
  exact ⟨⟨_, h1⟩, ⟨_, h2⟩⟩
/-- what is new behind a draw was new ahead of it -/
theorem Dw.free (h : Dw ns d g c b H) (h' : Dw ns d g c b' H') (k : Kp d g H H') (hp : H' p = none) : H p = none := by
  cases e : H p with
  | none => rfl
  | some u =>
    have q := k p u (h'.nd hp) (h'.ng hp) e
    rw [hp] at q
    cases q
theorem Dw.put (h : Dw ns d g c b H) (hp : H p = Option.some u) (n1 : p ≠ d) (n2 : p ≠ g) (n3 : p ≠ c) : Dw ns d g c b (upd H p o) := by
  obtain ⟨⟨gs, l, t, h1, h2, h3, h4⟩, h5, h6, h7⟩ := h
  exact ⟨⟨gs, l, t, by rw [upd_ne n1.symm]; exact h1, by rw [upd_ne n2.symm]; exact h2, h3, h4⟩, by rw [upd_ne n3.symm]; exact h5, h6, h7⟩
end
/-! ## small words of arithmetic -/
theorem fmod_lo {a b : Int} (h : 0 < b) : 0 ≤ a.fmod b := by rw [Int.fmod_eq_emod_of_nonneg a (by omega)]; exact Int.emod_nonneg a (by omega)
theorem fmod_hi {a b : Int} (h : 0 < b) : a.fmod b < b := by rw [Int.fmod_eq_emod_of_nonneg a (by omega)]; exact Int.emod_lt_of_pos a h
theorem at_int {xs : List V} {r : Int} (h0 : 0 ≤ r) (h1 : r < (xs.length : Int)) : ∃ v, atI xs r = some v ∧ v ∈ xs := by
  have k : r.toNat < xs.length := by omega
  have e : r = ((r.toNat : Nat) : Int) := by omega
  have q : atI xs ((r.toNat : Nat) : Int) = some xs[r.toNat] := atI_nat (List.getElem?_eq_getElem k)
  rw [← e] at q
  exact ⟨_, q, List.getElem_mem k⟩
/-! ## lists of flat data, by == -/
section
variable {K : PySem.W.Frag} {H : Hp}
theorem dp_ints : ∀ ns : List Int, DpAll K H (ns.map V.int) (ns.map PyData.int)
  | [] => .nil
  | n :: r => .cons (.int n) (dp_ints r)
theorem dp_bools : ∀ ns : List Bool, DpAll K H (ns.map V.bl) (ns.map PyData.bool)
  | [] => .nil
  | n :: r => .cons (.bl n) (dp_bools r)
theorem dp_strs : ∀ ns : List Str, DpAll K H (ns.map V.str) (ns.map PyData.str)
  | [] => .nil
  | n :: r => .cons (.str n) (dp_strs r)
/-- no list, tuple or dict -/
def flatD : PyData → Bool
  | .none => true
  | .bool _ => true
  | .int _ => true
  | .str x => PyData.strOk x
  | _ => false
theorem lay_flat {x : PyData} (h : flatD x = true) : x.canLay0 = true ∧ x.depth ≤ 1 := by
  cases x with
  | none => constructor <;> simp [PyData.canLay0, PyData.depth]
  | bool _ => constructor <;> simp [PyData.canLay0, PyData.depth]
  | int _ => constructor <;> simp [PyData.canLay0, PyData.depth]
  | str x =>
    have h' : PyData.strOk x = true := h
    constructor <;> simp [PyData.canLay0, PyData.depth, h']
  | list _ => cases h
  | tuple _ => cases h
  | dict _ => cases h
theorem lay_flats : ∀ {ds : List PyData}, (∀ x ∈ ds, flatD x = true) → PyData.canLayAll0 ds = true ∧ PyData.depthAll ds ≤ 1
  | [], _ => by constructor <;> simp [PyData.canLayAll0, PyData.depthAll]
  | x :: r, h => by
    obtain ⟨a1, a2⟩ := lay_flat (h x (List.mem_cons_self ..))
    obtain ⟨b1, b2⟩ := lay_flats (ds := r) fun y hy => h y (List.mem_cons_of_mem _ hy)
    constructor
    · simp [PyData.canLayAll0, a1, b1]
    · simp only [PyData.depthAll]
      omega
theorem shaped_flats {ds : List PyData} (h : ∀ x ∈ ds, flatD x = true) : SeqAt.shaped (.list ds) = true := by
  obtain ⟨b1, b2⟩ := lay_flats h
  have e : PyData.depth (.list ds) = PyData.depthAll ds + 1 := by simp only [PyData.depth]
  unfold SeqAt.shaped
  rw [e]
  simp only [PyData.canLay0, b1, Bool.true_and, decide_eq_true_eq]
  omega
theorem shaped_ints (ns : List Int) : SeqAt.shaped (.list (ns.map PyData.int)) = true := shaped_flats fun x hx => by
  obtain ⟨n, _, rfl⟩ := List.mem_map.mp hx
  rfl
theorem shaped_bools (ns : List Bool) : SeqAt.shaped (.list (ns.map PyData.bool)) = true := shaped_flats fun x hx => by
  obtain ⟨n, _, rfl⟩ := List.mem_map.mp hx
  rfl
theorem shaped_strs {ns : List Str} (h : ∀ x ∈ ns, PyData.strOk x = true) : SeqAt.shaped (.list (ns.map PyData.str)) = true := shaped_flats fun x hx => by
  obtain ⟨n, hn, rfl⟩ := List.mem_map.mp hx
  exact h n hn
theorem shaped_nil : SeqAt.shaped (.list []) = true := shaped_flats fun x hx => by cases hx
theorem eqv_nil {ds : List PyData} : PyData.eqv (.list ds) (.list []) = ds.isEmpty := by
  cases ds <;> simp [PyData.eqv, PyData.eqvAll]
theorem eqv_bools : ∀ xs ys : List Bool, PyData.eqvAll (xs.map PyData.bool) (ys.map PyData.bool) = decide (xs = ys)
  | [], [] => by simp [PyData.eqvAll]
  | [], _ :: _ => by simp [PyData.eqvAll]
  | _ :: _, [] => by simp [PyData.eqvAll]
  | x :: xs, y :: ys => by
    simp only [List.map_cons, PyData.eqvAll, PyData.eqv, eqv_bools xs ys]
    by_cases h : x = y <;> by_cases k : xs = ys <;> simp [h, k]
end
end Gn

set_option Elab.async false
set_option linter.all false
set_option maxRecDepth 100000
set_option maxHeartbeats 4000000
/-! a law's own body, run by the caller that the row names: what is around it is known there -/
namespace Ge
open PySem PySem.Spec PyProof.Rows L2 Gn
/-- what is known where a law's own body runs -/
structure Bed (K : PySem.W.Frag) (mg : Str → Option Value) (base : Heap) (A : Around) : Prop where
  kin : K.In base
  glob : base.Ns mainGlobals mg
  sys : ∃ o, base.get? sysModules = some o
  gd : A.guards = some []
section
variable {P : Program} {w : World} {K : PySem.W.Frag} {mg : Str → Option Value} {base : Heap}
/-- one call of a def of the text, by its body, at one place -/
theorem call_here {x qual : Str} {st : Stmt} {f : Addr} {fd : FuncData} {N ps : List Str} {k : Nat} {A : Around} {outer : List Env} {s : Shared} {H : Hp} {vs : List V} {us : List Value} {Q : VK}
    (F : Fun K x qual st f fd) (S : FnScope N ps (defScope st)) (hr : Room (k + 1) A) (e0 : Env0 P w K mg base A outer s H) (hb : BindsTo s fd ⟨us, []⟩ (ps.zip us)) (hl : vs.length = ps.length) (r : Vals vs us)
    (body : ∀ cdv : Value, Room k (A.deeper (envOfC qual (defScope st) s.heap.objs.size f cdv)) →
      ∃ t, PSs (cxOf CX0 P w K mg base N qual (defScope st) f cdv A outer s H E0).nox (defBody st) t ∧ t { nx := fun _ H' => Q .non H', rt := Q } (start N vs) H) :
    codeAny (model P w) A (.call (.ref f) ⟨us, []⟩) (CR CX0 outer P w H s Q E0) s := by
  obtain ⟨oc, od, kV, doc, pm, an, cdv, ct, osl, rfl, lk, hcd⟩ := F.ex
  have old : ∀ b o, base.get? b = some o → s.heap.get? b = some o := fun b o e => (e0.bs b o e).1
  have KX : K.In s.heap := e0.mod.kin.keeps old
  obtain ⟨t, ht, hq⟩ := body cdv (hr.deeper _)
  refine codeAny_call_function hr.depth (KX _ _ lk) rfl S.co S.gen rfl (PySem.W.codeRec_of KX hcd) (hb _ _ _ _ ?_)
  refine wpAny_newFunctionEnv_cells S.kind (fun ⟨n, v⟩ hy => ?_) (fun env he s1 z => ?_)
  · cases S.par n (List.of_mem_zip hy).1 with
    | inl q => exact .inl q
    | inr q => exact .inr ⟨q, PySem.W.cellsFrom_some _ _ _ (.inl q)⟩
  · subst he
    refine ⟨(e0.mod.nolimit.keeps old).keeps z.toInCall.keep, codeAny_func ?_⟩
    have I : Inv (cxOf CX0 P w K mg base N qual (defScope st) f cdv A outer s H E0) [] (start N vs) H s1 := inv_start S hr.hd e0 hl r z
    refine wpAny_mono (ht.nox.run [] s1 (start N vs) H _ I hq) (fun fl s' hs => ?_) (fun e s' hs => hs)
    match fl, hs with
    | .ret u, ⟨v, σ', H', J, rv, q⟩ => exact ⟨v, H', J.os, J.bare, J.base, J.hok, rv, q⟩
    | .next, ⟨σ', H', J, q⟩ => exact ⟨.non, H', J.os, J.bare, J.base, J.hok, rfl, q⟩
    | .brk, ⟨_, _, _, q⟩ => exact q.elim
    | .cont, ⟨_, _, _, q⟩ => exact q.elim
end
/-- nothing is tracked, or the script's list alone, as a thing that is only read -/
def Hs (a : Addr) (o : Obj) (xs : List V) : Hp := fun b => if b = a then some (.frz o (.lst xs)) else none
theorem hs_at {a : Addr} {o : Obj} {xs : List V} : Hs a o xs a = some (.frz o (.lst xs)) := if_pos rfl
theorem hs_no {a b : Addr} {o : Obj} {xs : List V} (h : b ≠ a) : Hs a o xs b = none := if_neg h
def H0 : Hp := fun _ => none
section
variable {P : Program} {w : World} {K : PySem.W.Frag} {mg mb : Str → Option Value} {s₁ : Shared} {a : Addr} {vs : List Value} {ns : List Int} {st : Stmt} {N : List Str} {x : Str} {k : Nat} {fa : Addr} {fd : FuncData}
/-- the state that the row's call begins with -/
theorem env_of {H : Hp} (KX : K.In s₁.heap) (hns : s₁.heap.Ns mainGlobals mg) (hb : s₁.heap.Ns builtinsNs mb) (hbb : ∀ x : Str, x ≠ "__name__" → mb x = bootBuiltins x) (hlim : s₁.heap.NoLimit) (hsee : ∃ mm, s₁.heap.Ns sysModules mm) (hg : s₁.gens = #[])
    (ha : s₁.heap.get? a = some { cls := .type "list", data := .seq vs.toArray }) (only : ∀ b, H b ≠ none → b = a) (hka : H a ≠ none → K.lookup a = none) (hok : HOk P w H s₁.heap) :
    Env0 P w K mg (hidT s₁.heap H) callerA [] s₁ H ∧ Bed K mg (hidT s₁.heap H) callerA := by
  have free : ∀ {b : Addr}, b ≠ a → H b = none := fun {b} n => by
    cases e : H b with
    | none => rfl
    | some u => exact absurd (only b (by rw [e]; simp)) n
  have keepNs : ∀ {b : Addr} {m : Str → Option Value}, s₁.heap.Ns b m → (hidT s₁.heap H).Ns b m := fun {b m} h => by
    obtain ⟨o, es, ep, e, dd, r⟩ := h
    refine ⟨o, es, ep, hidT_get e (free fun z => ?_), dd, r⟩
    subst z
    rw [ha] at e
    cases e
    cases dd
  have kIn : K.In (hidT s₁.heap H) := fun b o e => hidT_get (KX b o e) (by
    cases q : H b with
    | none => rfl
    | some u =>
      have z := only b (by rw [q]; simp)
      subst z
      rw [hka (by rw [q]; simp)] at e
      cases e)
  obtain ⟨mc, c1, c2⟩ := hlim
  obtain ⟨mm, o, es, ep, e1, e2, e3⟩ := hsee
  have sysf : H sysModules = none := free fun z => by
    subst z
    rw [ha] at e1
    cases e1
    cases e2
  refine ⟨⟨rfl, ⟨kIn, keepNs hns, ⟨mb, keepNs hb, hbb⟩, ⟨mc, keepNs c1, c2⟩⟩, fun b o e => of_hidT e, Nat.le_of_eq (hidT_size _ _), trivial, fun b z => absurd (show b ∈ ([] : List Addr) from z) (by simp), hok, .of_eq hg⟩, kIn, keepNs hns, ⟨o, hidT_get e1 sysf⟩, rfl⟩
/-- the law's call gives True, if its body does wherever it may run -/
theorem law_true (KX : K.In s₁.heap) (hns : s₁.heap.Ns mainGlobals mg) (hb : s₁.heap.Ns builtinsNs mb) (hbb : ∀ x : Str, x ≠ "__name__" → mb x = bootBuiltins x) (hlim : s₁.heap.NoLimit) (hsee : ∃ mm, s₁.heap.Ns sysModules mm) (hg : s₁.gens = #[])
    (ha : s₁.heap.get? a = some { cls := .type "list", data := .seq vs.toArray }) (hi : IntsAre vs ns) (hl : ns.length ≤ sizeLine) (hr : Room (k + 1) callerA)
    (F : Fun K "law" "law" st fa fd) (S : FnScope N [x] (defScope st)) (hbind : ∀ (s : Shared) (u : Value), BindsTo s fd ⟨[u], []⟩ [(x, u)])
    (body : ∀ (base : Heap) (A : Around) (s : Shared) (H : Hp) (cdv : Value), Bed K mg base A → Room k (A.deeper (envOfC "law" (defScope st) s.heap.objs.size fa cdv)) → SqL K H a (ns.map V.int) →
      ∃ t, PSs (cxOf CX0 P w K mg base N "law" (defScope st) fa cdv A [] s H E0).nox (defBody st) t ∧ t { nx := fun _ _ => False, rt := fun v _ => v = .bl true } (start N [.ref a]) H) :
    codeAny (model P w) callerA (.call (.ref fa) ⟨[.ref a], []⟩) (fun r s' => r = .ok (.ret (.bool true)) ∧ OldK s₁.heap s'.heap ∧ s'.os = s₁.os ∧ AllBare s'.gens) s₁ := by
  have rv := vals_ints hi
  have lenV := hi.length
  have go : ∀ H : Hp, (∀ b, H b = none ∨ ∃ o xs, H b = some (.frz o (.lst xs))) → SqL K H a (ns.map V.int) → Env0 P w K mg (hidT s₁.heap H) callerA [] s₁ H ∧ Bed K mg (hidT s₁.heap H) callerA →
      codeAny (model P w) callerA (.call (.ref fa) ⟨[.ref a], []⟩) (fun r s' => r = .ok (.ret (.bool true)) ∧ OldK s₁.heap s'.heap ∧ s'.os = s₁.os ∧ AllBare s'.gens) s₁ := by
    rintro H hO hS ⟨e0, B⟩
    have hok := e0.hok
    refine codeAny_mono (call_here (Q := fun v _ => v = .bl true) (vs := [.ref a]) (us := [.ref a]) F S hr e0 (hbind s₁ (.ref a)) rfl (.cons rfl .nil) fun cdv hr' => ?_) fun r s' h => ?_
    · obtain ⟨t, h1, h2⟩ := body (hidT s₁.heap H) callerA s₁ H cdv B hr' hS
      refine ⟨t, ⟨fun pins s0 σ H1 D I z => ?_⟩, ?_⟩
      · exact h1.run pins s0 σ H1 D I z
      · exact (show t { nx := fun _ _ => V.non = V.bl true, rt := fun v _ => v = V.bl true } (start N [.ref a]) H from by
          have e : (fun (_ : L2.St) (_ : Hp) => V.non = V.bl true) = fun _ _ => False := by funext _ _; simp
          rw [e]; exact h2)
    · match r, h with
      | .error e, h => exact False.elim h
      | .ok .next, h => exact False.elim h
      | .ok .brk, h => exact False.elim h
      | .ok .cont, h => exact False.elim h
      | .ok (.ret u), ⟨v, H', os, bare, un, hok', r', q⟩ =>
        subst q
        obtain rfl : u = Value.bool true := r'
        refine ⟨rfl, OldK.of_keep fun b o e => ?_, os, bare⟩
        rcases hO b with z | ⟨ob, xs, z⟩
        · exact un.keep b o e z (by intro m; exact absurd (show b ∈ ([] : List Addr) from m) (by simp)) (by simp)
        · obtain ⟨e1, _⟩ := hok b _ z
          obtain ⟨e2, _⟩ := hok' b _ (un.frzs b ob _ z)
          rw [e] at e1
          cases e1
          exact e2
  cases hk : K.lookup a with
  | some o =>
    have e := KX a o hk
    rw [ha] at e
    cases e
    refine go H0 (fun _ => .inl rfl) (.inr ⟨_, vs.toArray, _, hk, rfl, rfl, rfl, ?_, ?_⟩) (env_of KX hns hb hbb hlim hsee hg ha (fun b z => absurd rfl z) (fun z => absurd rfl z) fun b u z => nomatch (show (none : Option HO) = some u from z))
    · rw [List.size_toArray, lenV]
      exact hl
    · simpa using rv
  | none =>
    refine go (Hs a { cls := .type "list", data := .seq vs.toArray } (ns.map V.int)) (fun b => ?_) (.inl (.inr ⟨_, hs_at⟩)) (env_of KX hns hb hbb hlim hsee hg ha (fun b z => ?_) (fun _ => hk) fun b u z => ?_)
    · by_cases n : b = a
      · subst n
        exact .inr ⟨_, _, hs_at⟩
      · exact .inl (hs_no n)
    · by_cases n : b = a
      · exact n
      · exact absurd (hs_no n) z
    · by_cases n : b = a
      · subst n
        cases hs_at.symm.trans z
        exact ⟨ha, by rw [List.length_map]; exact hl, vs, _, rv, ha⟩
      · cases (hs_no n).symm.trans z
end
open PySem.W in
/-- the goal that the head leaves -/
theorem walk_law {l : PySem.W.OpenLaw} {n k : Nat} {q : Program} {loose : List Str} {XP : (Str → Option Value) → Heap → Prop} {YP : World → Heap → Prop} {d : DefRec} {K : Params → PySem.W.Frag} {x : Str} {st : Stmt} {N : List Str}
    (hn : l.most = some n) (hn2 : n ≤ sizeLine) (hdf : d.params.defaults = []) (hr : Room (k + 1) callerA) (hi : importsNone q = true) (S : FnScope N [x] (defScope st))
    (hY : ∀ (w : World) (h : Heap), YP w h → (K w.params).In h)
    (F : ∀ (w : World) (mg : Str → Option Value) (fa : Addr) (h : Heap), (K w.params).In h → h.Ns mainGlobals mg → mg d.name = some (.ref fa) →
      ∃ fd : FuncData, Fun (K w.params) "law" "law" st fa fd ∧ (∀ (s : Shared) (u : Value), BindsTo s fd ⟨[u], []⟩ [(x, u)]) ∧
        ∀ (base : Heap) (A : Around) (s : Shared) (H : Hp) (cdv : Value) (a : Addr) (ns : List Int), ns.length ≤ n → Bed (K w.params) mg base A → Room k (A.deeper (envOfC "law" (defScope st) s.heap.objs.size fa cdv)) → SqL (K w.params) H a (ns.map V.int) →
          ∃ t, PSs (cxOf CX0 l.prog w (K w.params) mg base N "law" (defScope st) fa cdv A [] s H E0).nox (defBody st) t ∧ t { nx := fun _ _ => False, rt := fun v _ => v = .bl true } (start N [.ref a]) H) :
    PySem.W.WalkO q loose XP YP l.row.toRowW d [] (fun f vs => PySem.call f vs) := by
  refine Att.attach_call hn hdf fun w s₀ s₁ mg mb fa o pm cd doc a vs ns G Y ho hd hcd hmg hobj hints hlen hg => ?_
  have KX := hY w _ Y
  obtain ⟨fd, F1, F2, F3⟩ := F w mg fa _ KX G.T.g hmg
  obtain ⟨mm, z, _⟩ := (G.T.seer hi).mods
  exact law_true KX G.T.g G.T.b G.T.builtins G.T.nolimit ⟨mm, z⟩ hg hobj hints (Nat.le_trans hlen hn2) hr F1 S F2 fun base A s H cdv B hr' hS => F3 base A s H cdv a ns hlen B hr' hS
end Ge

set_option Elab.async false
set_option linter.all false
set_option maxRecDepth 100000
set_option maxHeartbeats 4000000
/-! data that stand in the heap, dicts too; what repr says of them -/
namespace Gr
open PySem PySem.Spec PyProof.Rows L2 Gn
def keyD : Key → PyData
  | .inl i => .int i
  | .inr x => .str x
mutual
inductive Dr (H : Hp) : V → PyData → Prop
  | non : Dr H .non .none
  | bl (b : Bool) : Dr H (.bl b) (.bool b)
  | int (i : Int) : Dr H (.int i) (.int i)
  | str (x : Str) : Dr H (.str x) (.str x)
  | lst {a : Addr} {xs : List V} {ds : List PyData} : H a = some (.lst xs) → DrAll H xs ds → Dr H (.ref a) (.list ds)
  | tup {a : Addr} {xs : List V} {ds : List PyData} : H a = some (.tup xs) → DrAll H xs ds → Dr H (.ref a) (.tuple ds)
  | dct {a : Addr} {kvs : List (Key × V)} {ds : List (PyData × PyData)} : H a = some (.dK kvs) → DrKv H kvs ds → Dr H (.ref a) (.dict ds)
inductive DrAll (H : Hp) : List V → List PyData → Prop
  | nil : DrAll H [] []
  | cons {v : V} {vs : List V} {d : PyData} {ds : List PyData} : Dr H v d → DrAll H vs ds → DrAll H (v :: vs) (d :: ds)
inductive DrKv (H : Hp) : List (Key × V) → List (PyData × PyData) → Prop
  | nil : DrKv H [] []
  | cons {k : Key} {v : V} {kvs : List (Key × V)} {d : PyData} {ds : List (PyData × PyData)} : Dr H v d → DrKv H kvs ds → DrKv H ((k, v) :: kvs) ((keyD k, d) :: ds)
end
section
variable {H H' : Hp}
mutual
theorem Dr.mono (s : ∀ a o, H a = some o → H' a = some o) : ∀ (d : PyData) (v : V), Dr H v d → Dr H' v d
  | .none, _, h => by cases h; exact .non
  | .bool b, _, h => by cases h; exact .bl b
  | .int i, _, h => by cases h; exact .int i
  | .str x, _, h => by cases h; exact .str x
  | .list ds, _, h => by
    cases h with
    | lst e r => exact .lst (s _ _ e) (DrAll.mono s ds _ r)
  | .tuple ds, _, h => by
    cases h with
    | tup e r => exact .tup (s _ _ e) (DrAll.mono s ds _ r)
  | .dict ds, _, h => by
    cases h with
    | dct e r => exact .dct (s _ _ e) (DrKv.mono s ds _ r)
theorem DrAll.mono (s : ∀ a o, H a = some o → H' a = some o) : ∀ (ds : List PyData) (vs : List V), DrAll H vs ds → DrAll H' vs ds
  | [], _, h => by cases h; exact .nil
  | d :: ds, _, h => by
    cases h with
    | cons e r => exact .cons (Dr.mono s d _ e) (DrAll.mono s ds _ r)
theorem DrKv.mono (s : ∀ a o, H a = some o → H' a = some o) : ∀ (ds : List (PyData × PyData)) (vs : List (Key × V)), DrKv H vs ds → DrKv H' vs ds
  | [], _, h => by cases h; exact .nil
  | (k, d) :: ds, _, h => by
    cases h with
    | cons e r => exact .cons (Dr.mono s d _ e) (DrKv.mono s ds _ r)
end
theorem DrAll.snoc : ∀ {vs : List V} {ds : List PyData} {v : V} {d : PyData}, DrAll H vs ds → Dr H v d → DrAll H (vs ++ [v]) (ds ++ [d])
  | [], _, _, _, .nil, h => .cons h .nil
  | _ :: _, _, _, _, .cons e r, h => .cons e (DrAll.snoc r h)
theorem DrAll.length : ∀ {vs : List V} {ds : List PyData}, DrAll H vs ds → vs.length = ds.length
  | _, _, .nil => rfl
  | _, _, .cons _ r => by rw [List.length_cons, List.length_cons, DrAll.length r]
end
section
variable {X : Cx} {pins : List (Addr × Obj)} {σ : L2.St} {H : Hp} {s : Shared}
theorem rel_key {k : Key} {u : Value} (h : keyIs k u = true) {s : Heap} : Reads s u (keyD k) [] := by
  rcases keyIs_shape h with ⟨i, t, rfl, rfl⟩ | ⟨x, t, rfl, rfl⟩
  · exact .int i t
  · exact .str x t
theorem keys_read {h : Heap} {P : Program} {w : World} : ∀ (ds : List (PyData × PyData)) (kvs : List (Key × V)) (vs : List (Key × Value)) (es : List DictEntry), DrKv H kvs ds → KV kvs vs → Pairs (mixKind P w) es vs →
    ∃ as, ReadsAll h (es.map (·.key)) (ds.map (·.1)) as ∧ sysModules ∉ as
  | [], _, _, _, e, r, p => by
    cases e
    cases r
    cases p
    exact ⟨_, ReadsAll.nil, by simp⟩
  | (k, d) :: ds, _, _, _, e, r, p => by
    cases e with
    | cons h1 h2 =>
      cases r with
      | cons r1 r2 =>
        cases p with
        | cons p1 p2 p3 =>
          obtain ⟨bs, q2, n2⟩ := keys_read (h := h) ds _ _ _ h2 r2 p3
          obtain ⟨r3, _⟩ := r1
          rw [← r3] at p1
          exact ⟨_, ReadsAll.cons (rel_key p1) q2, fun m => n2 m⟩
theorem not_sys (I : Inv X pins σ H s) (hs : ∃ o, X.base.get? sysModules = some o) {a : Addr} {o : HO} (h : H a = some o) : sysModules ≠ a := fun e => by
  obtain ⟨ob, hob⟩ := hs
  have n := (I.bs _ _ hob).2
  rw [e, h] at n
  cases n
mutual
theorem Dr.reads (I : Inv X pins σ H s) (hs : ∃ o, X.base.get? sysModules = some o) : ∀ (d : PyData) (v : V) (u : Value), Dr H v d → RelV v u → ∃ as, Reads s.heap u d as ∧ sysModules ∉ as
  | .none, _, _, h, r => by
    cases h
    cases r
    exact ⟨_, Reads.none, by simp⟩
  | .bool b, _, _, h, r => by
    cases h
    cases r
    exact ⟨_, Reads.bool b, by simp⟩
  | .int i, _, _, h, r => by
    cases h
    obtain ⟨t, rfl⟩ := r
    exact ⟨_, Reads.int i t, by simp⟩
  | .str x, _, _, h, r => by
    cases h
    obtain ⟨t, rfl⟩ := r
    exact ⟨_, Reads.str x t, by simp⟩
  | .list ds, _, _, h, r => by
    cases h with
    | lst e ha =>
      cases r
      obtain ⟨its, rv, ⟨o, n, ho, hc, _, hd⟩, _⟩ := I.list (SqL.of e)
      obtain ⟨as, hr, hn⟩ := DrAll.reads I hs ds _ its ha rv
      exact ⟨_, Reads.list ho hc hd hr, fun m => by
        rcases List.mem_cons.mp m with z | z
        · exact not_sys I hs e z
        · exact hn z⟩
  | .tuple ds, _, _, h, r => by
    cases h with
    | tup e ha =>
      cases r
      obtain ⟨its, rv, ⟨o, ho, hc, n, hd⟩, _⟩ := I.tuple (SqT.of e)
      obtain ⟨as, hr, hn⟩ := DrAll.reads I hs ds _ its ha rv
      exact ⟨_, Reads.tuple ho hc hd hr, hn⟩
  | .dict ds, _, _, h, r => by
    cases h with
    | @dct a kvs _ e ha =>
      cases r
      obtain ⟨_, _, vs, kv, o, es, ep, ho, hx, hdt, _, ps, _⟩ := (show ObjOk X.prog X.w H s.heap a (.dK kvs) from I.hok a _ e)
      obtain ⟨as, hr, hn⟩ := DrKv.reads I hs ds kvs vs es.toList ha kv ps
      obtain ⟨bs, q1, q2⟩ := keys_read (h := s.heap) ds kvs vs es.toList ha kv ps
      exact ⟨_, Reads.dict ho hx.1 hdt q1 hr, fun m => by
        rcases List.mem_append.mp m with z | z
        · rcases List.mem_cons.mp z with z | z
          · exact not_sys I hs e z
          · exact q2 z
        · exact hn z⟩
theorem DrAll.reads (I : Inv X pins σ H s) (hs : ∃ o, X.base.get? sysModules = some o) : ∀ (ds : List PyData) (vs : List V) (us : List Value), DrAll H vs ds → Vals vs us → ∃ as, ReadsAll s.heap us ds as ∧ sysModules ∉ as
  | [], _, _, h, r => by
    cases h
    cases r
    exact ⟨_, ReadsAll.nil, by simp⟩
  | d :: ds, _, _, h, r => by
    cases h with
    | cons h1 h2 =>
      cases r with
      | cons r1 r2 =>
        obtain ⟨as, q1, n1⟩ := Dr.reads I hs d _ _ h1 r1
        obtain ⟨bs, q2, n2⟩ := DrAll.reads I hs ds _ _ h2 r2
        exact ⟨_, ReadsAll.cons q1 q2, fun m => (List.mem_append.mp m).elim n1 n2⟩
theorem DrKv.reads (I : Inv X pins σ H s) (hs : ∃ o, X.base.get? sysModules = some o) : ∀ (ds : List (PyData × PyData)) (kvs : List (Key × V)) (vs : List (Key × Value)) (es : List DictEntry), DrKv H kvs ds → KV kvs vs → Pairs (mixKind X.prog X.w) es vs →
    ∃ as, ReadsAll s.heap (es.map (·.val)) (ds.map (·.2)) as ∧ sysModules ∉ as
  | [], _, _, _, h, r, p => by
    cases h
    cases r
    cases p
    exact ⟨_, ReadsAll.nil, by simp⟩
  | (k, d) :: ds, _, _, _, h, r, p => by
    cases h with
    | cons h1 h2 =>
      cases r with
      | cons r1 r2 =>
        cases p with
        | cons p1 p2 p3 =>
          obtain ⟨as, q1, n1⟩ := Dr.reads I hs d _ _ h1 r1.2
          obtain ⟨bs, q2, n2⟩ := DrKv.reads I hs ds _ _ _ h2 r2 p3
          rw [← p2] at q1
          exact ⟨_, ReadsAll.cons q1 q2, fun m => (List.mem_append.mp m).elim n1 n2⟩
end
end
/-- repr(v), v any data -/
def rRepr : List V → Hp → VK → Prop := fun xs H Q => ∃ v d, xs = [v] ∧ Dr H v d ∧ d.showable = true ∧ d.depth ≤ 60 ∧ d.shown.length ≤ sizeLine ∧ Q (.str d.shown) H
theorem call_repr {X : Cx} (hg : X.A.guards = some []) (hu : X.A.units + 64 < cLine) (hs : ∃ o, X.base.get? sysModules = some o) : CallR X (.builtin "repr") rRepr := by
  intro pins s σ H xs us Q I r h
  obtain ⟨v, d, rfl, hd, sh, dp, sz, q⟩ := h
  obtain ⟨u, rfl, ru⟩ := vals1 r
  have fin : ∀ h' tk uk, (∀ b o, s.heap.get? b = some o → h'.get? b = some o) → EP X pins σ Q (.str d.shown uk) { s with heap := h', toks := tk } := fun h' tk uk k => ⟨.str d.shown, H, I.kept k, ⟨uk, rfl⟩, q⟩
  obtain ⟨as, hr, hn⟩ := Dr.reads I hs d v u hd ru
  cases hr with
  | none => exact PySem.P.repr_of_none (by have e := fin s.heap (s.toks + 1) s.toks (fun _ _ e => e); simpa only [PyData.shown] using e)
  | bool b => exact PySem.P.repr_of_bool (by have e := fin s.heap (s.toks + 1) s.toks (fun _ _ e => e); simpa only [PyData.shown] using e)
  | int i t => exact PySem.P.repr_of_int (by simpa [PyData.showable] using sh) (by have e := fin s.heap (s.toks + 1) s.toks (fun _ _ e => e); simpa only [PyData.shown] using e)
  | str x t => exact PySem.P.repr_of_str (by have e := fin s.heap (s.toks + 1) s.toks (fun _ _ e => e); simpa only [PyData.shown] using e) (by simpa only [PyData.shown] using sz)
  | list h1 h2 h3 h4 => exact repr_of_reads' (Reads.list h1 h2 h3 h4) sh (fun _ => hn) hg (by omega) (fun _ _ e => e) (fun h' u tk k => fin h' tk u k) sz
  | tuple h1 h2 h3 h4 => exact repr_of_reads' (Reads.tuple h1 h2 h3 h4) sh (fun _ => hn) hg (by omega) (fun _ _ e => e) (fun h' u tk k => fin h' tk u k) sz
  | dict h1 h2 h3 h4 h5 => exact repr_of_reads' (Reads.dict h1 h2 h3 h4 h5) sh (fun _ => hn) hg (by omega) (fun _ _ e => e) (fun h' u tk k => fin h' tk u k) sz
end Gr

set_option Elab.async false
set_option linter.all false
set_option maxRecDepth 100000
set_option maxHeartbeats 4000000
/-! more rules and words -/
namespace Gk
open PySem PySem.Spec PyProof.Rows L2 Gn Gr
section
variable {X : Cx} {CX : CXT} {k : Nat} {f : Addr} {fd : FuncData} {ps ks : List Str} {sp : Sp} {E : XK} {x : Str} {p pos : Pos} {kws : List Keyword} {tk : TA} {g : List Value → List Value → List Value} {gV : List V → List V → List V}
/-- f(k = v, ..) -/
theorem pe_kw (F : FnOk X.prog X.w X.K X.mg X.base CX k f fd ps sp) (hr : Room k X.A) (hg : Gl X x) (hm : X.mg x = some (.ref f)) (hk : PySem.W.keepIn X.K (.ref f) = true) (hb : KBinds X.K fd ps ks g gV) (hx : Passes CX X E) (hkw : PK X kws tk)
    (hall : (backToKw pos (keywordEach kws X.env)).all (·.1.isSome) = true := by rfl) (hks : (backToKw pos (keywordEach kws X.env)).filterMap (·.1) = ks := by rfl) (hdb : (x == ("__debug__" : Str)) = false := by decide)
    (hpl : ((backTo pos (starEach [] X.env)).any (·.1) || (backToKw pos (keywordEach kws X.env)).any (·.1.isNone)) = false := by rfl) :
    PE X (.Call (.Name x p) [] kws pos) (tCallK sp gV E tNil tk) := by
  refine ⟨fun pins s σ H Q I h => ?_⟩
  refine wpAny_Call_Name_kw (ld_glob I hg hm ?_ hdb)
  refine PySem.W.callWith_KW0 (h₀ := X.base) I.ok.mod.kin hk hall ?_ hpl
  refine thn (hkw.run pos pins s σ H _ I h) fun ws s2 ⟨zs, H2, I2, rz, q2⟩ => ⟨I2.kIn, ?_⟩
  rw [hks]
  exact run_fnk (us := []) (vs := []) F hr hb hx I2 .nil rz q2
/-- one parameter, given by its name or its place -/
theorem kb_one {K : PySem.W.Frag} {y : Str} (b : ∀ (s : Shared) (w : Value), BindsTo s fd ⟨[], [(y, w)]⟩ [(y, w)]) (b' : ∀ (s : Shared) (w : Value), BindsTo s fd ⟨[w], []⟩ [(y, w)]) : KBinds K fd [y] [y] (fun us ws => us ++ ws) (fun vs zs => vs ++ zs) := by
  refine ⟨fun s us ws _ hl => ?_, fun r q => Vals.append r q⟩
  match us, ws, hl with
  | [], [w], _ => exact b s w
  | [w], [], _ => exact b' s w
  | [], [], hl => exact absurd hl (by simp)
  | [], _ :: _ :: _, hl => exact absurd hl (by simp)
  | [_], _ :: _, hl => exact absurd hl (by simp)
  | _ :: _ :: _, _, hl => exact absurd hl (by simp)
end
/-- no test in a comprehension -/
theorem yes_of {σ : L2.St} {H : Hp} {A B : Hp → Prop} (h : A H) : tYes σ H (fun b H3 => if b = true then A H3 else B H3) := by
  show if true = true then A H else B H
  rw [if_pos rfl]
  exact h
/-! ## texts of signs below 128 -/
def Asc (n : Nat) (x : Str) : Prop := x.length ≤ n ∧ ∀ c ∈ x.cps.toList, c < 128
theorem len_cps (x : Str) : x.cps.toList.length = x.length := by simp [Str.length]
theorem cps_app (x y : Str) : (x ++ y).cps.toList = x.cps.toList ++ y.cps.toList := by
  show (x.cps ++ y.cps).toList = _
  simp
theorem Asc.app {n m : Nat} {x y : Str} (h : Asc n x) (k : Asc m y) : Asc (n + m) (x ++ y) := by
  refine ⟨by rw [strLen_append]; have := h.1; have := k.1; omega, fun c hc => ?_⟩
  rw [cps_app] at hc
  exact (List.mem_append.mp hc).elim (h.2 c) (k.2 c)
theorem Asc.mono {n m : Nat} {x : Str} (h : Asc n x) (k : n ≤ m) : Asc m x := ⟨Nat.le_trans h.1 k, h.2⟩
theorem Asc.one {c : Nat} (h : c < 128) : Asc 1 (⟨#[c]⟩ : Str) := ⟨Nat.le_refl _, fun b hb => by
  have : b = c := by simpa using hb
  omega⟩
theorem Asc.cut {n : Nat} {x : Str} (h : Asc n x) (lo hi : Option Int) : Asc n (cutS x lo hi) := by
  have e : (cutS x lo hi).cps.toList = (x.cps.toList.drop (HT.sIx x.length 0 lo)).take (HT.sIx x.length x.length hi - HT.sIx x.length 0 lo) := by
    unfold cutS
    simp
  refine ⟨?_, fun c hc => ?_⟩
  · rw [← len_cps, e, List.length_take, List.length_drop, len_cps]
    have := h.1
    omega
  · rw [e] at hc
    exact h.2 c (List.mem_of_mem_drop (List.mem_of_mem_take hc))
theorem Asc.ok {n : Nat} {x : Str} (h : Asc n x) : PyData.strOk x = true := by
  unfold PyData.strOk
  rw [Array.all_eq_true']
  intro c hc
  have := h.2 c (by simpa using hc)
  simp only [decide_eq_true_eq]
  omega
theorem Asc.shown {n : Nat} {x : Str} (h : Asc n x) : (reprText x).length ≤ 10 * n + 2 := by
  have := PySem.StrLaws.reprText_len x fun c hc => Nat.lt_of_lt_of_le (h.2 c hc) (by decide)
  have := h.1
  omega
/-! ## what is new since -/
def Nw (H H' : Hp) : Hp := fun a => match H a with | none => H' a | some _ => none
section
variable {H H' H2 : Hp} {a : Addr} {o : HO}
theorem nw_of (h : Nw H H' a = some o) : H a = none ∧ H' a = some o := by
  unfold Nw at h
  cases e : H a with
  | none => rw [e] at h; exact ⟨rfl, h⟩
  | some u => rw [e] at h; cases h
theorem nw_to (h : H a = none) (k : H' a = some o) : Nw H H' a = some o := by
  unfold Nw
  rw [h]
  exact k
theorem nw_sub : ∀ a o, Nw H H' a = some o → H' a = some o := fun a o h => (nw_of h).2
end
/-! ## numbers as texts -/
theorem shown_int {i : Int} (h : i.natAbs < 10 ^ 20) : (PyData.int i).showable = true ∧ (PyData.int i).shown.length ≤ 21 := by
  constructor
  · simp only [PyData.showable, decide_eq_true_eq]
    by_cases z : i.natAbs = 0
    · rw [z]; decide
    · refine (Nat.log2_lt z).mpr (Nat.lt_trans h ?_)
      decide +kernel
  · simp only [PyData.shown]
    show (Str.ofString (toString i)).length ≤ 21
    rw [PySem.ofString_length]
    exact int_text_length_le10 (by decide) h
/-! ## how much a value's text may hold -/
def Ok (n : Nat) (x : PyData) : Prop := x.showable = true ∧ x.depth ≤ n ∧ x.shown.length ≤ 200 * 4 ^ n
theorem pow_pos4 (n : Nat) : 1 ≤ 4 ^ n := Nat.pow_pos (by decide)
theorem pow_le4 {n m : Nat} (h : n ≤ m) : 4 ^ n ≤ 4 ^ m := Nat.pow_le_pow_right (by decide) h
theorem pow_s4 (n : Nat) : 4 ^ (n + 1) = 4 * 4 ^ n := by rw [Nat.pow_succ, Nat.mul_comm]
theorem Ok.mono {n m : Nat} {x : PyData} (h : Ok n x) (k : n ≤ m) : Ok m x :=
  ⟨h.1, Nat.le_trans h.2.1 k, Nat.le_trans h.2.2 (Nat.mul_le_mul_left _ (pow_le4 k))⟩
theorem Ok.flat {n : Nat} {x : PyData} (h1 : x.showable = true) (h2 : x.depth = 0) (h3 : x.shown.length ≤ 200) : Ok n x := by
  have := pow_pos4 n
  exact ⟨h1, by omega, by omega⟩
theorem ok_str {n : Nat} {x : Str} (h : Asc 19 x) : Ok n (.str x) := by
  have := h.shown
  refine Ok.flat (by simp only [PyData.showable]) (by simp only [PyData.depth]) ?_
  simp only [PyData.shown]
  omega
theorem ok_int {n : Nat} {i : Int} (h : i.natAbs < 10 ^ 20) : Ok n (.int i) := by
  obtain ⟨a, b⟩ := shown_int h
  exact Ok.flat a (by simp only [PyData.depth]) (by omega)
theorem ok_all {n : Nat} : ∀ {ds : List PyData}, (∀ x ∈ ds, Ok n x) → PyData.showableAll ds = true ∧ PyData.depthAll ds ≤ n ∧ (PyData.shownAll ds).length = ds.length ∧ ((PyData.shownAll ds).map (·.length)).sum ≤ ds.length * (200 * 4 ^ n)
  | [], _ => by
    refine ⟨by simp only [PyData.showableAll], by simp only [PyData.depthAll]; omega, by simp only [PyData.shownAll]; rfl, by simp only [PyData.shownAll]; simp⟩
  | x :: r, h => by
    obtain ⟨a1, a2, a3⟩ := h x (List.mem_cons_self ..)
    obtain ⟨b1, b2, b3, b4⟩ := ok_all (ds := r) fun y hy => h y (List.mem_cons_of_mem _ hy)
    refine ⟨?_, ?_, ?_, ?_⟩
    · simp only [PyData.showableAll, a1, b1, Bool.and_self]
    · simp only [PyData.depthAll]
      omega
    · simp only [PyData.shownAll, List.length_cons, b3]
    · simp only [PyData.shownAll, List.map_cons, List.sum_cons, List.length_cons]
      rw [Nat.succ_mul]
      omega
theorem two_mul {k n : Nat} (h : k ≤ 2) : k * (200 * 4 ^ n) ≤ 2 * (200 * 4 ^ n) := Nat.mul_le_mul_right _ h
theorem ok_list {n : Nat} {ds : List PyData} (h : ∀ x ∈ ds, Ok n x) (h2 : ds.length ≤ 2) : Ok (n + 1) (.list ds) := by
  obtain ⟨b1, b2, b3, b4⟩ := ok_all h
  have := listText_len_le (PyData.shownAll ds)
  have := two_mul (n := n) h2
  have := pow_pos4 n
  refine ⟨by simp only [PyData.showable, b1], by simp only [PyData.depth]; omega, ?_⟩
  simp only [PyData.shown]
  rw [pow_s4]
  omega
theorem ok_tuple {n : Nat} {ds : List PyData} (h : ∀ x ∈ ds, Ok n x) (h2 : ds.length ≤ 2) : Ok (n + 1) (.tuple ds) := by
  obtain ⟨b1, b2, b3, b4⟩ := ok_all h
  have := tupleText_len_le (PyData.shownAll ds)
  have := two_mul (n := n) h2
  have := pow_pos4 n
  refine ⟨by simp only [PyData.showable, b1], by simp only [PyData.depth]; omega, ?_⟩
  simp only [PyData.shown]
  rw [pow_s4]
  omega
theorem ok_kvs {n : Nat} : ∀ {ds : List (PyData × PyData)}, (∀ p ∈ ds, (∃ x, p.1 = .str x ∧ Asc 19 x) ∧ Ok n p.2) → PyData.showableKv ds = true ∧ PyData.depthKv ds ≤ n ∧ (PyData.shownKv ds).length = ds.length ∧ ((PyData.shownKv ds).map (·.length)).sum ≤ ds.length * (194 + 200 * 4 ^ n)
  | [], _ => by
    refine ⟨by simp only [PyData.showableKv], by simp only [PyData.depthKv]; omega, by simp only [PyData.shownKv]; rfl, by simp only [PyData.shownKv]; simp⟩
  | (kx, x) :: r, h => by
    obtain ⟨⟨y, e, hy⟩, a1, a2, a3⟩ := h (kx, x) (List.mem_cons_self ..)
    obtain ⟨b1, b2, b3, b4⟩ := ok_kvs (ds := r) fun y hy => h y (List.mem_cons_of_mem _ hy)
    have e : kx = .str y := e
    subst e
    have a1 : x.showable = true := a1
    have a2 : x.depth ≤ n := a2
    have a3 : x.shown.length ≤ 200 * 4 ^ n := a3
    have hy' := hy.shown
    refine ⟨?_, ?_, ?_, ?_⟩
    · simp only [PyData.showableKv, PyData.showable, a1, b1, Bool.and_self]
    · simp only [PyData.depthKv, PyData.depth]
      omega
    · simp only [PyData.shownKv, List.length_cons, b3]
    · simp only [PyData.shownKv, List.map_cons, List.sum_cons, List.length_cons, PyData.shown]
      rw [strLen_append, strLen_append, Nat.succ_mul]
      have e2 : ((": " : String) : Str).length = 2 := rfl
      omega
theorem ok_dict {n : Nat} {ds : List (PyData × PyData)} (h : ∀ p ∈ ds, (∃ x, p.1 = .str x ∧ Asc 19 x) ∧ Ok n p.2) (h2 : ds.length ≤ 2) : Ok (n + 1) (.dict ds) := by
  obtain ⟨b1, b2, b3, b4⟩ := ok_kvs h
  have := dictText_len_le (PyData.shownKv ds)
  have : ds.length * (194 + 200 * 4 ^ n) ≤ 2 * (194 + 200 * 4 ^ n) := Nat.mul_le_mul_right _ h2
  have := pow_pos4 n
  refine ⟨by simp only [PyData.showable, b1], by simp only [PyData.depth]; omega, ?_⟩
  simp only [PyData.shown]
  rw [pow_s4]
  omega
/-! ## keys '0', '1', .. -/
def tagS (n : Nat) : Str := ((toString (n : Int) : String) : Str)
def tags : Nat → List V → List (Key × V)
  | _, [] => []
  | n, v :: r => ((Sum.inr (tagS n) : Key), v) :: tags (n + 1) r
def tagD : Nat → List PyData → List (PyData × PyData)
  | _, [] => []
  | n, d :: r => (.str (tagS n), d) :: tagD (n + 1) r
theorem tags_snoc : ∀ (vs : List V) (n : Nat) (v : V), tags n (vs ++ [v]) = tags n vs ++ [((Sum.inr (tagS (n + vs.length)) : Key), v)]
  | [], n, v => rfl
  | w :: r, n, v => by
    have e : n + 1 + r.length = n + (w :: r).length := by rw [List.length_cons]; omega
    show (_, w) :: tags (n + 1) (r ++ [v]) = (_, w) :: (tags (n + 1) r ++ _)
    rw [tags_snoc r (n + 1) v, e]
theorem tags_dr {H : Hp} : ∀ {vs : List V} {ds : List PyData} (n : Nat), DrAll H vs ds → DrKv H (tags n vs) (tagD n ds)
  | _, _, _, .nil => .nil
  | _, _, n, .cons e r => .cons e (tags_dr (n + 1) r)
theorem tagD_len : ∀ (ds : List PyData) (n : Nat), (tagD n ds).length = ds.length
  | [], _ => rfl
  | _ :: r, n => by show (tagD (n + 1) r).length + 1 = r.length + 1; rw [tagD_len r]
theorem tag_asc {n : Nat} (h : n < 10) : Asc 19 (tagS n) := by
  have : n = 0 ∨ n = 1 ∨ n = 2 ∨ n = 3 ∨ n = 4 ∨ n = 5 ∨ n = 6 ∨ n = 7 ∨ n = 8 ∨ n = 9 := by omega
  rcases this with rfl | rfl | rfl | rfl | rfl | rfl | rfl | rfl | rfl | rfl <;> exact ⟨by decide +kernel, by decide +kernel⟩
theorem tagD_ok {m : Nat} : ∀ {ds : List PyData} (n : Nat), n + ds.length ≤ 9 → (∀ x ∈ ds, Ok m x) → ∀ p ∈ tagD n ds, (∃ x, p.1 = .str x ∧ Asc 19 x) ∧ Ok m p.2
  | [], _, _, _, p, hp => by cases hp
  | d :: r, n, hn, h, p, hp => by
    rw [List.length_cons] at hn
    rcases List.mem_cons.mp hp with e | hp
    · subst e
      exact ⟨⟨_, rfl, tag_asc (by omega)⟩, h d (List.mem_cons_self ..)⟩
    · exact tagD_ok (n + 1) (by omega) (fun x hx => h x (List.mem_cons_of_mem _ hx)) p hp
theorem tags_merge {vs : List V} (h : vs.length ≤ 2) : mergeK [] (tags 0 vs) = tags 0 vs := by
  match vs, h with
  | [], _ => rfl
  | [a], _ => rfl
  | [a, b], _ =>
    have n01 : ¬ (Sum.inr (tagS 0) : Key) = Sum.inr (tagS 1) := by decide +kernel
    show putK (putK [] (Sum.inr (tagS 0) : Key) a) (Sum.inr (tagS 1) : Key) b = [((Sum.inr (tagS 0) : Key), a), ((Sum.inr (tagS 1) : Key), b)]
    have e1 : putK [] (Sum.inr (tagS 0) : Key) a = [((Sum.inr (tagS 0) : Key), a)] := rfl
    rw [e1]
    exact putK_new b ((valV_neg n01).trans valV_nil)
/-- .. and a text is made of signs below 128 -/
def OkT (n : Nat) (x : PyData) : Prop := Ok n x ∧ ∀ s, x = .str s → Asc 19 s
theorem okT_of {n : Nat} {x : PyData} (h : Ok n x) (k : ∀ s, x ≠ .str s) : OkT n x := ⟨h, fun s e => absurd e (k s)⟩
theorem okT_str {n : Nat} {x : Str} (h : Asc 19 x) : OkT n (.str x) := ⟨ok_str h, fun s e => by cases e; exact h⟩
/-! ## the type of a value -/
def Ext (H H' : Hp) : Prop := ∀ a o, H a = some o → H' a = some o
theorem Ext.refl {H : Hp} : Ext H H := fun _ _ e => e
theorem Ext.trans {H H' H2 : Hp} (h : Ext H H') (k : Ext H' H2) : Ext H H2 := fun a o e => k a o (h a o e)
theorem Ext.new {H : Hp} {p : Addr} {o : HO} (h : H p = none) : Ext H (upd H p o) := fun a u e => new_same h a u e
inductive TyT (H : Hp) : V → String → Prop
  | non : TyT H .non "NoneType"
  | bl (b : Bool) : TyT H (.bl b) "bool"
  | int (i : Int) : TyT H (.int i) "int"
  | str (x : Str) : TyT H (.str x) "str"
  | lst {a : Addr} {xs : List V} : H a = some (.lst xs) → TyT H (.ref a) "list"
  | tup {a : Addr} {xs : List V} : H a = some (.tup xs) → TyT H (.ref a) "tuple"
  | dct {a : Addr} {kvs : List (Key × V)} : H a = some (.dK kvs) → TyT H (.ref a) "dict"
theorem TyT.x {K : PySem.W.Frag} {H : Hp} {v : V} {T : String} (h : TyT H v T) : TyX K H v (.type T) := by
  cases h with
  | non => exact .base .non
  | bl b => exact .base (.bl b)
  | int i => exact .base (.int i)
  | str x => exact .base (.str x)
  | lst e => exact .base (.lst e)
  | tup e => exact .base (.tup e)
  | dct e => exact .base (.dK e)
theorem TyT.ext {H H' : Hp} {v : V} {T : String} (h : TyT H v T) (k : Ext H H') : TyT H' v T := by
  cases h with
  | non => exact .non
  | bl b => exact .bl b
  | int i => exact .int i
  | str x => exact .str x
  | lst e => exact .lst (k _ _ e)
  | tup e => exact .tup (k _ _ e)
  | dct e => exact .dct (k _ _ e)
theorem dr_ty {H : Hp} {v : V} {x : PyData} (h : Dr H v x) : (∃ s, v = .str s ∧ x = .str s) ∨ (∃ i, v = .int i) ∨ (TyT H v "NoneType" ∨ TyT H v "bool" ∨ TyT H v "list" ∨ TyT H v "tuple" ∨ TyT H v "dict") := by
  cases h with
  | non => exact .inr (.inr (.inl .non))
  | bl b => exact .inr (.inr (.inr (.inl (.bl b))))
  | int i => exact .inr (.inl ⟨i, rfl⟩)
  | str x => exact .inl ⟨x, rfl, rfl⟩
  | lst e _ => exact .inr (.inr (.inr (.inr (.inl (.lst e)))))
  | tup e _ => exact .inr (.inr (.inr (.inr (.inr (.inl (.tup e))))))
  | dct e _ => exact .inr (.inr (.inr (.inr (.inr (.inr (.dct e))))))
/-- isinstance of a value whose type is told -/
theorem isi_ty {K : PySem.W.Frag} {H : Hp} {v : V} {T U : String} {r : Bool} {Q : VK} (h : TyT H v T) (k : kitB T U = some r) (q : Q (.bl r) H) : rIsi K [v, .ty U] H Q :=
  ⟨v, .ty U, .type T, .type U, r, rfl, .ty U, h.x, kit_ty k, q⟩
/-! ## what a name is, what an amount is -/
def letters : Str := "abcdefghijklmnopqrstuvwxyz"
def isL (c : Nat) : Bool := decide (c ∈ letters.cps.toList)
def nameOk (x : Str) : Bool := decide (1 ≤ x.length) && (decide (x.length ≤ 8) && x.cps.toList.all isL)
def amtOk (i : Int) : Bool := decide (1 ≤ i) && decide (i ≤ 1000000000)
def NameV (H : Hp) (v : V) (r : Bool) : Prop := (∃ x, v = .str x ∧ Asc 19 x ∧ r = nameOk x) ∨ (r = false ∧ (TyT H v "NoneType" ∨ TyT H v "bool" ∨ TyT H v "int" ∨ TyT H v "list" ∨ TyT H v "tuple" ∨ TyT H v "dict"))
def AmtV (H : Hp) (v : V) (r : Bool) : Prop := (∃ i, v = .int i ∧ r = amtOk i) ∨ (r = false ∧ (TyT H v "NoneType" ∨ TyT H v "bool" ∨ TyT H v "str" ∨ TyT H v "list" ∨ TyT H v "tuple" ∨ TyT H v "dict"))
def spName : Sp := fun vs H Q _ => ∃ v r, vs = [v] ∧ NameV H v r ∧ ∀ H', Ext H H' → Q (.bl r) H'
def spAmt : Sp := fun vs H Q _ => ∃ v r, vs = [v] ∧ AmtV H v r ∧ ∀ H', Ext H H' → Q (.bl r) H'
theorem NameV.ext {H H' : Hp} {v : V} {r : Bool} (h : NameV H v r) (k : Ext H H') : NameV H' v r := by
  rcases h with h | ⟨e, h⟩
  · exact .inl h
  · refine .inr ⟨e, ?_⟩
    rcases h with h | h | h | h | h | h
    · exact .inl (h.ext k)
    · exact .inr (.inl (h.ext k))
    · exact .inr (.inr (.inl (h.ext k)))
    · exact .inr (.inr (.inr (.inl (h.ext k))))
    · exact .inr (.inr (.inr (.inr (.inl (h.ext k)))))
    · exact .inr (.inr (.inr (.inr (.inr (h.ext k)))))
theorem AmtV.ext {H H' : Hp} {v : V} {r : Bool} (h : AmtV H v r) (k : Ext H H') : AmtV H' v r := by
  rcases h with h | ⟨e, h⟩
  · exact .inl h
  · refine .inr ⟨e, ?_⟩
    rcases h with h | h | h | h | h | h
    · exact .inl (h.ext k)
    · exact .inr (.inl (h.ext k))
    · exact .inr (.inr (.inl (h.ext k)))
    · exact .inr (.inr (.inr (.inl (h.ext k))))
    · exact .inr (.inr (.inr (.inr (.inl (h.ext k)))))
    · exact .inr (.inr (.inr (.inr (.inr (h.ext k)))))
theorem dr_judged {H : Hp} {v : V} {x : PyData} {n : Nat} (h : Dr H v x) (k : OkT n x) : (∃ r, NameV H v r) ∧ ∃ r, AmtV H v r := by
  rcases dr_ty h with ⟨s, rfl, rfl⟩ | ⟨i, rfl⟩ | h | h | h | h | h
  · exact ⟨⟨_, .inl ⟨s, rfl, k.2 s rfl, rfl⟩⟩, ⟨false, .inr ⟨rfl, .inr (.inr (.inl (.str s)))⟩⟩⟩
  · exact ⟨⟨false, .inr ⟨rfl, .inr (.inr (.inl (.int i)))⟩⟩, ⟨_, .inl ⟨i, rfl, rfl⟩⟩⟩
  · exact ⟨⟨false, .inr ⟨rfl, .inl h⟩⟩, ⟨false, .inr ⟨rfl, .inl h⟩⟩⟩
  · exact ⟨⟨false, .inr ⟨rfl, .inr (.inl h)⟩⟩, ⟨false, .inr ⟨rfl, .inr (.inl h)⟩⟩⟩
  · exact ⟨⟨false, .inr ⟨rfl, .inr (.inr (.inr (.inl h)))⟩⟩, ⟨false, .inr ⟨rfl, .inr (.inr (.inr (.inl h)))⟩⟩⟩
  · exact ⟨⟨false, .inr ⟨rfl, .inr (.inr (.inr (.inr (.inl h))))⟩⟩, ⟨false, .inr ⟨rfl, .inr (.inr (.inr (.inr (.inl h))))⟩⟩⟩
  · exact ⟨⟨false, .inr ⟨rfl, .inr (.inr (.inr (.inr (.inr h))))⟩⟩, ⟨false, .inr ⟨rfl, .inr (.inr (.inr (.inr (.inr h))))⟩⟩⟩
end Gk

set_option Elab.async false
set_option linter.all false
set_option maxRecDepth 100000
set_option maxHeartbeats 4000000
/-! rules for objects: static methods, keywords of a method, == and != by an own __eq__, tuple(dict) -/
namespace Go
open PySem PySem.Spec PyProof.Rows L2 Gn Gr Gk
section
variable {X : Cx} {CX : CXT} {k n : Nat} {C f g p : Addr} {mc : Value} {fd : FuncData} {ps ks : List Str} {sp : Sp} {E : XK} {o e : Expr} {es : List Expr} {kws : List Keyword} {m : Str} {pos apos : Pos} {ta : TE} {t tk : TA} {pl : Sem Bool} {gg : List Value → List Value → List Value} {gV : List V → List V → List V}
/-! ### a static method, through its class -/
structure SMet (K : PySem.W.Frag) (C : Addr) (mc : Value) (m : Str) (p g : Addr) : Prop where
  at_ : PySem.W.findCls K (.ref C) mc m = some (.get (.builtin "staticmethod.__get__") (.ref p) .none (.ref C))
  rc : ∃ rest, PySem.W.recIn K p "staticmethod" = some (.ref g :: rest)
theorem getsm_ok {pins : List (Addr × Obj)} {σ : L2.St} {H : Hp} {s : Shared} {A : Around} {E : Value → Shared → Prop} {Q : Value × List Value → Shared → Prop} (I : Inv X pins σ H s) (r : ClX.CRead X.K C mc) (c : SMet X.K C mc m p g)
    (h : ∀ s', Inv X pins σ H s' → Q (.ref g, []) s') : wpAny (model X.prog X.w) A (getMethod (.ref C) m pl) Q E s := by
  obtain ⟨rest, hp⟩ := c.rc
  refine PySem.W.method_cls I.kIn r.ga (PySem.W.cls_bind I.kIn r.rd c.at_ (wpAny_call (PySem.W.sm_get (s := { s with toks := s.toks + 1 }) I.kIn hp (PySem.W.handed_on rfl ?_))))
  exact h _ (I.tok _)
def tSMeth (C : Addr) (sp : Sp) (E : XK) (ta : TE) (t : TA) : TE := fun σ H Q => ta σ H fun x H1 => x = .ref C ∧ t σ H1 fun vs H2 => sp vs H2 Q E
theorem pe_smeth (he : PE X o ta) (r : ClX.CRead X.K C mc) (c : SMet X.K C mc m p g) (hk : PySem.W.keepIn X.K (.ref g) = true) (F : FnOk X.prog X.w X.K X.mg X.base CX k g fd ps sp) (hr : Room k X.A) (hb : Binds X.K fd ps []) (hx : Passes CX X E) (ha : PA X (e :: es) t)
    (hst : starEach (e :: es) X.env = (false, eval e X.env) :: starEach es X.env := by rfl) (hpl : (backTo pos (starEach es X.env)).any (·.1) = false := by rfl)
    (ht : eval (.Call (.Attribute o m apos) (e :: es) [] pos) X.env = (do
      let ov ← eval o X.env
      standAt apos.atName
      let (f, first) ← holding [ov] (getMethod ov m pl)
      callWith pos f first (backTo pos (starEach (e :: es) X.env)) (backToKw pos (keywordEach [] X.env))) := by rfl) :
    PE X (.Call (.Attribute o m apos) (e :: es) [] pos) (tSMeth C sp E ta t) := by
  refine ⟨fun pins s σ H Q I h => ?_⟩
  refine PySem.W.methodCall_KW (pl := pl) (thn (he.run pins s σ H _ I h) fun u s1 ⟨x, H1, I1, rx, ex, q⟩ => ?_) ht
  subst ex
  obtain rfl : u = Value.ref C := rx
  refine getsm_ok I1 r c fun s2 I2 => ?_
  refine PySem.W.callWith_K (first := []) (h₀ := X.base) I2.ok.mod.kin hk (thn (ha.run pos pins s2 σ H1 _ I2 q) fun us s3 ⟨vs, H2, I3, rv, q2⟩ => ⟨I3.kIn, ?_⟩) hst hpl
  exact run_fn (us := us) (vs := vs) (dvs := []) F hr hb .nil hx I3 rv (by rw [List.append_nil]; exact q2)
def tSMethK (C : Addr) (sp : Sp) (gV : List V → List V → List V) (E : XK) (ta : TE) (tk : TA) : TE := fun σ H Q => ta σ H fun x H1 => x = .ref C ∧ tk σ H1 fun zs H2 => sp (gV [] zs) H2 Q E
theorem pe_smethK (he : PE X o ta) (r : ClX.CRead X.K C mc) (c : SMet X.K C mc m p g) (hk : PySem.W.keepIn X.K (.ref g) = true) (F : FnOk X.prog X.w X.K X.mg X.base CX k g fd ps sp) (hr : Room k X.A) (hb : KBinds X.K fd ps ks gg gV) (hx : Passes CX X E) (hkw : PK X kws tk)
    (hall : (backToKw pos (keywordEach kws X.env)).all (·.1.isSome) = true := by rfl) (hks : (backToKw pos (keywordEach kws X.env)).filterMap (·.1) = ks := by rfl)
    (hpl : ((backTo pos (starEach [] X.env)).any (·.1) || (backToKw pos (keywordEach kws X.env)).any (·.1.isNone)) = false := by rfl)
    (ht : eval (.Call (.Attribute o m apos) [] kws pos) X.env = (do
      let ov ← eval o X.env
      standAt apos.atName
      let (f, first) ← holding [ov] (getMethod ov m pl)
      callWith pos f first (backTo pos (starEach [] X.env)) (backToKw pos (keywordEach kws X.env))) := by rfl) :
    PE X (.Call (.Attribute o m apos) [] kws pos) (tSMethK C sp gV E ta tk) := by
  refine ⟨fun pins s σ H Q I h => ?_⟩
  refine PySem.W.methodCall_KW (pl := pl) (thn (he.run pins s σ H _ I h) fun u s1 ⟨x, H1, I1, rx, ex, q⟩ => ?_) ht
  subst ex
  obtain rfl : u = Value.ref C := rx
  refine getsm_ok I1 r c fun s2 I2 => ?_
  refine PySem.W.callWith_KW0 (first := []) (h₀ := X.base) I2.ok.mod.kin hk hall ?_ hpl
  refine thn (hkw.run pos pins s2 σ H1 _ I2 q) fun ws s3 ⟨zs, H2, I3, rz, q2⟩ => ⟨I3.kIn, ?_⟩
  rw [hks]
  exact run_fnk (us := []) (vs := []) F hr hb hx I3 .nil rz q2
/-! ### o.m(k = v) -/
def tMethK (C : Addr) (m : Str) (sp : Sp) (gV : List V → List V → List V) (E : XK) (ta : TE) (tk : TA) : TE := fun σ H Q => ta σ H fun x H1 => ∃ a dx fs, x = .ref a ∧ H1 a = some (.ins C dx fs) ∧ fs.lookup m = none ∧ tk σ H1 fun zs H2 => sp (gV [x] zs) H2 Q E
theorem pe_methK (he : PE X o ta) (c : Cls X.K C) (hm : Meth X.K C m f) (F : FnOk X.prog X.w X.K X.mg X.base CX k f fd ps sp) (hr : Room k X.A) (hb : KBinds X.K fd ps ks gg gV) (hx : Passes CX X E) (hkw : PK X kws tk)
    (hall : (backToKw pos (keywordEach kws X.env)).all (·.1.isSome) = true := by rfl) (hks : (backToKw pos (keywordEach kws X.env)).filterMap (·.1) = ks := by rfl)
    (hpl : ((backTo pos (starEach [] X.env)).any (·.1) || (backToKw pos (keywordEach kws X.env)).any (·.1.isNone)) = false := by rfl)
    (ht : eval (.Call (.Attribute o m apos) [] kws pos) X.env = (do
      let ov ← eval o X.env
      standAt apos.atName
      let (f, first) ← holding [ov] (getMethod ov m pl)
      callWith pos f first (backTo pos (starEach [] X.env)) (backToKw pos (keywordEach kws X.env))) := by rfl) :
    PE X (.Call (.Attribute o m apos) [] kws pos) (tMethK C m sp gV E ta tk) := by
  refine ⟨fun pins s σ H Q I h => ?_⟩
  refine PySem.W.methodCall_KW (pl := pl) (thn (he.run pins s σ H _ I h) fun u s1 ⟨x, H1, I1, rx, a, dx, fs, ex, ea, l, q⟩ => ?_) ht
  subst ex
  obtain rfl : u = Value.ref a := rx
  refine getmeth_ok I1 ea c hm l ?_
  refine PySem.W.callWith_KW0 (first := [.ref a]) (h₀ := X.base) I1.ok.mod.kin hm.kp hall ?_ hpl
  refine thn (hkw.run pos pins s1 σ H1 _ I1 q) fun ws s3 ⟨zs, H2, I3, rz, q2⟩ => ⟨I3.kIn, ?_⟩
  rw [hks]
  exact run_fnk (us := [.ref a]) (vs := [.ref a]) F hr hb hx I3 (.cons rfl .nil) rz q2
/-! ### == and != by an own __eq__ -/
/-- the own __eq__ at f of the class at C; no __ne__ besides object's -/
structure OwnE (K : PySem.W.Frag) (C f : Addr) : Prop where
  eq : PySem.W.findIn K (.ref C) "__eq__" = some (some (.ref f))
  fn : PySem.W.isFn K (.ref f) = true
  cls : ∃ nm q N bs hdct sn sub ab col dd k0 k1 k2 k3 k5 newId, K.lookup C = some (excClassObj nm q C N bs [.type "object"] hdct sn sub ab col dd k0 k1 k2 k3 k5 newId) ∧ PySem.W.nsOkIn K N = true ∧ PySem.W.nsIn K N "__eq__" = some (some (.ref f)) ∧ PySem.W.nsIn K N "__ne__" = some none
  ob : ∃ of : Obj, K.lookup f = some of ∧ of.cls = .type "function"
/-- two instances of the class; the own == is asked -/
def rOwn (C : Addr) (sp : Sp) (E : XK) (neg : Bool) : R2 := fun x y H Q => ∃ a b dx dy fs gs, x = .ref a ∧ y = .ref b ∧ H a = some (.ins C dx fs) ∧ H b = some (.ins C dy gs) ∧ sp [.ref a, .ref b] H (fun v H' => ∃ r, v = .bl r ∧ Q (.bl (if neg then !r else r)) H') E
theorem op_eqO (F : FnOk X.prog X.w X.K X.mg X.base CX n f fd ps sp) (hr : Room n X.A) (w : OwnE X.K C f) (hb : Binds X.K fd ps []) (hx : Passes CX X E) : OpR X (compareOp .Eq) (rOwn C sp E false) := by
  intro pins s σ H x y v u Q I rx ry h
  obtain ⟨a, b, dx, dy, fs, gs, rfl, rfl, ha, hb', hs⟩ := h
  cases rx
  cases ry
  obtain ⟨mA, O1, _⟩ := ins_get I.hok ha
  obtain ⟨mB, O2, _⟩ := ins_get I.hok hb'
  obtain ⟨od, J, _⟩ := O1.look
  obtain ⟨od', J', _⟩ := O2.look
  obtain ⟨m, hF⟩ := I.fr
  show wpAny (model X.prog X.w) X.A (richCompare .Eq (.ref a) (.ref b)) (EP X pins σ Q) X.xe s
  refine PySem.W.cmp_K (op := .Eq) (tb := .ref C) hr.units0 hF I.ok.mod.kin J J'.type (by simp [PySem.W.notFirst]) w.eq w.fn ?_
  refine thn (run_fn (us := [.ref a, .ref b]) (vs := [.ref a, .ref b]) (dvs := []) F hr hb .nil hx I (.cons rfl (.cons rfl .nil)) (by rw [List.append_nil]; exact hs)) fun r s' hq => ?_
  obtain ⟨z, H', I', rz, c, rfl, q⟩ := hq
  cases rz
  exact ⟨.bl c, H', I', rfl, q⟩
theorem ns_has {K : PySem.W.Frag} {h : Heap} {N : Addr} {m : Str → Option Value} {x : Str} {v : Value} (X : K.In h) (G : h.Ns N m) (e : PySem.W.nsIn K N x = some (some v)) : m x = some v := by
  obtain ⟨o, es, ep, ho, hd, _, hf⟩ := G
  rw [← hf]
  unfold PySem.W.nsIn at e
  cases q : K.lookup N with
  | none => rw [q] at e; cases e
  | some ob =>
    have z := X _ _ q
    rw [ho] at z
    cases z
    rw [q] at e
    obtain ⟨c, dd, dt, sl⟩ := o
    have hd : dt = .dict es ep := hd
    subst hd
    simp only at e
    unfold nsFind findBy
    rw [← Array.find?_toList]
    split at e
    · rename_i en he
      rw [he]
      cases e
      rfl
    · split at e <;> cases e
theorem eq_obj : ∃ y : Option Value, typeLookup (.type "object") "__eq__" = pure y := ⟨_, PySem.F.slot_object_eq.lookup⟩
theorem op_neO (F : FnOk X.prog X.w X.K X.mg X.base CX n f fd ps sp) (hr : Room (n + 1) X.A) (w : OwnE X.K C f) (hb : Binds X.K fd ps []) (hx : ∀ (pins : List (Addr × Obj)) (σ : L2.St) (H : Hp) (s : Shared) (e : Value) (s' : Shared), Inv X pins σ H s → CX X.stack H s E e s' → X.xe e s') : OpR X (compareOp .NotEq) (rOwn C sp E true) := by
  intro pins s σ H x y v u Q I rx ry h
  obtain ⟨a, b, dx, dy, fs, gs, rfl, rfl, ha, hb', hs⟩ := h
  cases rx
  cases ry
  obtain ⟨mA, O1, _⟩ := ins_get I.hok ha
  obtain ⟨mB, O2, _⟩ := ins_get I.hok hb'
  obtain ⟨nm, q, N, bs, hdct, sn, sub, ab, col, dd, k0, k1, k2, k3, k5, newId, hC, hN, he, hn⟩ := w.cls
  obtain ⟨of, ho, hoc⟩ := w.ob
  obtain ⟨yv, hy⟩ := eq_obj
  have G : s.heap.Ns N (s.heap.nsMap N) := .of_isNs (PySem.W.isNs_of_in I.kIn hN)
  have hl : ([Value.ref a, Value.ref b] ++ []).length = ps.length := by
    have := F.len _ _ _ _ hs
    simpa using this
  obtain ⟨_, _, _, ea, _⟩ := (show ObjOk X.prog X.w H s.heap a (.ins C dx fs) from I.hok a _ ha)
  obtain ⟨_, _, _, eb, _⟩ := (show ObjOk X.prog X.w H s.heap b (.ins C dy gs) from I.hok b _ hb')
  have W : s.heap.OwnEqNoNe a C f "object" [.type "object"] :=
    ⟨_, of, nm, q, N, bs, hdct, sn, sub, ab, col, dd, k0, k1, k2, k3, k5, newId, s.heap.nsMap N, yv, ea, rfl, I.kIn _ _ hC, G, ns_has I.kIn G he, I.kIn _ _ ho, hoc, PySem.F.cmp_object.mro, hy, PySem.W.ns_none_of I.kIn G hn⟩
  have hbind : BindsTo s fd ⟨[.ref a, .ref b], []⟩ (ps.zip [.ref a, .ref b]) := hb s [.ref a, .ref b] I.kIn hl
  have run := F.run X.A.in1 X.stack s H ⟨[.ref a, .ref b], []⟩ [.ref a, .ref b] [.ref a, .ref b] _ E (hr.in1) I.env0.in1 hbind (.cons rfl (.cons rfl .nil)) hs
  obtain ⟨hp, g, d, tk, os⟩ := s
  refine compareOp_ne_ownEq PySem.F.cmp_object W eb rfl (by have := hr.units; omega) (wpAny_call (codeAny_mono run fun r s' hq => ?_))
  cases r with
  | error e => exact hx pins σ H _ e s' I hq
  | ok fl =>
    cases fl with
    | ret u =>
      obtain ⟨z, H', I', rz, c, rfl, q⟩ := I.after hq
      cases rz
      exact ⟨c, rfl, .bl (!c), H', I', rfl, q⟩
    | next => exact False.elim hq
    | brk => exact False.elim hq
    | cont => exact False.elim hq
end
end Go

set_option Elab.async false
set_option linter.all false
set_option maxRecDepth 100000
set_option maxHeartbeats 4000000
/-! tuple(dict), .. -/
namespace Gt
open PySem PySem.Spec PyProof.Rows L2 Gn Gr Gk Go
section
variable {prog : Program} {w : World} {A : Around} {E : Value → Shared → Prop} {s : Shared} {T : String} {r d : Addr} {n : Nat} {P : Nat → Value → Prop} {OK : Heap → Prop}
theorem collect_kdl {Q : List Value → Shared → Prop} (K : PySem.W.KdlSrc prog w T r d n P OK) (hh : A.handled = none) (hok : OK s.heap) (hn : n ≤ sizeLine)
    (hQ : ∀ (h' : Heap) (tk : Nat) (acc : Array Value), (∀ b o, s.heap.get? b = some o → h'.get? b = some o) → ItemsOf P acc n → Q acc.toList { s with heap := h', toks := tk }) :
    wpAny (model prog w) A (collect (.ref r)) Q E s := by
  unfold collect
  refine wpAny_bind (wpAny_runValue (codeAny_builtin F.entry_proto_collect ?_))
  rw [Around.under_plainId F.plain_proto_collect _]
  show wpAny _ A.in1 (newList [] >>= fun l => again (.builtin "list.__iadd__" ⟨[l, .ref r], []⟩)) _ _ s
  refine wpAny_bind (wpAny_newObj_type ?_)
  refine wpAny_pure ⟨plainId_quiet F.plain_list_iadd _, codeAny_builtin F.entry_list_iadd ?_⟩
  rw [Around.under_plainId F.plain_list_iadd _]
  show wpAny _ A.in1 (Builtin.List.listExtendWith (.ref s.heap.objs.size) (.ref r) (.ref s.heap.objs.size)) _ _ _
  have hS : (s.heap.push { cls := .type "list", data := .seq ([] : List Value).toArray }).get? s.heap.objs.size = some { cls := .type "list", data := .seq #[] 0 } := Heap.get?_push_size _ rfl
  have hlt := K.there _ hok
  refine wpAny_mono (PySem.W.kdl_extend (A := A) (R := fun rr s' => rr = .ok (.ret (.ref s.heap.objs.size)) ∧ ∃ (h' : Heap) (tk : Nat) (acc : Array Value) (c' : Nat), s' = { s with heap := h', toks := tk } ∧
      (∀ b o, s.heap.get? b = some o → h'.get? b = some o) ∧ h'.get? s.heap.objs.size = some { cls := .type "list", dict := none, data := .seq acc c', slots := #[] } ∧ ItemsOf P acc n)
    (s := { s with heap := s.heap.push { cls := .type "list", data := .seq ([] : List Value).toArray } }) K hh (K.keep _ _ hok fun b _ o e => Heap.get?_push_of_some _ e) s.heap.objs.size (Nat.ne_of_gt hlt.1) (Nat.ne_of_gt hlt.2) _ 0 hS
    (fun h' tk acc c' hk e hi => ⟨rfl, h', tk, acc, c', rfl, fun b o q => hk b o (Nat.ne_of_lt (Heap.lt_size q)) (Heap.get?_push_of_some _ q), e, hi⟩) hn) (fun fin s' h => ?_) (fun e s' h => ?_)
  · cases fin with
    | done f =>
      obtain ⟨e, h', tk, acc, c', rfl, hk, hS', hi⟩ := h
      cases e
      show wpAny _ A (load s.heap.objs.size >>= _) _ _ _
      exact wpAny_bind (wpAny_load hS' (wpAny_pure (hQ h' tk acc hk hi)))
    | again c' =>
      refine ⟨h.1, codeAny_mono h.2 fun rr s'' hr' => ?_⟩
      obtain ⟨rfl, h', tk, acc, c', rfl, hk, hS', hi⟩ := hr'
      show wpAny _ A (load s.heap.objs.size >>= _) _ _ _
      exact wpAny_bind (wpAny_load hS' (wpAny_pure (hQ h' tk acc hk hi)))
  · exact absurd h.1 (by simp)
theorem code_tuple_new_dict {Q₁ : Value → Shared → Prop} (K : PySem.W.KdlSrc prog w "dict" r d n P OK) (hh : A.handled = none) (hok : OK s.heap) (hn : n ≤ sizeLine)
    (h : ∀ (h' : Heap) (tk : Nat) (acc : Array Value), (∀ b o, s.heap.get? b = some o → h'.get? b = some o) → ItemsOf P acc n →
      Q₁ (.ref h'.objs.size) { s with heap := h'.push { cls := .type "tuple", data := .seq acc }, toks := tk }) :
    codeAny (model prog w) A (.call (.builtin "tuple.__new__") ⟨[.type "tuple", .ref r], []⟩) (wants Q₁ E) s := by
  refine codeAny_of_tree ?_
  show wpAny _ A.in1 (do checkBuiltinCall "tuple.__new__" ⟨[.type "tuple", .ref r], []⟩; again (.builtin "tuple.__new__" ⟨[.type "tuple", .ref r], []⟩)) _ _ s
  refine wpAny_bind (wpAny_of_eq (F.newCall_tuple_1 _) (wpAny_pure ⟨plainId_quiet F.plain_tuple_new _, codeAny_builtin F.entry_tuple_new ?_⟩))
  rw [Around.under_plainId F.plain_tuple_new _]
  have hsub := sub_tuple_self
  have hinit := init_tuple_lookup
  have hmh := madeHere_tuple
  have hTI : s.TypeIs (.ref r) "dict" := K.type _ hok
  have hh1 : A.in1.handled = none := hh
  wp_walk using wpAny_typeOf hTI, collect_kdl (A := A.in1) K hh1 hok hn
  intro h' tk acc hk hacc
  show wpAny _ _ (Builtin.Tuple.tupleExact acc.toList.toArray >>= fun v => ret v) _ _ _
  unfold Builtin.Tuple.tupleExact
  refine wpAny_bind (wpAny_newObj_type ?_ (by show acc.toList.toArray.size ≤ sizeLine; simp only [Array.toArray_toList]; rw [hacc.1]; exact hn))
  refine wpAny_pure ?_
  have e : acc.toList.toArray = acc := by simp
  rw [e]
  exact h h' tk acc hk hacc
theorem call_tuple_dict {Q : Value → Shared → Prop} (K : PySem.W.KdlSrc prog w "dict" r d n P OK) (hh : A.handled = none) (hok : OK s.heap) (hn : n ≤ sizeLine)
    (hQ : ∀ (h' : Heap) (tk : Nat) (acc : Array Value), (∀ b o, s.heap.get? b = some o → h'.get? b = some o) → ItemsOf P acc n →
      Q (.ref h'.objs.size) { s with heap := h'.push { cls := .type "tuple", data := .seq acc }, toks := tk }) :
    wpAny (model prog w) A (call (.type "tuple") [.ref r]) Q E s := by
  refine callType_codes (Q₁ := fun obj s₁ => s₁.TypeIs obj "tuple" ∧ Q obj s₁) F.called_tuple (F.typeCall_tuple_1 _) F.entry_object_init
    (code_tuple_new_dict (A := A.in1) K hh hok hn fun h' tk acc hk hacc => ⟨⟨_, Heap.get?_push_size _ rfl, rfl⟩, hQ h' tk acc hk hacc⟩) fun obj s₁ h₁ => ?_
  exact ⟨h₁.1, F.args_object_init_2 obj _, object_init_meets F.called_tuple.init.lookup F.called_tuple.made (by decide) prog w A.in1 _ s₁ ⟨h₁.1, rfl, h₁.2⟩⟩
end
/-- tuple(dict): a new tuple of its keys -/
def rTupD : List V → Hp → VK → Prop := fun xs H Q => ∃ p kvs, xs = [.ref p] ∧ H p = some (.dK kvs) ∧ ∀ q, H q = none → Q (.ref q) (upd H q (.tup (kvs.map fun kv => kV kv.1)))
theorem call_tuple_dK {X : Cx} (hc : X.calm = true) : CallR X (.type "tuple") rTupD := by
  intro pins s σ H xs us Q I r h
  obtain ⟨p, kvs, e, hk, q⟩ := h
  subst e
  obtain ⟨u, eu, rx⟩ := vals1 r
  subst eu
  obtain rfl : u = Value.ref p := rx
  obtain ⟨z, lo, vs, rk, hd⟩ := (show ObjOk X.prog X.w H s.heap p (.dK kvs) from I.hok p _ hk)
  obtain ⟨ep, hat⟩ := hd.dictAt
  have hl : kvs.length = vs.length := Paired.length rk
  refine call_tuple_dict (PySem.W.kdl_dict (knd := mixKind X.prog X.w) (kvs := vs) (ep := ep) lo) (I.ok.hd hc) hat (by rw [← hl]; exact z) fun h' tk acc hkeep hacc => ?_
  have I1 : Inv X pins σ H { s with heap := h' } := I.kept (t' := s.toks) hkeep
  have rr : Vals (kvs.map fun kv => kV kv.1) acc.toList := by
    have el : acc.toList.length = acc.size := by simp
    refine vals_of_at (by rw [List.length_map, el, hacc.1, hl]) fun j x w h1 h2 => ?_
    obtain ⟨k, y, hky, hi⟩ := hacc.2 j w (by rw [← Array.getElem?_toList]; exact h2)
    have e1 : (kvs.map (·.1))[j]? = some k := by
      rw [KV.keys rk, List.getElem?_map, hky] <;> rfl
    have e2 : (kvs.map fun kv => kV kv.1)[j]? = some (kV k) := by
      have e3 : (kvs.map fun kv => kV kv.1) = (kvs.map (·.1)).map kV := by rw [List.map_map] <;> rfl
      rw [e3, List.getElem?_map, e1] <;> rfl
    rw [e2] at h1
    cases h1
    exact keyIs_rel hi
  have I2 : Inv X pins σ (upd H h'.objs.size (.tup (kvs.map fun kv => kV kv.1))) { s with heap := h'.push { cls := .type "tuple", data := .seq acc }, toks := tk } :=
    I1.laid (t' := tk) (fun b o e => Heap.get?_push_of_some _ e) (Nat.le_refl _) (show ObjOk X.prog X.w _ _ _ (.tup (kvs.map fun kv => kV kv.1)) from ⟨by rw [List.length_map]; exact z, acc.toList, rr, by
      have := IsTup.new h' acc
      simpa using this⟩)
  exact ⟨.ref h'.objs.size, _, I2, rfl, q _ (I1.hok.fresh (Nat.le_refl _))⟩
/-- {k: v for ..} over a walk -/
theorem dc_it {J : It} {n : Nat} {G : Hp → Prop} {Y : Nat → Hp → V → Hp → Prop} (w : Walk J n G Y) {g : TG} {tt : TT} {tk tv : TE} {vs : List Nat} {σ : L2.St} {H1 : Hp} {D : Addr} {Qd : Hp → Prop} (Pv : Nat → Hp → Prop) (h0 : Pv 0 (upd H1 D (.dK []))) (hG : ∀ i H, i ≤ n → Pv i H → G H)
    (hs : ∀ i x H H', i < n → Pv i H → Y i H x H' → g x (wipe σ vs) H' fun σ2 H2 => wipe σ2 vs = wipe σ vs ∧ tt σ2 H2 fun b H3 =>
      if b = true then tk σ2 H3 fun y H4 => tv σ2 H4 fun z H5 => ∃ kvs k, y = kV k ∧ H5 D = some (.dK kvs) ∧ kvs.length < sizeLine ∧ Pv (i + 1) (upd H5 D (.dK (putK kvs k z))) else Pv (i + 1) H3) (hd : ∀ H, Pv n H → Qd H) :
    ∃ W : Nat → Nat → Hp → Prop, (∃ m, W 0 m (upd H1 D (.dK []))) ∧ ∀ i m H, W i m H →
      (J.stop i H ∧ Qd H) ∨ (J.go i H ∧ ∃ Nx : Hp → Prop, (∀ H', Nx H' → ∃ m', m' < m ∧ W (i + 1) m' H') ∧ ∀ x H', J.yld i H x H' → g x (wipe σ vs) H' fun σ2 H2 => wipe σ2 vs = wipe σ vs ∧ tt σ2 H2 fun b H3 =>
        if b = true then tk σ2 H3 fun y H4 => tv σ2 H4 fun z H5 => ∃ kvs k, y = kV k ∧ H5 D = some (.dK kvs) ∧ kvs.length < sizeLine ∧ Nx (upd H5 D (.dK (putK kvs k z))) else Nx H3) := by
  refine ⟨fun i m H => m = n - i ∧ i ≤ n ∧ Pv i H, ⟨n, by simp, Nat.zero_le _, h0⟩, ?_⟩
  rintro i m H ⟨rfl, hi, p⟩
  have q := hG i H hi p
  by_cases hlt : i < n
  · exact .inr ⟨w.goes i H hlt q, Pv (i + 1), fun H' p' => ⟨n - (i + 1), by omega, rfl, hlt, p'⟩, fun x H' y => hs i x H H' hlt p (w.yields i H x H' hlt q y)⟩
  · have e : i = n := by omega
    subst e
    exact .inl ⟨w.stops H q, hd H p⟩
end Gt

set_option Elab.async false
set_option linter.all false
set_option maxRecDepth 100000
set_option maxHeartbeats 4000000
/-! forests as data: rows, their text, what is a forest -/
namespace Gf
open PySem PySem.Spec PyProof.Rows L2 TL Gn Gr Gk
abbrev FRow := Str × Option Str
def parV : Option Str → V
  | none => .non
  | some m => .str m
def kvOf (r : FRow) : Key × V := (Sum.inr r.1, parV r.2)
def wordsOf : FRow → List Str
  | (n, none) => ["account", n]
  | (n, some m) => ["account", n, "in", m]
def lineOf (r : FRow) : Str := Txt.join " " (wordsOf r)
def textOf (rs : List FRow) : Str := Txt.join "\n" (rs.map lineOf ++ [Str.empty])
def fNames (rs : List FRow) : List Str := rs.map (·.1)
/-- the row may stand behind these names -/
def RowOk (E : List Str) (r : FRow) : Prop := nameOk r.1 = true ∧ r.1 ∉ E ∧ ∀ m, r.2 = some m → m ∈ E
def GoodF : List Str → List FRow → Prop
  | _, [] => True
  | E, r :: rs => RowOk E r ∧ GoodF (E ++ [r.1]) rs
theorem good_at : ∀ {rs : List FRow} {E : List Str} {i : Nat} {r : FRow}, GoodF E rs → rs[i]? = some r → RowOk (E ++ fNames (rs.take i)) r
  | [], _, _, _, _, h => by simp at h
  | x :: rs, E, 0, r, g, h => by
    simp only [List.getElem?_cons_zero, Option.some.injEq] at h
    subst h
    simpa [fNames] using g.1
  | x :: rs, E, i + 1, r, g, h => by
    have q := good_at g.2 (show rs[i]? = some r by simpa using h)
    simpa [fNames, List.append_assoc] using q
theorem good_snoc : ∀ {rs : List FRow} {E : List Str} {r : FRow}, GoodF E rs → RowOk (E ++ fNames rs) r → GoodF E (rs ++ [r])
  | [], E, r, g, h => ⟨by simpa [fNames] using h, trivial⟩
  | x :: rs, E, r, g, h => ⟨g.1, good_snoc g.2 (by simpa [fNames, List.append_assoc] using h)⟩
theorem names_take (rs : List FRow) (i : Nat) : fNames (rs.take i) = (fNames rs).take i := by unfold fNames; rw [List.map_take]
theorem good_mem {rs : List FRow} (g : GoodF [] rs) {r : FRow} (h : r ∈ rs) : nameOk r.1 = true ∧ ∀ m, r.2 = some m → m ∈ fNames rs ∧ nameOk m = true := by
  obtain ⟨i, hi⟩ := List.mem_iff_getElem?.mp h
  have q := good_at g hi
  rw [List.nil_append] at q
  have nm : ∀ m, m ∈ fNames rs → nameOk m = true := by
    intro m hm
    obtain ⟨z, hz, rfl⟩ := List.mem_map.mp hm
    obtain ⟨j, hj⟩ := List.mem_iff_getElem?.mp hz
    exact (good_at g hj).1
  refine ⟨q.1, fun m hm => ?_⟩
  have z := q.2.2 m hm
  rw [names_take] at z
  have z2 := List.mem_of_mem_take z
  exact ⟨z2, nm m z2⟩
theorem good_nodup : ∀ {rs : List FRow} {E : List Str}, GoodF E rs → (fNames rs).Nodup ∧ ∀ n ∈ fNames rs, n ∉ E
  | [], _, _ => by simp [fNames]
  | x :: rs, E, g => by
    obtain ⟨a, b⟩ := good_nodup g.2
    constructor
    · show (x.1 :: fNames rs).Nodup
      refine List.nodup_cons.mpr ⟨fun h => ?_, a⟩
      exact b _ h (by simp)
    · intro n hn
      rcases List.mem_cons.mp (show n ∈ x.1 :: fNames rs from hn) with rfl | h
      · exact g.1.2.1
      · exact fun z => b n h (by simp [z])
/-! names -/
theorem name_len {x : Str} (h : nameOk x = true) : 1 ≤ x.length ∧ x.length ≤ 8 := by
  unfold nameOk at h
  simp only [Bool.and_eq_true, decide_eq_true_eq] at h
  exact ⟨h.1, h.2.1⟩
theorem letters_lo : ∀ c ∈ letters.cps.toList, 96 < c ∧ c < 123 := by decide +kernel
theorem name_cps {x : Str} (h : nameOk x = true) : ∀ c ∈ x.cps.toList, 96 < c ∧ c < 123 := by
  unfold nameOk at h
  simp only [Bool.and_eq_true, decide_eq_true_eq] at h
  intro c hc
  have := List.all_eq_true.mp h.2.2 c hc
  exact letters_lo c (by simpa [isL] using this)
theorem name_asc {x : Str} (h : nameOk x = true) : Asc 8 x := ⟨(name_len h).2, fun c hc => by have := name_cps h c hc; omega⟩
theorem name_asc19 {x : Str} (h : nameOk x = true) : Asc 19 x := (name_asc h).mono (by decide)
/-! lines and texts -/
theorem tl_def (x : Str) : tl x = x.cps.toList := rfl
theorem sp_tl : tl (" " : Str) = [32] := by decide +kernel
theorem nl_tl : tl ("\n" : Str) = [10] := by decide +kernel
theorem e_tl : tl Str.empty = [] := rfl
theorem e_eq : (("" : String) : Str) = Str.empty := ext_tl (by decide +kernel)
theorem acc_tl : tl ("account" : Str) = [97, 99, 99, 111, 117, 110, 116] := by decide +kernel
theorem in_tl : tl ("in" : Str) = [105, 110] := by decide +kernel
theorem accs_tl : tl ("account " : Str) = [97, 99, 99, 111, 117, 110, 116, 32] := by decide +kernel
theorem ins_tl : tl (" in " : Str) = [32, 105, 110, 32] := by decide +kernel
def lineL : FRow → List Nat
  | (n, none) => tl ("account " : Str) ++ tl n
  | (n, some m) => tl ("account " : Str) ++ (tl n ++ (tl (" in " : Str) ++ tl m))
theorem tl_line (r : FRow) : tl (lineOf r) = lineL r := by
  obtain ⟨n, q⟩ := r
  unfold lineOf
  rw [join_eq, tl_join, sp_tl]
  cases q with
  | none =>
    show tl ("account" : Str) ++ ([32] ++ tl n) = tl ("account " : Str) ++ tl n
    rw [acc_tl, accs_tl]
    rfl
  | some m =>
    show tl ("account" : Str) ++ ([32] ++ (tl n ++ ([32] ++ (tl ("in" : Str) ++ ([32] ++ tl m))))) = tl ("account " : Str) ++ (tl n ++ (tl (" in " : Str) ++ tl m))
    rw [acc_tl, accs_tl, in_tl, ins_tl]
    rfl
theorem joinL_end (S : List Nat) : ∀ ls : List (List Nat), joinL S (ls ++ [[]]) = (ls.map (· ++ S)).flatten
  | [] => rfl
  | [p] => by
    show p ++ (S ++ []) = _
    simp
  | p :: q :: r => by
    have e := joinL_end S (q :: r)
    show p ++ (S ++ joinL S (q :: r ++ [[]])) = _
    rw [e]
    simp
theorem tl_text (rs : List FRow) : tl (textOf rs) = (rs.map fun r => lineL r ++ [10]).flatten := by
  unfold textOf
  rw [join_eq, tl_join, nl_tl, List.map_append, List.map_map]
  show joinL [10] (List.map (tl ∘ lineOf) rs ++ [[]]) = _
  rw [joinL_end, List.map_map]
  congr 1
  refine List.map_congr_left fun r _ => ?_
  show tl (lineOf r) ++ [10] = _
  rw [tl_line]
theorem text_nil : textOf [] = Str.empty := ext_tl (by rw [tl_text]; rfl)
theorem text_snoc (rs : List FRow) (r : FRow) : textOf (rs ++ [r]) = textOf rs ++ (⟨(lineL r ++ [10]).toArray⟩ : Str) := by
  refine ext_tl ?_
  rw [tl_append, tl_text, tl_text, tl_mk]
  simp
theorem word_ns {r : FRow} (h1 : nameOk r.1 = true) (h2 : ∀ m, r.2 = some m → nameOk m = true) : ∀ p ∈ wordsOf r, 32 ∉ tl p ∧ 10 ∉ tl p := by
  obtain ⟨n, q⟩ := r
  have nn : ∀ {x : Str}, nameOk x = true → 32 ∉ tl x ∧ 10 ∉ tl x := fun {x} h => ⟨fun z => by have := name_cps h _ z; omega, fun z => by have := name_cps h _ z; omega⟩
  have ha : 32 ∉ tl ("account" : Str) ∧ 10 ∉ tl ("account" : Str) := by rw [acc_tl]; decide
  have hi : 32 ∉ tl ("in" : Str) ∧ 10 ∉ tl ("in" : Str) := by rw [in_tl]; decide
  cases q with
  | none =>
    intro p hp
    simp only [wordsOf, List.mem_cons, List.not_mem_nil, or_false] at hp
    rcases hp with rfl | rfl
    · exact ha
    · exact nn h1
  | some m =>
    intro p hp
    simp only [wordsOf, List.mem_cons, List.not_mem_nil, or_false] at hp
    rcases hp with rfl | rfl | rfl | rfl
    · exact ha
    · exact nn h1
    · exact hi
    · exact nn (h2 _ rfl)
theorem wordsOf_ne (r : FRow) : wordsOf r ≠ [] := by
  obtain ⟨n, q⟩ := r
  cases q <;> simp [wordsOf]
theorem split_line {r : FRow} (h1 : nameOk r.1 = true) (h2 : ∀ m, r.2 = some m → nameOk m = true) : Txt.split (lineOf r) " " = wordsOf r :=
  split_join sp_tl (by decide +kernel) (wordsOf_ne r) fun p hp => (word_ns h1 h2 p hp).1
theorem line_nn {r : FRow} (h1 : nameOk r.1 = true) (h2 : ∀ m, r.2 = some m → nameOk m = true) : 10 ∉ tl (lineOf r) := by
  obtain ⟨n, q⟩ := r
  rw [tl_line]
  have w := word_ns h1 h2
  have a1 : 10 ∉ tl ("account " : Str) := by rw [accs_tl]; decide
  have a2 : 10 ∉ tl (" in " : Str) := by rw [ins_tl]; decide
  cases q with
  | none =>
    have wn := (w n (by simp [wordsOf])).2
    intro z
    rcases List.mem_append.mp (show 10 ∈ tl ("account " : Str) ++ tl n from z) with z | z
    · exact a1 z
    · exact wn z
  | some m =>
    have wn := (w n (by simp [wordsOf])).2
    have wm := (w m (by simp [wordsOf])).2
    intro z
    rcases List.mem_append.mp (show 10 ∈ tl ("account " : Str) ++ (tl n ++ (tl (" in " : Str) ++ tl m)) from z) with z | z
    · exact a1 z
    rcases List.mem_append.mp z with z | z
    · exact wn z
    rcases List.mem_append.mp z with z | z
    · exact a2 z
    · exact wm z
theorem split_text {rs : List FRow} (g : GoodF [] rs) : Txt.split (textOf rs) "\n" = rs.map lineOf ++ [Str.empty] := by
  refine split_join nl_tl (by decide +kernel) (by simp) fun p hp => ?_
  rcases List.mem_append.mp hp with h | h
  · obtain ⟨r, hr, rfl⟩ := List.mem_map.mp h
    obtain ⟨a, b⟩ := good_mem g hr
    exact line_nn a fun m hm => (b m hm).2
  · rw [List.mem_singleton.mp h]
    exact List.not_mem_nil
theorem line_len {r : FRow} (h1 : nameOk r.1 = true) (h2 : ∀ m, r.2 = some m → nameOk m = true) : (lineOf r).length ≤ 30 := by
  obtain ⟨n, q⟩ := r
  have l1 := (name_len h1).2
  have e : (lineOf (n, q)).length = (lineL (n, q)).length := by rw [← tl_line, tl_def, len_cps]
  rw [e]
  have ln : (tl n).length = n.length := len_cps n
  have la : (tl ("account " : Str)).length = 8 := by rw [accs_tl]; rfl
  have li : (tl (" in " : Str)).length = 4 := by rw [ins_tl]; rfl
  have l1 : n.length ≤ 8 := l1
  cases q with
  | none =>
    show (tl ("account " : Str) ++ tl n).length ≤ 30
    rw [List.length_append]
    omega
  | some m =>
    have l2 := (name_len (h2 m rfl)).2
    have lm : (tl m).length = m.length := len_cps m
    show (tl ("account " : Str) ++ (tl n ++ (tl (" in " : Str) ++ tl m))).length ≤ 30
    simp only [List.length_append]
    omega
/-- what a line of these words says -/
def readRow : List Str → Option FRow
  | [a, n] => if a = ("account" : Str) then some (n, none) else none
  | [a, n, i, m] => if a = ("account" : Str) ∧ i = ("in" : Str) then some (n, some m) else none
  | _ => none
theorem read_words (r : FRow) : readRow (wordsOf r) = some r := by
  obtain ⟨n, q⟩ := r
  cases q <;> simp [wordsOf, readRow]
/-- one text, one list of rows -/
theorem text_inj {rs rs' : List FRow} (g : GoodF [] rs) (g' : GoodF [] rs') (h : textOf rs = textOf rs') : rs = rs' := by
  have e := split_text g
  rw [h, split_text g'] at e
  have e2 : rs'.map lineOf = rs.map lineOf := List.append_cancel_right e
  have key : ∀ {rs : List FRow}, (∀ r ∈ rs, nameOk r.1 = true ∧ ∀ m, r.2 = some m → nameOk m = true) → (rs.map lineOf).map (fun l => readRow (Txt.split l " ")) = rs.map some := by
    intro rs hg
    rw [List.map_map]
    refine List.map_congr_left fun r hr => ?_
    obtain ⟨a, b⟩ := hg r hr
    show readRow (Txt.split (lineOf r) " ") = some r
    rw [split_line a b, read_words]
  have gg : ∀ {rs : List FRow}, GoodF [] rs → ∀ r ∈ rs, nameOk r.1 = true ∧ ∀ m, r.2 = some m → nameOk m = true := fun g r hr => ⟨(good_mem g hr).1, fun m hm => ((good_mem g hr).2 m hm).2⟩
  have k1 := key (gg g)
  have k2 := key (gg g')
  rw [e2, k1] at k2
  exact List.map_inj_right (fun _ _ e => Option.some.inj e) |>.mp k2
end Gf

set_option Elab.async false
set_option linter.all false
set_option maxRecDepth 100000
set_option maxHeartbeats 4000000
/-! a caught exception, kept behind its suite -/
namespace Gx
open PySem PySem.Spec PyProof.Rows L2
/-- an exception of the class cls with the dict d, at a -/
def ExK (cls : Value) (d : Option Addr) (a : Addr) : HO := .ext fun h => ∃ (ob : Obj) (fv : Array Value), h.get? a = some ob ∧ Zc cls d ob ∧ ob.data = .fields fv
section
variable {X : Cx} {pins : List (Addr × Obj)} {σ : L2.St} {H : Hp} {s : Shared} {a : Addr} {ob : Obj} {fv : Array Value} {cls : Value} {d : Option Addr}
/-- what stands and is not tracked may be tracked, if it is no part of the frame and was not there at the entry -/
theorem track (J : Inv X pins σ H s) (g : s.heap.get? a = some ob) (z : Zc cls d ob) (df : ob.data = .fields fv) (free : H a = none) (n0 : X.s_0.heap.get? a = none) (nL : a ≠ X.env.locals) (np : ∀ p ∈ X.pn ++ pins, p.1 ≠ a) : Inv X pins σ (upd H a (ExK cls d a)) s := by
  have nc : ∀ x c, X.env.cells.lookup x = some c → c ≠ a := fun x c e q => by
    obtain ⟨v, o', h1, h2⟩ := J.cell x c e
    rw [q, g] at h1
    cases h1
    rw [df] at h2
    cases h2
  have B := J.base
  have far : ∀ b o, X.s_0.heap.get? b = some o → b ≠ a := fun b o e q => by rw [q, n0] at e; cases e
  have ok : ObjOk X.prog X.w (upd H a (ExK cls d a)) s.heap a (ExK cls d a) := ⟨⟨ob, fv, g, z, df⟩, ⟨ob, g⟩, fun h1 h2 ⟨o, v, q, r⟩ k => ⟨o, v, k o q, r⟩⟩
  have U : Un X.fs X.ex X.H_0 (upd H a (ExK cls d a)) X.s_0.heap s.heap :=
    { keep := B.keep, slot := B.slot, there := B.there
      free := fun b o e n x => (upd_ne (far b o e)).trans (B.free b o e n x)
      tups := fun b xs e => (upd_ne (ne_of_none (B.tups b xs e) free)).trans (B.tups b xs e)
      frzs := fun b o u e => (upd_ne (ne_of_none (B.frzs b o u e) free)).trans (B.frzs b o u e)
      tbls := fun b ps e => by
        obtain ⟨more, q⟩ := B.tbls b ps e
        exact ⟨more, (upd_ne (ne_of_none q free)).trans q⟩ }
  exact
    { ok := J.ok, os := J.os, bare := J.bare, base := U, loc := J.loc, cell := J.cell
      free := (upd_ne nL.symm).trans J.free
      freeC := fun x c e => (upd_ne (nc x c e)).trans (J.freeC x c e)
      pin := fun p hp => by
        obtain ⟨p1, p2, p3⟩ := J.pin p hp
        exact ⟨p1, (upd_ne (np p hp)).trans p2, p3⟩
      hok := J.hok.laidN (fun b u q => q) free ok
      len := J.len }
end
/-- the clause 'except x as n: y = n': every exception is caught; y is slot j, n slot i -/
def wKeep (K : PySem.W.Frag) (c : Value) (i j : Nat) (D : Ends) : WX := fun cls d σ H =>
  PySem.W.exmOne K cls c = some true ∧ ∀ a, H a = none → D.nx (((σ.set i (some (.ref a))).set j (some (.ref a))).set i none) (upd H a (ExK cls d a))
section
variable {X : Cx} {x n y : Str} {c : Value} {i j : Nat} {body : List Stmt} {np' py pn' pa pos pos' : Pos} {tb : WX → TS}
theorem ps_try_keep (hs : X.stack = X.env :: X.outer) (hf : X.env.frame = some X.env.locals) (hN : X.N.Nodup) (hi : X.N[i]? = some n) (hj : X.N[j]? = some y) (hln : X.env.kindOf n = some .local) (hly : X.env.kindOf y = some .local) (hc : Names X x c) (hex : X.ex = [])
    (hd : (n == ("__debug__" : Str)) = false := by decide) (hcd : (n == ("__classdict__" : Str)) = false := by decide)
    (hsw : swapsWith (.Name n pn') (some (.Name y py)) pa.line X.env = pure false := by rfl)
    (hb : ∀ (W : WX) (pn : List (Addr × Obj)) (xe : Value → Shared → Prop), Takes (X.tr pn xe) W → PassesOwn (model X.prog X.w) X.A X.env xe → PSs (X.tr pn xe) body (tb W)) :
    PS X (.Try body [.ExceptHandler (some (.Name x np')) (some n) [.Assign [.Name y py] (.Name n pn') pa] pos'] [] [] pos) (fun D σ H => tb (wKeep X.K c i j D) D σ H) := by
  refine ⟨fun pins s σ H D I h => wpAny_Try_except ?_⟩
  have fr1 : X.A.frames = some (X.env :: X.outer) := I.ok.frames.trans (congrArg some hs)
  refine wpAny_mono ((hb (wKeep X.K c i j D) (X.pn ++ pins) _ (fun u s' caught => ?_) PassesOwn.looking).run [] s σ H D (I.toTry _) h) (fun f s1 done => ?_) (fun _ _ z => z)
  · obtain ⟨a, B, sI, ps, σ1, H1, cls, dct, ue, I1, ground, slots, sky, fresh, osEq, bare1, mt, next⟩ := caught
    cases ue
    have I2 : Inv X pins σ1 H1 sI := I1.ofTry I.ok
    rw [hs] at sky ground
    refine Sky.land Zc.steady fr1 hf sky fun hA flA upA => ?_
    have IA : Inv X pins σ1 H1 { s' with heap := hA } := I2.landed (by rw [hs]; exact ground) flA.1 (slots.trans upA) osEq bare1
    obtain ⟨ob, fv, gA, zA, dA⟩ := flA.there
    have noFrame : a ∉ frs (X.env :: X.outer) := fun m => by
      obtain ⟨_, o', e', nf⟩ := flA.2.2.1.mem m
      rw [gA] at e'
      cases e'
      exact nf _ dA
    have notLoc : a ≠ X.env.locals := fun q => noFrame (List.mem_filterMap.mpr ⟨X.env, List.mem_cons_self, by rw [hf, q]⟩)
    have notFs : a ∉ X.fs := fun m => by
      obtain ⟨ev, m1, m2⟩ := List.mem_filterMap.mp m
      exact noFrame (List.mem_filterMap.mpr ⟨ev, List.mem_cons_of_mem _ m1, m2⟩)
    have groundA : B.get? a = none := flA.2.1
    -- nothing of before is at a
    have before : ∀ b o, sI.heap.get? b = some o → b ≠ a := fun b o e q => by
      rw [q] at e
      have := ground a o e noFrame
      rw [groundA] at this
      cases this
    have n0 : X.s_0.heap.get? a = none := by
      cases e : X.s_0.heap.get? a with
      | none => rfl
      | some o =>
        obtain ⟨o', e'⟩ := I2.base.there a o e (by rw [hex]; exact List.not_mem_nil)
        exact absurd rfl (before a o' e')
    have np : ∀ p ∈ X.pn ++ pins, p.1 ≠ a := fun p hp => before p.1 p.2 (I2.pin p hp).1
    refine wpAny_handleBy_cons (codeAny_handlers_test ?_) (by intro q; cases q)
    have SA := IA.suite gA dA fresh notLoc notFs
    have kind : PySem.W.Looks (model X.prog X.w) hA (typeOf (.ref a)) cls := fun A Q E s k q => wpAny_typeOf_ref (k _ _ gA) (by rw [zA.1]; exact q)
    have named : ∀ {Q : Value → Shared → Prop} {E : Value → Shared → Prop}, Q c { s' with heap := hA } → wpAny (model X.prog X.w) (X.A.mark (some (.ref a))) (eval (.Name x np') X.env) Q E { s' with heap := hA } := fun {Q E} q => by
      obtain ⟨m1, m2, m3⟩ := hc
      rcases m3 with m3 | ⟨m3, m4, m5⟩
      · exact ld_glob (X := X.suite a ((a, ob) :: (X.pn ++ pins))) SA m1 m3 q m2
      · exact ld_blt (X := X.suite a ((a, ob) :: (X.pn ++ pins))) SA m1 m3 m4 q m5 m2
    refine named ((PySem.W.exm_one (M := model X.prog X.w) IA.kIn kind mt).here ?_)
    refine codeAny_handlers_suite_as (HandSPX.lands_againZ flA fun hB flB upB => ?_)
    have IB : Inv X pins σ1 H1 { s' with heap := hB } := I2.landed (by rw [hs]; exact ground) flB.1 ((slots.trans upA).trans upB) osEq bare1
    obtain ⟨ob2, fv2, gB, zB, dB⟩ := flB.there
    have SB := IB.suite gB dB fresh notLoc notFs
    refine store_ok (X := X.suite a ((a, ob2) :: (X.pn ++ pins))) (v := .ref a) SB hN hi (.inl hln) rfl (fun s3 S3 => ?_) (.inr hln)
    have set2 : PS (X.suite a ((a, ob2) :: (X.pn ++ pins))) (.Assign [.Name y py] (.Name n pn') pa) (tAsg (tVar i) (gName j)) := ps_set hN hj (.inl hly) (pe_var hi (.inl hln) hd hcd) hsw (.inr hly)
    have goal1 : (tAsg (tVar i) (gName j)) { nx := fun σ' H' => σ' = (σ1.set i (some (.ref a))).set j (some (.ref a)) ∧ H' = H1, rt := fun _ _ => False, bk := fun _ _ => False, ct := fun _ _ => False } (σ1.set i (some (.ref a))) H1 := by
      have hlen : i < σ1.length := by
        rw [I2.len]
        exact (List.getElem?_eq_some_iff.mp hi).1
      exact ⟨_, List.getElem?_set_self hlen, rfl, rfl⟩
    have run1 := (pss_one set2).run [] s3 _ H1 _ S3 goal1
    refine wpAny_mono run1 (fun f s4 q => ?_) (fun _ _ z => False.elim z)
    cases f with
    | next =>
      obtain ⟨σ4, H4, S4, e1, e2⟩ := q
      rw [e1, e2] at S4
      refine gone_ok (X := X.suite a ((a, ob2) :: (X.pn ++ pins))) S4 hN hi hln fun s5 S5 => ?_
      have pin5 := S5.pin (a, ob2) (List.mem_append_left _ List.mem_cons_self)
      have J5 : Inv X pins (((σ1.set i (some (.ref a))).set j (some (.ref a))).set i none) H1 s5 := S5.unsuite I.ok
      exact ⟨_, _, track J5 pin5.1 zB dB fresh n0 notLoc np, next a fresh⟩
    | brk =>
      obtain ⟨_, _, _, z⟩ := q
      exact False.elim z
    | cont =>
      obtain ⟨_, _, _, z⟩ := q
      exact False.elim z
    | ret u =>
      obtain ⟨_, _, _, _, _, z⟩ := q
      exact False.elim z
  · cases f with
    | next =>
      obtain ⟨σ2, H2, J, q⟩ := done
      exact wpAny_execs_nil ⟨σ2, H2, J.ofTry I.ok, q⟩
    | brk =>
      obtain ⟨σ2, H2, J, q⟩ := done
      exact ⟨σ2, H2, J.ofTry I.ok, q⟩
    | cont =>
      obtain ⟨σ2, H2, J, q⟩ := done
      exact ⟨σ2, H2, J.ofTry I.ok, q⟩
    | ret u =>
      obtain ⟨v, σ2, H2, J, r, q⟩ := done
      exact ⟨v, σ2, H2, J.ofTry I.ok, r, q⟩
end
/-! isinstance and a field of it -/
section
variable {X : Cx} {pins : List (Addr × Obj)} {σ : L2.St} {H : Hp} {s : Shared} {a D : Addr} {d : Option Addr}
/-- its own dict, where it has one -/
def DicAt (H : Hp) : Option Addr → Prop
  | none => True
  | some dd => ∃ fs, H dd = some (.xd fs)
theorem inst_of (I : Inv X pins σ H s) (e : H a = some (ExK (.ref D) d a)) (k : DicAt H d) : ∃ ob od, PySem.W.InstAt s.heap a ob D od := by
  obtain ⟨⟨ob, fv, g, z, df⟩, _⟩ := I.hok a _ e
  have nc : PySem.W.notCls ob := by
    unfold PySem.W.notCls
    rw [df]
  cases d with
  | none => exact ⟨ob, none, g, z.1, nc, by rw [z.2]; exact True.intro⟩
  | some dd =>
    obtain ⟨fs, hd⟩ := k
    obtain ⟨mA, hns, _⟩ := (show ObjOk X.prog X.w H s.heap dd (.xd fs) from I.hok dd _ hd)
    obtain ⟨o, ho, _⟩ := lookIn_ns hns
    exact ⟨ob, some o, g, z.1, nc, by rw [z.2]; exact ho⟩
theorem kit_exc (T : ExcC X.K D) {ob : Obj} {od : Option Obj} : PySem.W.KitX X.K (.ref a) (.ref D) (fun h => PySem.W.InstAt h a ob D od) := by
  refine PySem.W.kitx_exc ?_ T.hg T.hk T.hs T.ha T.hn T.ht T.hm
  obtain ⟨cd, h, _⟩ := PySem.W.any_some T.hd
  rw [h]
  rfl
/-- isinstance(e, c), e a kept exception -/
def rIsX (K : PySem.W.Frag) : List V → Hp → VK → Prop := fun xs H Q => ∃ (a D : Addr) (d : Option Addr) (c : V) (u : Value) (b : Bool), xs = [.ref a, c] ∧ H a = some (ExK (.ref D) d a) ∧ DicAt H d ∧ ExcC K D ∧ ClsV c u ∧ PySem.W.kitOne K (.ref D) u = some b ∧ Q (.bl b) H
theorem call_isX : CallR X (.builtin "isinstance") (rIsX X.K) := by
  intro pins s σ H xs us Q I r h
  obtain ⟨a, D, d, c, u, b, rfl, e, k, T, cv, kb, q⟩ := h
  obtain ⟨u1, u2, rfl, r1, r2⟩ := vals2 r
  obtain rfl := cv.eq r2
  cases (show u1 = Value.ref a from r1)
  obtain ⟨ob, od, J⟩ := inst_of I e k
  exact PySem.W.kia_one (kit_exc T) I.kIn J kb (fun z => nomatch z) fun tk => ⟨.bl b, H, I.tok tk, rfl, q⟩
/-- isinstance(e, (c, ..)) -/
def rIsXT (K : PySem.W.Frag) : List V → Hp → VK → Prop := fun xs H Q => ∃ (a D : Addr) (d : Option Addr) (tp : Addr) (cs : List V) (us : List Value) (b : Bool), xs = [.ref a, .ref tp] ∧ H a = some (ExK (.ref D) d a) ∧ DicAt H d ∧ ExcC K D ∧ H tp = some (.tup cs) ∧ Paired ClsV cs us ∧ PySem.W.kitAny K (.ref D) us = some b ∧ Q (.bl b) H
theorem call_isXT : CallR X (.builtin "isinstance") (rIsXT X.K) := by
  intro pins s σ H xs us Q I r h
  obtain ⟨a, D, d, tp, cs, ws, b, rfl, e, k, T, ht, cv, kb, q⟩ := h
  obtain ⟨u1, u2, rfl, r1, r2⟩ := vals2 r
  cases (show u1 = Value.ref a from r1)
  cases (show u2 = Value.ref tp from r2)
  obtain ⟨ob, od, J⟩ := inst_of I e k
  obtain ⟨_, its, rv, o, h1, h2, n, h3⟩ := (show ObjOk X.prog X.w H s.heap tp (.tup cs) from I.hok tp _ ht)
  obtain rfl := ClsV.all cv rv
  obtain ⟨oc, od', dt, sl⟩ := o
  dsimp only at h2 h3
  rw [h2, h3] at h1
  exact PySem.W.kia_tup (kit_exc T) I.kIn J h1 kb (fun z => nomatch z) fun tk => ⟨.bl b, H, I.tok tk, rfl, q⟩
/-- e.f, e a kept exception of an own class -/
def tXk (K : PySem.W.Frag) (te : TE) (f : Str) : TE := fun σ H Q => te σ H fun x H1 => ∃ (a C dd : Addr) (fs : List (Str × V)) (v : V), x = .ref a ∧ H1 a = some (ExK (.ref C) (some dd) a) ∧ H1 dd = some (.xd fs) ∧ XfC K C ∧ PySem.W.findIn K (.ref C) f = some none ∧ fs.lookup f = some v ∧ Q v H1
theorem pe_xk {e : Expr} {te : TE} {pos : Pos} {f : Str} (he : PE X e te) (hb : attributeBase e f X.env (eval e X.env) = eval e X.env := by rfl) : PE X (.Attribute e f pos) (tXk X.K te f) := by
  refine ⟨fun pins s σ H Q I h => attr_of hb (thn (he.run pins s σ H _ I h) fun u s1 hu => ?_)⟩
  obtain ⟨x, H1, I1, rx, a, C, dd, fs, v, rfl, ea, ed, T, nf, lf, q⟩ := hu
  cases (show u = Value.ref a from rx)
  obtain ⟨⟨ob, fv, g, z, df⟩, _⟩ := I1.hok a _ ea
  obtain ⟨mA, hns, rl⟩ := (show ObjOk X.prog X.w H1 s1.heap dd (.xd fs) from I1.hok dd _ ed)
  obtain ⟨o, ho, look⟩ := lookIn_ns hns
  obtain ⟨w, hw, rw'⟩ := RelO.some_of (v := v) (o := mA f) (by rw [← lf]; exact rl f)
  have J : PySem.W.InstAt s1.heap a ob C (some o) := ⟨g, z.1, by unfold PySem.W.notCls; rw [df], by rw [z.2]; exact ho⟩
  exact HandSPX.exc_get I1.kIn J T.ga T.gg T.exC (PySem.W.findObj_own T.hdC nf rfl (by rw [look, hw])) (handed_of rw') ⟨v, H1, I1.tok _, rw', q⟩
end
/-! C.m(e, ..), m static, in a try's body -/
section
variable {X : Cx} {CX : CXT} {k : Nat} {C g p : Addr} {mc : Value} {fd : FuncData} {ps : List Str} {sp : Sp} {E : L2.St → XK} {o e : Expr} {es : List Expr} {m : Str} {pos apos : Pos} {ta : TE} {t : TA} {pl : Sem Bool}
def tSMethS (C : Addr) (sp : Sp) (E : L2.St → XK) (ta : TE) (t : TA) : TE := fun σ H Q => ta σ H fun x H1 => x = .ref C ∧ t σ H1 fun vs H2 => sp vs H2 Q (E σ)
theorem pe_smethS (he : PE X o ta) (r : ClX.CRead X.K C mc) (c : Go.SMet X.K C mc m p g) (hk : PySem.W.keepIn X.K (.ref g) = true) (F : FnOk X.prog X.w X.K X.mg X.base CX k g fd ps sp) (hr : Room k X.A) (hb : Binds X.K fd ps []) (hx : ∀ σ, PassesAt CX X σ (E σ)) (ha : PA X (e :: es) t)
    (hst : starEach (e :: es) X.env = (false, eval e X.env) :: starEach es X.env := by rfl) (hpl : (backTo pos (starEach es X.env)).any (·.1) = false := by rfl)
    (ht : eval (.Call (.Attribute o m apos) (e :: es) [] pos) X.env = (do
      let ov ← eval o X.env
      standAt apos.atName
      let (f, first) ← holding [ov] (getMethod ov m pl)
      callWith pos f first (backTo pos (starEach (e :: es) X.env)) (backToKw pos (keywordEach [] X.env))) := by rfl) :
    PE X (.Call (.Attribute o m apos) (e :: es) [] pos) (tSMethS C sp E ta t) := by
  refine ⟨fun pins s σ H Q I h => PySem.W.methodCall_KW (pl := pl) (thn (he.run pins s σ H _ I h) fun u s1 hu => ?_) ht⟩
  obtain ⟨x, H1, I1, rx, rfl, q⟩ := hu
  cases (show u = Value.ref C from rx)
  refine Go.getsm_ok I1 r c fun s2 I2 => PySem.W.callWith_K (first := []) (h₀ := X.base) I2.ok.mod.kin hk (thn (ha.run pos pins s2 σ H1 _ I2 q) fun us s3 hv => ?_) hst hpl
  obtain ⟨vs, H2, I3, rv, q2⟩ := hv
  exact ⟨I3.kIn, run_fnS (us := us) (vs := vs) F hr hb (hx σ) I3 rv q2⟩
end
end Gx

set_option Elab.async false
set_option linter.all false
set_option maxRecDepth 100000
set_option maxHeartbeats 4000000
/-! zip(a tuple, a list) -/
namespace Gz
open PySem PySem.Spec PyProof.Rows L2
/-- the tuple at a and the list at b, item by item, each pair new -/
def ItzM (K : PySem.W.Frag) (a b : Addr) : It where
  go := fun i H => ∃ (xs ys : List V) (x y : V), SqT K H a xs ∧ SqL K H b ys ∧ xs[i]? = some x ∧ ys[i]? = some y
  yld := fun i H v H' => ∃ (T : Addr) (x y : V), v = .ref T ∧ H T = none ∧ H' = upd H T (.tup [x, y]) ∧ (∀ xs, SqT K H a xs → xs[i]? = some x) ∧ ∀ ys, SqL K H b ys → ys[i]? = some y
  stop := fun i H => ∃ xs ys : List V, SqT K H a xs ∧ SqL K H b ys ∧ i ≤ xs.length ∧ i ≤ ys.length ∧ (i = xs.length ∨ i = ys.length)
/-- what stands while the zip at N + 4 is walked -/
def At (N a b : Addr) (i : Nat) (h : Heap) : Prop :=
  IsZip h (N + 4) (N + 2) (N + 3) .none ∧ IsTupOf2 h (N + 2) (.ref N) (.ref (N + 1)) ∧ (∃ u v, IsTupOf2 h (N + 3) u v) ∧ h.IsTupleIter N a i ∧ h.IsListIter (N + 1) b i
theorem nk {N k l : Nat} (h : k ≠ l) : N + k ≠ N + l := fun e => h (Nat.add_left_cancel e)
theorem nz {N k : Nat} (h : 0 < k) : N + k ≠ N := Nat.ne_of_gt (Nat.lt_add_of_pos_right h)
theorem sep {N a b : Nat} (ha : a < N) (hb : b < N) : ZipSep2 (N + 4) (N + 2) (N + 3) N (N + 1) [N, a] [N + 1, b] := by
  have no : ∀ {c x y : Nat}, c ≠ x → c ≠ y → c ∉ [x, y] := by
    intro c x y h1 h2 h
    rcases List.mem_cons.mp h with h | h
    · exact h1 h
    · exact h2 (List.mem_singleton.mp h)
  have n1 : ∀ {k l : Nat}, k ≠ l → N + k ≠ N + l := fun h e => h (Nat.add_left_cancel e)
  have n0 : ∀ {k : Nat}, 0 < k → N + k ≠ N := fun h => Nat.ne_of_gt (Nat.lt_add_of_pos_right h)
  have na : ∀ {k : Nat}, N + k ≠ a := fun {k} => Nat.ne_of_gt (Nat.lt_of_lt_of_le ha (Nat.le_add_right _ _))
  have nb : ∀ {k : Nat}, N + k ≠ b := fun {k} => Nat.ne_of_gt (Nat.lt_of_lt_of_le hb (Nat.le_add_right _ _))
  exact ⟨n1 (by decide), n1 (by decide), n1 (by decide), n0 (by decide), List.mem_cons_self, no (n0 (by decide)) na, no (n0 (by decide)) na, n1 (by decide), List.mem_cons_self, no (n1 (by decide)) nb, no (n1 (by decide)) nb,
    no (n0 (by decide)).symm (Nat.ne_of_gt hb), no (n0 (by decide)) na⟩
theorem turn_m {P : Program} {w : World} {K : PySem.W.Frag} {elts : List Expr} {kk : Nat} {tpos : Pos} {N a b : Addr} (ha : a < N) (hb : b < N) :
    Turn P w K (.Tuple elts kk tpos) (ItzM K a b) [N + 4, N + 2, N + 3, N, N + 1] (N + 4) (At N a b) := by
  have five : ∀ {c : Addr}, c ∈ [N + 4, N + 2, N + 3, N, N + 1] → c = N + 4 ∨ c = N + 2 ∨ c = N + 3 ∨ c = N ∨ c = N + 1 := fun {c} h => by simpa using h
  refine ⟨by simp, fun i h st c hc => ?_, fun i h h' st k => ?_, ?_, ?_, fun A i s Q E st q => wpAny_pyIter_zip st.1 q⟩
  · obtain ⟨s1, s2, ⟨u, v, s3⟩, ⟨o4, s4, _, d4⟩, ⟨o5, s5, _, d5⟩⟩ := st
    rcases five hc with rfl | rfl | rfl | rfl | rfl
    · exact ⟨_, s1, fun v q => nomatch q⟩
    · exact ⟨_, s2, fun v q => nomatch q⟩
    · exact ⟨_, s3, fun v q => nomatch q⟩
    · exact ⟨o4, s4, fun v q => by rw [d4] at q; cases q⟩
    · exact ⟨o5, s5, fun v q => by rw [d5] at q; cases q⟩
  · obtain ⟨s1, s2, ⟨u, v, s3⟩, s4, s5⟩ := st
    exact ⟨k _ (by simp) _ s1, k _ (by simp) _ s2, ⟨u, v, k _ (by simp) _ s3⟩, s4.at fun o q => k _ (by simp) o q, s5.at fun o q => k _ (by simp) o q⟩
  · intro X hP hw hK hc i pins s σ H E I hf st go
    subst hP hw hK
    obtain ⟨s1, s2, ⟨u0, v0, s3⟩, s4, s5⟩ := st
    obtain ⟨xs, ys, x, y, qx, qy, ex, ey⟩ := go
    obtain ⟨ts, rt, pt, _⟩ := I.tuple qx
    obtain ⟨ls, rl, pl, _⟩ := I.list qy
    obtain ⟨u, hu, ru⟩ := rt.get ex
    obtain ⟨v, hv, rv⟩ := rl.get ey
    have hh : X.A.in1.handled = none := I.ok.hd hc
    have il : i < ts.toArray.size := by
      have := (List.getElem?_eq_some_iff.mp hu).1
      simpa using this
    have il2 : i < ls.toArray.size := by
      have := (List.getElem?_eq_some_iff.mp hv).1
      simpa using this
    have hN : N + 4 < s.heap.objs.size := Heap.lt_size s1
    refine wpAny_pyNext_zipD2_item (sep ha hb) (Draws.tuple hh N a (Nat.ne_of_lt ha) ts.toArray) (Draws.list hh (N + 1) b (Nat.ne_of_lt (Nat.lt_succ_of_lt hb)) ls.toArray) s1 s2 s3 ⟨s4, pt⟩ ⟨s5, pl.isList⟩ il il2 fun x1 x2 h' tk g1 g2 z1 t1 st1 st2 new size keep => ?_
    have e1 : x1 = u := by
      have g1 : ts.toArray[i]? = some x1 := g1
      rw [List.getElem?_toArray, hu] at g1
      exact (Option.some.inj g1).symm
    have e2 : x2 = v := by
      have g2 : ls.toArray[i]? = some x2 := g2
      rw [List.getElem?_toArray, hv] at g2
      exact (Option.some.inj g2).symm
    subst e1 e2
    refine ⟨_, rfl, wpAny_letOwnedTupleGo_zip (s := { s with heap := h', toks := tk }) z1 fun h2 z2 same => ?_⟩
    have far : ∀ {c : Addr} {o : Obj}, c ≠ N + 4 → h'.get? c = some o → h2.get? c = some o := fun {c o} n q => (same.2 c n).trans q
    have new2 : h2.get? s.heap.objs.size = some { cls := .type "tuple", data := .seq #[x1, x2] } := far (Nat.ne_of_gt hN) new
    have ok : ObjOk X.prog X.w (upd H s.heap.objs.size (.tup [x, y])) h2 s.heap.objs.size (.tup [x, y]) := ⟨by show 2 ≤ sizeLine; decide, [x1, x2], .cons ru (.cons rv .nil), ⟨_, new2, rfl, _, rfl⟩⟩
    have stay : ∀ c o, c ∉ [N + 4, N + 2, N + 3, N, N + 1] → s.heap.get? c = some o → h2.get? c = some o := fun c o n q => by
      have m : ∀ {e : Addr}, e ∈ [N + 4, N + 2, N + 3, N, N + 1] → c ≠ e := fun {e} h z => n (z ▸ h)
      exact far (m (by simp)) (keep c o (m (by simp)) (m (by simp)) (m (by simp)) (m (by simp)) q)
    have J := I.turnedNew (t' := tk) (ch := [N + 4, N + 2, N + 3, N, N + 1]) stay hf (Nat.le_refl _) ok
    refine ⟨.ref s.heap.objs.size, _, J, rfl, ⟨_, x, y, rfl, I.hok.fresh (Nat.le_refl _), rfl, fun l hl => by rw [I.tuple_inj hl qx]; exact ex, fun l hl => by rw [I.list_inj hl qy]; exact ey⟩, ?_, fun c hc' => ?_⟩
    · refine ⟨z2, far (nk (by decide)) (keep _ _ (nk (by decide)) (nk (by decide)) (nz (by decide)) (nk (by decide)) s2), ⟨x1, x2, far (nk (by decide)) t1⟩, st1.1.at fun o q => far (nz (by decide)).symm q, st2.1.at fun o q => far (nk (by decide)) q⟩
    · have lt : c < s.heap.objs.size := by
        rcases five hc' with rfl | rfl | rfl | rfl | rfl
        · exact hN
        · exact Nat.lt_of_le_of_lt (Nat.add_le_add_left (by decide) N) hN
        · exact Nat.lt_of_le_of_lt (Nat.add_le_add_left (by decide) N) hN
        · exact Nat.lt_of_le_of_lt (Nat.le_add_right _ _) hN
        · exact Nat.lt_of_le_of_lt (Nat.add_le_add_left (by decide) N) hN
      rw [upd_ne (Nat.ne_of_lt lt)]
      exact (hf c hc').1
  · intro X hP hw hK hc i pins s σ H E I hf st stop
    subst hP hw hK
    obtain ⟨s1, s2, ⟨u0, v0, s3⟩, s4, s5⟩ := st
    obtain ⟨xs, ys, qx, qy, h1, h2, e⟩ := stop
    obtain ⟨ts, rt, pt, _⟩ := I.tuple qx
    obtain ⟨ls, rl, pl, _⟩ := I.list qy
    have hh : X.A.in1.handled = none := I.ok.hd hc
    have l1 : ts.toArray.size = xs.length := by simpa using rt.length.symm
    have l2 : ls.toArray.size = ys.length := by simpa using rl.length.symm
    refine wpAny_pyNext_zipD2_end (sep ha hb) (Draws.tuple hh N a (Nat.ne_of_lt ha) ts.toArray) (Draws.list hh (N + 1) b (Nat.ne_of_lt (Nat.lt_succ_of_lt hb)) ls.toArray) s1 s2 s3 ⟨s4, pt⟩ ⟨s5, pl.isList⟩ (by rw [l1]; exact h1) (by rw [l2]; exact h2) (by rw [l1, l2]; exact e) fun h' tk keep => ?_
    refine ⟨rfl, I.turnedL (t' := tk) (ch := [N + 4, N + 2, N + 3, N, N + 1]) (fun c o n q => ?_) hf⟩
    have m : ∀ {e : Addr}, e ∈ [N + 4, N + 2, N + 3, N, N + 1] → c ≠ e := fun {e} h z => n (z ▸ h)
    exact keep c o (m (by simp)) (m (by simp)) (m (by simp)) (m (by simp)) q
/-- zip(t, l), t a tuple and l a list -/
def iZipM (K : PySem.W.Frag) (ta : TA) : TI := fun σ H R => ta σ H fun vs H1 => ∃ (a b : Addr) (xs ys : List V), vs = [.ref a, .ref b] ∧ SqT K H1 a xs ∧ SqL K H1 b ys ∧ R (ItzM K a b) H1
theorem pi_zipM {X : Cx} {e e2 : Expr} {ta : TA} {p pos tpos : Pos} {elts : List Expr} {kk : Nat} (hg : Gl X "zip") (hm : X.mg "zip" = none) (ha : PA X [e, e2] ta)
    (hs : starEach [e, e2] X.env = (false, eval e X.env) :: starEach [e2] X.env := by rfl) (hpl : (backTo pos (starEach [e2] X.env)).any (·.1) = false := by rfl) :
    PI X (.Tuple elts kk tpos) (.Call (.Name "zip" p) [e, e2] [] pos) (iZipM X.K ta) := by
  refine ⟨fun pins s σ H R I h => Call_ (ld_blt I hg hm PyProof.Rows.boot_zip (PyProof.Rows.callWith_type1 (thn (ha.run pos pins s σ H _ I h) fun us s1 hu => ?_) hs hpl))⟩
  obtain ⟨vs, H1, I1, r1, a, b, xs, ys, rfl, qx, qy, q⟩ := hu
  obtain ⟨u1, u2, rfl, ra, rb⟩ := vals2 r1
  cases (show u1 = Value.ref a from ra)
  cases (show u2 = Value.ref b from rb)
  obtain ⟨ts, rt, pt, _⟩ := I1.tuple qx
  obtain ⟨ls, rl, pl, _⟩ := I1.list qy
  have la : a < s1.heap.objs.size := by
    obtain ⟨o, ho, _⟩ := pt
    exact Heap.lt_size ho
  have lb : b < s1.heap.objs.size := pl.lt
  refine zip_begins2 (begins_tuple a ts.toArray) (begins_list b ls.toArray) pt pl.isList fun h' z1 z2 z3 g1 g2 size keep => wpAny_pyIter_zip z1 ?_
  have I2 : Inv X pins σ H1 { s1 with heap := h' } := I1.kept (t' := s1.toks) keep
  refine ⟨s1.heap.objs.size + 4, _, At s1.heap.objs.size a b, ItzM X.K a b, H1, rfl, I2, turn_m la lb, ⟨z1, z2, ⟨_, _, z3⟩, ⟨_, g1, rfl, rfl⟩, ⟨_, g2, rfl, rfl⟩⟩, fun c hc => ?_, q⟩
  have le : s1.heap.objs.size ≤ c := by
    have hc : c = s1.heap.objs.size + 4 ∨ c = s1.heap.objs.size + 2 ∨ c = s1.heap.objs.size + 3 ∨ c = s1.heap.objs.size ∨ c = s1.heap.objs.size + 1 := by simpa using hc
    rcases hc with rfl | rfl | rfl | rfl | rfl
    · exact Nat.le_add_right _ _
    · exact Nat.le_add_right _ _
    · exact Nat.le_add_right _ _
    · exact Nat.le_refl _
    · exact Nat.le_add_right _ _
  exact I1.fpOk le (I1.hok.fresh le)
theorem walk_zipM {K : PySem.W.Frag} {a b : Addr} {xs ys : List V} {n : Nat} (hx : xs.length = n) (hy : ys.length = n) : Walk (ItzM K a b) n (fun H => SqT K H a xs ∧ SqL K H b ys) (YPair (fun i => xs[i]?) (fun i => ys[i]?)) := by
  refine ⟨fun i H hi q => ?_, fun H q => ⟨xs, ys, q.1, q.2, by omega, by omega, .inl (by omega)⟩, fun i H v H' _ q y => ?_⟩
  · have h1 : i < xs.length := by omega
    have h2 : i < ys.length := by omega
    exact ⟨xs, ys, xs[i], ys[i], q.1, q.2, by simp [h1], by simp [h2]⟩
  · obtain ⟨T, x, z, e1, e2, e3, e4, e5⟩ := y
    exact ⟨T, x, z, e1, e2, e3, e4 xs q.1, e5 ys q.2⟩
end Gz

set_option Elab.async false
set_option linter.all false
set_option maxRecDepth 100000
set_option maxHeartbeats 4000000
namespace Lw
open PySem PySem.Spec PyProof.Rows L2 Gn
def top (i : Nat) : Stmt := PySem.Challenge.pw_hearpurse_k04_texts_spoilt.main.body.getD i (.Pass ⟨0, 0, 0, 0⟩)
abbrev sBegun : Stmt := top 17
abbrev sMixed : Stmt := top 18
abbrev sTake : Stmt := top 19
abbrev sPick : Stmt := top 20
section
variable {P : Program} {w : World} {K : PySem.W.Frag} {mg : Str → Option Value} {base : Heap}
/-! ### _law_mixed -/
def spMixed (ns : List Int) : Sp := fun vs H Q _ => ∃ (d g c : Addr) (b : Nat), vs = [.ref d] ∧ Dw ns d g c b H ∧ b ≤ 1000000000 ∧
  ∀ (r : Int) (H' : Hp), Dw ns d g c (b + 1) H' → Kp d g H H' → Q (.int r) H'
theorem scMixed : FnScope ["_law_state", "_law_found", "_law_prime", "_law_blend", "_law_cell"] ["_law_state"] (defScope sMixed) := ⟨rfl, rfl, rfl, by decide +kernel, rfl, by decide +kernel, by decide +kernel⟩
def primes : List Int := [2147483629, 2147483587, 2147483579, 2147483563, 2147483549, 2147483543]
theorem prime_of {p : Int} (h : p ∈ primes) : 2000000000 < p ∧ p < 2147483648 := by
  unfold primes at h
  simp only [List.mem_cons, List.not_mem_nil, or_false] at h
  omega
theorem ok_mixed {f : Addr} {fd : FuncData} (ns : List Int) (F : Fun K "_law_mixed" "_law_mixed" sMixed f fd) : FnOk P w K mg base CX0 1 f fd ["_law_state"] (spMixed ns) := by
  refine F.ok scMixed (fun vs H Q E h => ?_) (fun cdv A outer s H vs Q E hr h => ?_)
  · obtain ⟨d, g, c, b, rfl, _⟩ := h
    rfl
  · obtain ⟨d, g, c, b, rfl, D, hb, k⟩ := h
    have hu := hu_of hr
    have nd := scMixed.nd
    refine ⟨_, pss_cons (ps_dput hu (pv 0) pe_str (pe_op op_add (pe_dget hu (pv 0) pe_str (fun _ _ => rfl)) pe_int) rfl)
      (pss_cons (ps_set (i := 1) nd rfl (.inl rfl) pe_int)
      (pss_cons (ps_for PassesOwn.never rfl (pi_list (pe_lst (pa_cons pe_int (pa_cons pe_int (pa_cons pe_int (pa_cons pe_int (pa_cons pe_int (pa_cons pe_int pa_nil)))))))) (pg_name (i := 2) nd rfl (.inl rfl))
        (pss_cons (ps_set (i := 3) nd rfl (.inl rfl) (pe_op op_add (pe_op op_mul pe_int (pe_dget hu (pv 0) pe_str (fun _ _ => rfl))) (pe_op op_fdivN (pv 2) pe_int)))
        (pss_cons (ps_for PassesOwn.never rfl (pi_list (pe_dget hu (pv 0) pe_str (fun _ _ => rfl))) (pg_name (i := 4) nd rfl (.inl rfl))
          (pss_one (ps_set (i := 3) nd rfl (.inl rfl) (pe_op op_modN (pe_op op_add (pe_op op_mul (pv 3) pe_int) (pv 4)) (pv 2)))))
        (pss_one (ps_set (i := 1) nd rfl (.inl rfl) (pe_op op_add (pe_op op_mul (pv 1) pe_int) (pe_op op_modN (pe_op op_pow (pv 3) pe_int) (pv 2))))))))
      (pss_one (ps_ret (pv 1))))), ?_⟩
    obtain ⟨⟨gs, l, t, hd, hg, t0, tb⟩, hc, ncd, ncg⟩ := id D
    have ndg : g ≠ d := ne_of hg hd (by intro z; cases z)
    refine ⟨_, rfl, d, _, rfl, get_t hd, t, 1, rfl, rfl, _, rfl, d, _, rfl, put_t hd, ?_⟩
    generalize hH1 : upd H d (.dK (dk g c l (t + 1))) = H1
    have hd1 : H1 d = some (.dK (dk g c l (t + 1))) := by rw [← hH1, upd_same]
    have hg1 : H1 g = some (.lst (gs.map V.int)) := by rw [← hH1, upd_ne ndg]; exact hg
    have hc1 : H1 c = some (.lst (ns.map V.int)) := by rw [← hH1, upd_ne ncd]; exact hc
    have k1 : Kp d g H H1 := by rw [← hH1]; exact Kp.at_d
    refine ⟨by show 6 ≤ sizeLine; decide, fun p hp => ?_⟩
    have hd2 := new_same (o := .lst (primes.map V.int)) hp _ _ hd1
    have hg2 := new_same (o := .lst (primes.map V.int)) hp _ _ hg1
    have hc2 := new_same (o := .lst (primes.map V.int)) hp _ _ hc1
    refine ⟨p, rfl, ⟨_, SqL.of upd_same⟩, for_list (K := K) (a := p) (xs := primes.map V.int) (fun i σ H' => H' = upd H1 p (.lst (primes.map V.int)) ∧ ∃ (f : Int) (v2 v3 v4 : Option V), σ = [some (.ref d), some (.int f), v2, v3, v4])
      ⟨rfl, 0, none, none, none, rfl⟩ (fun i σ H' _ ⟨e, _⟩ => by rw [e]; exact SqL.of upd_same) ?_ ?_⟩
    · rintro i x σ H' hx ⟨rfl, f, v2, v3, v4, rfl⟩
      obtain ⟨pr, hpr, rfl⟩ : ∃ z : Int, z ∈ primes ∧ x = V.int z := by
        obtain ⟨z, hz, e⟩ := List.mem_map.mp (List.mem_of_getElem? hx)
        exact ⟨z, hz, e.symm⟩
      obtain ⟨p1, p2⟩ := prime_of hpr
      refine ⟨_, rfl, d, _, rfl, get_t hd2, 69997, t + 1, rfl, rfl, .inl ⟨by decide, by decide⟩, _, rfl, pr, 11, rfl, rfl, ⟨by decide, by decide⟩, _, _, rfl, rfl, ?_⟩
      have q0 : 0 ≤ pr.fdiv 11 ∧ pr.fdiv 11 < 2147483648 := by
        rw [Int.fdiv_eq_ediv_of_nonneg pr (by decide)]
        omega
      refine ⟨_, rfl, d, _, rfl, get_c hd2, c, rfl, ⟨_, SqL.of hc2⟩, for_list (K := K) (a := c) (xs := ns.map V.int) (fun i σ H' => H' = upd H1 p (.lst (primes.map V.int)) ∧ ∃ (y : Int) (v4 : Option V), y.natAbs < 2 ^ 64 ∧ σ = [some (.ref d), some (.int f), some (.int pr), some (.int y), v4])
        ⟨rfl, _, v4, ?_, rfl⟩ (fun i σ H' _ ⟨e, _⟩ => by rw [e]; exact SqL.of hc2) ?_ ?_⟩
      · omega
      · rintro j x σ H' hx ⟨rfl, y, v4, hy, rfl⟩
        obtain ⟨z, rfl⟩ : ∃ z : Int, x = V.int z := by
          obtain ⟨z, hz, e⟩ := List.mem_map.mp (List.mem_of_getElem? hx)
          exact ⟨z, e.symm⟩
        refine ⟨_, rfl, y, 48271, rfl, rfl, .inr ⟨by decide, by decide⟩, _, rfl, _, z, rfl, rfl, _, rfl, _, pr, rfl, rfl, (by omega), ?_⟩
        have r1 := fmod_lo (a := y * 48271 + z) (b := pr) (by omega)
        have r2 := fmod_hi (a := y * 48271 + z) (b := pr) (by omega)
        exact ⟨rfl, _, some (.int z), by omega, rfl⟩
      · rintro σ H' ⟨rfl, y, v4, hy, rfl⟩
        refine ⟨_, rfl, f, 2147483647, rfl, rfl, .inr ⟨by decide, by decide⟩, _, rfl, y, 5, rfl, rfl, ⟨by decide, by decide, hy⟩, _, rfl, _, pr, rfl, rfl, (by omega), _, _, rfl, rfl, ?_⟩
        exact ⟨rfl, _, some (.int pr), some (.int y), v4, rfl⟩
    · rintro σ H' ⟨rfl, f, v2, v3, v4, rfl⟩
      refine ⟨_, rfl, ?_⟩
      refine k f _ ⟨⟨gs, l, t + 1, hd2, hg2, by omega, by omega⟩, hc2, ncd, ncg⟩ (k1.trans (Kp.new hp))
/-! ### _law_take -/
def spTake (ns : List Int) : Sp := fun vs H Q _ => ∃ (d g c : Addr) (b : Nat) (z : Int), vs = [.ref d, .int z] ∧ Dw ns d g c b H ∧ b ≤ 1000000000 ∧ 0 < z ∧ z ≤ 1000000000 ∧
  ∀ (r : Int) (H' : Hp), 0 ≤ r → r < z → Dw ns d g c (b + 1) H' → Kp d g H H' → Q (.int r) H'
theorem scTake : FnScope ["_law_state", "_law_size", "_law_found"] ["_law_state", "_law_size"] (defScope sTake) := ⟨rfl, rfl, rfl, by decide +kernel, rfl, by decide +kernel, by decide +kernel⟩
theorem ok_take {f fM : Addr} {fd fdM : FuncData} (ns : List Int) (F : Fun K "_law_take" "_law_take" sTake f fd) (GM : FnOk P w K mg base CX0 1 fM fdM ["_law_state"] (spMixed ns)) (bM : Binds K fdM ["_law_state"] []) (kM : PySem.W.keepIn K (.ref fM) = true) (mM : mg "_law_mixed" = some (.ref fM)) :
    FnOk P w K mg base CX0 2 f fd ["_law_state", "_law_size"] (spTake ns) := by
  refine F.ok scTake (fun vs H Q E h => ?_) (fun cdv A outer s H vs Q E hr h => ?_)
  · obtain ⟨d, g, c, b, z, rfl, _⟩ := h
    rfl
  · obtain ⟨d, g, c, b, z, rfl, D, hb, z0, z1, k⟩ := h
    have hu := hu_of hr
    have nd := scTake.nd
    refine ⟨_, pss_cons (ps_if (pt_cmpR op_eq (pe_dget hu (pv 0) pe_str (fun _ _ => rfl)) pe_int (nomark _))
        (pss_one (ps_dput hu (pv 0) pe_str (pe_ifExp (pt_cmpR (op_neD hr.units) (pe_dget hu (pv 0) pe_str (fun _ _ => rfl)) (pe_lst pa_nil) (nomark _))
          (pe_bm PySem.F.plainAttrs_list PySem.F.slot_list_pop PySem.F.type_list_pop mt_popAt (pe_dget hu (pv 0) pe_str (fun _ _ => rfl)) (pa_cons pe_int pa_nil))
          (pe_call GM hr rfl mM kM bM .nil pass0 (pa_cons (pv 0) pa_nil))) rfl)) pss_nil)
      (pss_cons (ps_set (i := 2) nd rfl (.inl rfl) (pe_op op_modN (pe_dget hu (pv 0) pe_str (fun _ _ => rfl)) (pv 1)))
      (pss_cons (ps_dput hu (pv 0) pe_str (pe_op op_fdivN (pe_dget hu (pv 0) pe_str (fun _ _ => rfl)) (pv 1)) rfl)
      (pss_one (ps_ret (pv 2))))), ?_⟩
    -- behind the if: the state with a number left
    have tail : ∀ (H1 : Hp), Dw ns d g c (b + 1) H1 → Kp d g H H1 → tSeq (tAsg (tOp (rI (fun _ j => j ≠ 0) fun i j => .int (i.fmod j)) (tDGet (tVar 0) (tC (.str "left"))) (tVar 1)) (gName 2))
        (tSeq (sDPut (tVar 0) (tC (.str "left")) (tOp (rI CDivN fun i j => .int (i.fdiv j)) (tDGet (tVar 0) (tC (.str "left"))) (tVar 1))) (tRet (tVar 2))) { nx := fun _ H' => Q .non H', rt := Q } [some (.ref d), some (.int z), none] H1 := by
      intro H1 D1 k1
      obtain ⟨⟨gs, l, t, hd, hg, t0, tb⟩, hc, ncd, ncg⟩ := id D1
      have ndg : g ≠ d := ne_of hg hd (by intro z; cases z)
      refine ⟨_, rfl, d, _, rfl, get_l hd, _, rfl, l, z, rfl, rfl, (by omega), ?_⟩
      refine ⟨_, rfl, d, _, rfl, get_l hd, _, rfl, l, z, rfl, rfl, ⟨by omega, by omega⟩, _, rfl, d, _, rfl, put_l hd, _, rfl, ?_⟩
      refine k _ _ (fmod_lo z0) (fmod_hi z0) ⟨⟨gs, _, t, upd_same, by rw [upd_ne ndg]; exact hg, t0, tb⟩, by rw [upd_ne ncd]; exact hc, ncd, ncg⟩ (k1.trans Kp.at_d)
    obtain ⟨⟨gs, l, t, hd, hg, t0, tb⟩, hc, ncd, ncg⟩ := id D
    have ndg : g ≠ d := ne_of hg hd (by intro z; cases z)
    refine ⟨_, rfl, d, _, rfl, get_l hd, rfl, _, rfl, ?_⟩
    refine ite2 (fun e => ?_) (fun e => tail H (D.mono (by omega)) Kp.refl)
    refine ⟨_, rfl, d, _, rfl, get_g hd, by show 0 ≤ sizeLine; decide, fun p hp => ?_⟩
    have hd1 := new_same (o := .lst []) hp _ _ hd
    have hg1 := new_same (o := .lst []) hp _ _ hg
    have hc1 := new_same (o := .lst []) hp _ _ hc
    refine ⟨_, _, .lst (SqL.of hg1) (dp_ints gs), .lst (SqL.of upd_same) .nil, shaped_ints gs, shaped_nil, _, rfl, ?_⟩
    rw [eqv_nil]
    cases gs with
    | nil =>
      refine iteF ?_
      refine ⟨_, rfl, d, g, c, b, rfl, D.new hp, hb, fun r H' D' k' => ?_⟩
      obtain ⟨⟨gs, l, t, hd', hg', t0, tb⟩, hc', ncd, ncg⟩ := id D'
      have ndg : g ≠ d := ne_of hg' hd' (by intro z; cases z)
      refine ⟨_, rfl, d, _, rfl, put_l hd', ?_⟩
      exact tail _ ⟨⟨gs, _, t, upd_same, by rw [upd_ne ndg]; exact hg', t0, tb⟩, by rw [upd_ne ncd]; exact hc', ncd, ncg⟩ (((Kp.new hp).trans k').trans Kp.at_d)
    | cons n r =>
      refine iteT ?_
      refine ⟨_, rfl, d, _, rfl, get_g hd1, .inl ⟨rfl, _, SqL.of hg1⟩, g, _, 0, 0, _, rfl, rfl, hg1, by decide, by decide, (ixN_seq (n := (List.map V.int (n :: r)).length) (i := 0) (j := 0) (by simp [ixN])).1, rfl, ?_⟩
      refine ⟨_, rfl, d, _, rfl, put_l (by rw [upd_ne ndg.symm]; exact hd1), ?_⟩
      refine tail _ ⟨⟨r, _, t, upd_same, by rw [upd_ne ndg, upd_same]; rfl, t0, by omega⟩, by rw [upd_ne ncd, upd_ne ncg]; exact hc1, ncd, ncg⟩ (((Kp.new hp).trans Kp.at_g).trans Kp.at_d)
/-! ### _law_pick, out of a list and out of a text -/
theorem scPick : FnScope ["_law_state", "_law_some"] ["_law_state", "_law_some"] (defScope sPick) := ⟨rfl, rfl, rfl, by decide +kernel, rfl, by decide +kernel, by decide +kernel⟩
/-- one of the items of a list, or one sign of a text -/
def spPick (K : PySem.W.Frag) (ns : List Int) : Sp := fun vs H Q _ => ∃ (d g c : Addr) (b : Nat), Dw ns d g c b H ∧ b ≤ 1000000000 ∧
  ((∃ (a : Addr) (xs : List V), vs = [.ref d, .ref a] ∧ H a = some (.lst xs) ∧ a ≠ d ∧ a ≠ g ∧ 0 < xs.length ∧ xs.length ≤ 1000000 ∧
    ∀ (x : V) (H' : Hp), x ∈ xs → Dw ns d g c (b + 1) H' → Kp d g H H' → Q x H') ∨
   (∃ z : Str, vs = [.ref d, .str z] ∧ 0 < z.length ∧ z.length ≤ 1000000 ∧ ∀ (x : Nat) (H' : Hp), x ∈ z.cps.toList → Dw ns d g c (b + 1) H' → Kp d g H H' → Q (.str ⟨#[x]⟩) H'))
theorem ok_pick {f fT : Addr} {fd fdT : FuncData} (ns : List Int) (F : Fun K "_law_pick" "_law_pick" sPick f fd) (GT : FnOk P w K mg base CX0 2 fT fdT ["_law_state", "_law_size"] (spTake ns)) (bT : Binds K fdT ["_law_state", "_law_size"] []) (kT : PySem.W.keepIn K (.ref fT) = true) (mT : mg "_law_take" = some (.ref fT))
    (ml : mg "len" = none) : FnOk P w K mg base CX0 3 f fd ["_law_state", "_law_some"] (spPick K ns) := by
  refine F.ok scPick (fun vs H Q E h => ?_) (fun cdv A outer s H vs Q E hr h => ?_)
  · obtain ⟨d, g, c, b, D, hb, ⟨a, xs, rfl, _⟩ | ⟨z, rfl, _⟩⟩ := h <;> rfl
  · obtain ⟨d, g, c, b, D, hb, h⟩ := h
    have hu := hu_of hr
    have nd := scPick.nd
    refine ⟨_, pss_one (ps_ret (pe_ix ix_seq (pv 1) (pe_call GT hr rfl mT kT bT .nil pass0 (pa_cons (pv 0) (pa_cons (pe_callB call_len rfl ml PySem.boot_len (pa_cons (pv 1) pa_nil)) pa_nil))) (fun _ _ => rfl))), ?_⟩
    rcases h with ⟨a, xs, rfl, ha, nad, nag, h0, h1, k⟩ | ⟨z, rfl, h0, h1, k⟩
    · refine ⟨_, rfl, _, rfl, _, rfl, _, _, rfl, .inl ⟨_, SqL.of ha, rfl⟩, d, g, c, b, _, rfl, D, hb, by omega, by omega, fun r H' r0 r1 D' k' => ?_⟩
      obtain ⟨v, hv, hm⟩ := at_int r0 r1
      exact .inl ⟨a, xs, r, v, rfl, rfl, SqL.of (k' a _ nad nag ha), hv, k v H' hm D' k'⟩
    · refine ⟨_, rfl, _, rfl, _, rfl, _, _, rfl, ⟨by rw [sizeLine_eq]; omega, rfl⟩, d, g, c, b, _, rfl, D, hb, by omega, by omega, fun r H' r0 r1 D' k' => ?_⟩
      have e : r = ((r.toNat : Nat) : Int) := by omega
      have hl : r.toNat < z.cps.toList.length := by
        have : z.cps.toList.length = z.length := by simp [Str.length]
        omega
      have q : atI z.cps.toList ((r.toNat : Nat) : Int) = some z.cps.toList[r.toNat] := atI_nat (List.getElem?_eq_getElem hl)
      rw [← e] at q
      exact .inr (.inr ⟨z, r, _, rfl, rfl, by rw [sizeLine_eq]; omega, q, k _ H' (List.getElem_mem hl) D' k'⟩)
/-! ### _law_begun -/
def spBegun (K : PySem.W.Frag) (ns : List Int) : Sp := fun vs H Q _ => ∃ (a : Addr), vs = [.ref a] ∧ SqL K H a (ns.map V.int) ∧ ns.length ≤ 63 ∧
  ∀ (d g c : Addr) (H' : Hp), Dw ns d g c 0 H' → (∀ b o, H b = some o → H' b = some o) → H d = none → H g = none → H c = none → Q (.ref d) H'
theorem scBegun : FnScope ["_law_script", "_law_great", "_law_cell"] ["_law_script"] (defScope sBegun) := ⟨rfl, rfl, rfl, by decide +kernel, rfl, by decide +kernel, by decide +kernel⟩
theorem ok_begun {f : Addr} {fd : FuncData} (ns : List Int) (F : Fun K "_law_begun" "_law_begun" sBegun f fd) (mli : mg "list" = none) : FnOk P w K mg base CX0 1 f fd ["_law_script"] (spBegun K ns) := by
  refine F.ok scBegun (fun vs H Q E h => ?_) (fun cdv A outer s H vs Q E hr h => ?_)
  · obtain ⟨a, rfl, _⟩ := h
    rfl
  · obtain ⟨a, rfl, hS, hl, k⟩ := h
    have hu := hu_of hr
    have nd := scBegun.nd
    refine ⟨_, pss_cons (ps_setLc (i := 1) (own := [("_law_cell", 2)]) (g := gName 2) rfl nd rfl rfl (sw_true rfl rfl rfl (by decide +kernel)) (pi_list (pv 0)) (blkOk_by (N := ["_law_script", "_law_great", "_law_cell"]) (sc := defScope sBegun) (by decide +kernel))
        (fun _ _ _ _ _ => pg_name (i := 2) nd rfl (.inl rfl)) (fun _ _ _ _ _ => pts_one (pt_cmpR op_ge (pv 2) (pe_op op_pow pe_int pe_int) (nomark _))) (fun _ _ _ _ _ => pe_op op_sub (pv 2) (pe_op op_pow pe_int pe_int)))
      (pss_one (ps_ret (pe_disp (pps_cons pe_str (pv 1) (pps_cons pe_str (pe_callTy call_list_of rfl mli (by decide +kernel) (pa_cons (pv 0) pa_nil)) (pps_cons pe_str pe_int (pps_cons pe_str pe_int pps_nil)))) (by rfl) (by rfl) (fun z => by cases z) (by decide)))), ?_⟩
    have keep0 : ∀ {H' : Hp} {g : Addr} {o : HO}, (∀ b o, H b = some o → H' b = some o) → H g = none → ∀ b u, H b = some u → upd H' g o b = some u := fun {H' g o} s hg b u e => by
      rw [upd_ne (ne_of_none e hg)]
      exact s b u e
    refine ⟨_, rfl, a, rfl, ⟨_, hS⟩, fun g hg => ?_⟩
    refine lc_list (K := K) (a := a) (xs := ns.map V.int) (fun i H' => (∀ b o, H b = some o → H' b = some o) ∧ ∃ gs : List Int, gs.length ≤ i ∧ H' g = some (.lst (gs.map V.int)))
      ⟨fun b o e => new_same hg b o e, [], Nat.le_refl _, upd_same⟩ (fun i H' _ ⟨s, _⟩ => Same.seq s hS) ?_ ?_
    · rintro i x H' hx ⟨s5, gs, hgl, hg'⟩
      obtain ⟨z, rfl⟩ : ∃ z : Int, x = V.int z := by
        obtain ⟨z, hz, e⟩ := List.mem_map.mp (List.mem_of_getElem? hx)
        exact ⟨z, e.symm⟩
      have hi : i < ns.length := by
        have := (List.getElem?_eq_some_iff.mp hx).1
        rw [List.length_map] at this
        exact this
      refine ⟨rfl, _, rfl, 10, 18, rfl, rfl, ⟨by decide, by decide, by decide⟩, _, _, rfl, rfl, _, rfl, ?_⟩
      refine ite2 (fun _ => ?_) (fun _ => ?_)
      · refine ⟨_, rfl, 10, 18, rfl, rfl, ⟨by decide, by decide, by decide⟩, _, _, rfl, rfl, _, hg', small1000 (by rw [List.length_map]; omega), keep0 s5 hg, gs ++ [z - 10 ^ (18 : Int).toNat], by rw [List.length_append]; show gs.length + 1 ≤ i + 1; omega, ?_⟩
        rw [upd_same, List.map_append]
        rfl
      · exact ⟨s5, gs, by omega, hg'⟩
    · rintro H1 ⟨s1, gs, hgl, hg1⟩ d hd
      refine ⟨_, rfl, _, rfl, a, _, rfl, .inl (Same.seq (new_same hd) (Same.seq s1 hS)), fun c hc => ?_⟩
      have ndc : c ≠ d := fun e => by rw [e, upd_same] at hc; cases hc
      have hd2 : (upd (upd H1 d (.dK [])) c (.lst (ns.map V.int))) d = some (.dK []) := by rw [upd_ne ndc.symm, upd_same]
      refine ⟨hd2, dk g c 0 0, rfl, (by show 4 ≤ 15; decide), ?_⟩
      rw [merge_dk]
      have ngd : g ≠ d := fun e => by rw [← e, hg1] at hd; cases hd
      have hg2 : upd H1 d (.dK []) g = some (.lst (gs.map V.int)) := by rw [upd_ne ngd]; exact hg1
      have ngc : g ≠ c := fun e => by rw [← e, hg2] at hc; cases hc
      have H1d : H d = none := by
        cases e : H d with
        | none => rfl
        | some u => rw [s1 d u e] at hd; cases hd
      have H1c : H c = none := by
        cases e : H c with
        | none => rfl
        | some u => rw [new_same hd c u (s1 c u e)] at hc; cases hc
      refine k d g c _ ⟨⟨gs, 0, 0, upd_same, by rw [upd_ne ngd, upd_ne ngc]; exact hg2, by omega, by omega⟩, by rw [upd_ne ndc, upd_same], ndc, ngc.symm⟩ (fun b o e => ?_) H1d hg H1c
      rw [upd_ne (ne_of_none e H1d), upd_ne (ne_of_none e H1c), upd_ne (ne_of_none e H1d)]
      exact s1 b o e
end
end Lw

set_option Elab.async false
set_option linter.all false
set_option maxRecDepth 100000
set_option maxHeartbeats 4000000
namespace Lw
open L2 hiding Ext
open PySem PySem.Spec PyProof.Rows Gn Gr Gk Go Gt Gf Gx
abbrev sName : Stmt := top 9
abbrev sRow : Stmt := top 11
abbrev sWrong : Stmt := top 12
abbrev sRead : Stmt := top 13
abbrev sLine : Stmt := top 14
def cBody : Stmt → List Stmt
  | .ClassDef (body := b) .. => b
  | _ => []
def meth (i : Nat) : Stmt := (cBody (top 15)).getD i (.Pass ⟨0, 0, 0, 0⟩)
abbrev sInit : Stmt := meth 1
abbrev sEq : Stmt := meth 2
abbrev sNames : Stmt := meth 3
abbrev sText : Stmt := meth 4
abbrev sAnc : Stmt := meth 5
abbrev sParse : Stmt := meth 7
section
variable {P : Program} {w : World} {K : PySem.W.Frag} {mg : Str → Option Value} {base : Heap}
/-- the built-in names, and the module's numbers and letters -/
structure Names (mg : Str → Option Value) : Prop where
  isi : mg "isinstance" = none
  str : mg "str" = none
  list : mg "list" = none
  tuple : mg "tuple" = none
  len : mg "len" = none
  all : mg "all" = none
  enum : mg "enumerate" = none
  letters : ∃ t, mg "LETTERS" = some (.str letters t)
  longest : ∃ t, mg "LONGEST" = some (.int 8 t)
theorem scName : FnScope ["value", "letter"] ["value"] (defScope sName) := ⟨rfl, rfl, rfl, by decide +kernel, rfl, by decide +kernel, by decide +kernel⟩
theorem take_succ_map {α β : Type} {l : List α} {i : Nat} {c : α} (f : α → β) (h : l[i]? = some c) : (l.take (i + 1)).map f = (l.take i).map f ++ [f c] := by
  rw [List.take_add_one, h, List.map_append]
  rfl
theorem cps_at {z : Str} {i : Nat} {c : Nat} (h : z.cps[i]? = some c) : z.cps.toList[i]? = some c := by simpa using h
theorem cps_len (z : Str) : z.cps.toList.length = z.cps.size := by simp
def spNameS : Sp := fun vs H Q _ => ∃ x : Str, vs = [.str x] ∧ x.length ≤ 100000 ∧ ∀ H', Ext H H' → Q (.bl (nameOk x)) H'
theorem ok_name {f : Addr} {fd : FuncData} (F : Fun K "is_name" "is_name" sName f fd) (T : Names mg) : FnOk P w K mg base CX0 1 f fd ["value"] spNameS := by
  refine F.ok scName (fun vs H Q E h => ?_) (fun cdv A outer s H vs Q E hr h => ?_)
  · obtain ⟨x, rfl, _⟩ := h
    rfl
  · obtain ⟨x, rfl, hx1, k⟩ := h
    have hu := hu_of hr
    have nd := scName.nd
    obtain ⟨t1, hL⟩ := T.letters
    obtain ⟨t2, hM⟩ := T.longest
    refine ⟨_, pss_cons (ps_if (pt_not (pt_val (pe_callB call_isi rfl T.isi (by decide +kernel) (pa_cons (pv 0) (pa_cons (pe_bltn (v := .ty "str") rfl T.str (by decide +kernel) rfl) pa_nil))))) (pss_one (ps_ret pe_bl)) pss_nil)
      (pss_cons (ps_if (PW.pt (pw_or (pt_cmpR op_lt (pe_callB call_len_str rfl T.len PySem.boot_len (pa_cons (pv 0) pa_nil)) pe_int (nomark _)) (pw_or1 (pt_cmpR op_gt (pe_callB call_len_str rfl T.len PySem.boot_len (pa_cons (pv 0) pa_nil)) (pe_glob (v := .int 8) rfl hM ⟨_, rfl⟩) (nomark _))))) (pss_one (ps_ret pe_bl)) pss_nil)
      (pss_one (ps_ret (pe_callB (cr_all rfl) rfl T.all (by decide +kernel) (pa_cons (pe_lc (own := [("letter", 1)]) (g := gName 1) (tt := tYes) rfl nd (pi_str (pv 0)) (blkOk_by (N := ["value", "letter"]) (sc := defScope sName) (by decide +kernel))
        (fun _ _ _ _ _ => pg_name (i := 1) nd rfl (.inl rfl)) (fun _ _ _ _ _ => pts_nil) (fun _ _ _ _ _ => pe_cmpR op_in_sign (pv 1) (pe_glob (v := .str letters) rfl hL ⟨_, rfl⟩) rfl)) pa_nil))))), ?_⟩
    refine ⟨_, rfl, _, _, _, _, true, rfl, .ty _, (TyT.str x).x, kit_ty (by decide +kernel), true, rfl, iteF ?_⟩
    refine ⟨_, rfl, x, rfl, by rw [sizeLine_eq]; omega, _, _, rfl, rfl, _, rfl, ?_⟩
    unfold nameOk at k
    refine ite2 (fun e => ?_) (fun n1 => ?_)
    · refine iteT ?_
      have e : (x.length : Int) < 1 := of_decide_eq_true e
      rw [show decide (1 ≤ x.length) = false from decide_eq_false (by omega), Bool.false_and] at k
      exact k H Ext.refl
    · have n1 : ¬ (x.length : Int) < 1 := of_decide_eq_false (Bool.eq_false_iff.mpr n1)
      rw [show decide (1 ≤ x.length) = true from decide_eq_true (by omega), Bool.true_and] at k
      refine ⟨_, rfl, x, rfl, by rw [sizeLine_eq]; omega, _, _, rfl, rfl, _, rfl, ?_⟩
      refine ite2 (fun e => ?_) (fun n2 => ?_)
      · have e : (8 : Int) < x.length := of_decide_eq_true e
        rw [show decide (x.length ≤ 8) = false from decide_eq_false (by omega), Bool.false_and] at k
        exact k H Ext.refl
      · have n2 : ¬ (8 : Int) < x.length := of_decide_eq_false (Bool.eq_false_iff.mpr n2)
        rw [show decide (x.length ≤ 8) = true from decide_eq_true (by omega), Bool.true_and] at k
        refine ⟨_, rfl, x, rfl, fun D hD => ?_⟩
        refine lc_it walk_str (fun i H' => H' D = some (.lst (((x.cps.toList.take i).map isL).map V.bl)) ∧ Ext H H') ⟨upd_same, Ext.new hD⟩ (fun _ _ _ _ => trivial) ?_ ?_
        · rintro i y H1 H2 hi ⟨hd, he⟩ ⟨rfl, c, hc, rfl⟩
          refine ⟨rfl, yes_of ?_⟩
          refine ⟨_, rfl, c, _, rfl, rfl, _, hd, ?_, ?_, fun a o e => ?_⟩
          · have := len_cps x
            rw [List.length_map, List.length_map, List.length_take]
            exact small1000 (by omega)
          · rw [upd_same, take_succ_map isL (cps_at hc), List.map_append]
            rfl
          · rw [upd_ne (ne_of_none e hD)]
            exact he a o e
        · rintro H1 ⟨hd, he⟩
          refine ⟨D, _, rfl, SqL.of hd, ?_⟩
          rw [← cps_len, List.take_length, List.all_map]
          exact k H1 he
/-! ### is_row, of a line's row or None -/
def ORowAt (H : Hp) (v : V) : Option FRow → Prop
  | none => v = V.non
  | some r => ∃ p, v = V.ref p ∧ H p = some (.tup [.str r.1, parV r.2])
def ORowsAt (H : Hp) (vs : List V) (os : List (Option FRow)) : Prop := vs.length = os.length ∧ ∀ (i : Nat) (o : Option FRow), os[i]? = some o → ∃ v, vs[i]? = some v ∧ ORowAt H v o
theorem ORowAt.ext {H H' : Hp} {v : V} {o : Option FRow} (h : ORowAt H v o) (k : Ext H H') : ORowAt H' v o := by
  cases o with
  | none => exact h
  | some r =>
    obtain ⟨p, a, b⟩ := h
    exact ⟨p, a, k _ _ b⟩
theorem ORowsAt.ext {H H' : Hp} {vs : List V} {os : List (Option FRow)} (h : ORowsAt H vs os) (k : Ext H H') : ORowsAt H' vs os :=
  ⟨h.1, fun i o ho => by obtain ⟨v, a, b⟩ := h.2 i o ho; exact ⟨v, a, b.ext k⟩⟩
theorem strs_flat (E : List Str) : (E.map V.str).all flatV = true := by
  rw [List.all_map]
  exact List.all_eq_true.mpr fun _ _ => rfl
theorem inV_strs (x : Str) (E : List Str) : inV (.str x) (E.map V.str) = decide (x ∈ E) := by
  unfold inV
  rw [List.any_map]
  induction E with
  | nil => simp
  | cons y r ih =>
    rw [List.any_cons, ih]
    show ((y == x) || _) = _
    by_cases e : y = x
    · subst e; simp
    · have e' : ¬ x = y := fun z => e z.symm
      simp [e, e']
def parB (E : List Str) : Option Str → Bool
  | none => true
  | some m => decide (m ∈ E)
def rowB (E : List Str) : Option FRow → Bool
  | none => false
  | some r => nameOk r.1 && (!decide (r.1 ∈ E) && parB E r.2)
def spRowO : Sp := fun vs H Q _ => ∃ (v : V) (e : Addr) (o : Option FRow) (E : List Str), vs = [v, .ref e] ∧ ORowAt H v o ∧ (∀ r, o = some r → r.1.length ≤ 100000) ∧ H e = some (.lst (E.map V.str)) ∧ ∀ H', Ext H H' → Q (.bl (rowB E o)) H'
theorem scRow : FnScope ["value", "earlier", "name", "parent"] ["value", "earlier"] (defScope sRow) := ⟨rfl, rfl, rfl, by decide +kernel, rfl, by decide +kernel, by decide +kernel⟩
theorem iteS {c A B : Prop} [Decidable c] (hc : c) (h : A) : if decide c = true then A else B := by
  rw [if_pos (decide_eq_true hc)]
  exact h
theorem iteN {c A B : Prop} [Decidable c] (hc : ¬ c) (h : B) : if decide c = true then A else B := by
  rw [if_neg (by rw [decide_eq_false hc]; exact Bool.false_ne_true)]
  exact h
theorem ok_row {f fN : Addr} {fd fdN : FuncData} (F : Fun K "is_row" "is_row" sRow f fd) (T : Names mg) (GN : FnOk P w K mg base CX0 1 fN fdN ["value"] spNameS) (bN : Binds K fdN ["value"] []) (kN : PySem.W.keepIn K (.ref fN) = true) (mN : mg "is_name" = some (.ref fN)) :
    FnOk P w K mg base CX0 2 f fd ["value", "earlier"] spRowO := by
  refine F.ok scRow (fun vs H Q E h => ?_) (fun cdv A outer s H vs Q E hr h => ?_)
  · obtain ⟨v, e, o, E, rfl, _⟩ := h
    rfl
  · obtain ⟨v, e, o, E, rfl, ho, hlen, he, k⟩ := h
    have hu := hu_of hr
    have nd := scRow.nd
    refine ⟨_, pss_cons (ps_if (PW.pt (pw_or (pt_not (pt_val (pe_callB call_isi rfl T.isi (by decide +kernel) (pa_cons (pv 0) (pa_cons (pe_bltn (v := .ty "tuple") rfl T.tuple (by decide +kernel) rfl) pa_nil))))) (pw_or1 (pt_cmpR op_ne (pe_callB call_len_seq rfl T.len PySem.boot_len (pa_cons (pv 0) pa_nil)) pe_int (nomark _))))) (pss_one (ps_ret pe_bl)) pss_nil)
      (pss_cons (ps_asg (pv 0) (by exact (pg_tup rfl (pgs_cons (pg_name (i := 2) nd rfl (.inl rfl)) (pgs_cons (pg_name (i := 3) nd rfl (.inl rfl)) pgs_nil)))))
      (pss_cons (ps_if (PW.pt (pw_or (pt_not (pt_val (pe_call GN hr rfl mN kN bN .nil pass0 (pa_cons (pv 2) pa_nil)))) (pw_or1 (pt_cmpR op_in_seq (pv 2) (pv 1) rfl)))) (pss_one (ps_ret pe_bl)) pss_nil)
      (pss_one (ps_ret (pe_or (pe_cmpR op_isN (pv 3) pe_non (nomark _)) (pe_one (pe_cmpR op_in_seq (pv 3) (pv 1) rfl))))))), ?_⟩
    cases o with
    | none =>
      cases (show v = V.non from ho)
      exact ⟨_, rfl, _, _, _, _, false, rfl, .ty _, (TyT.non (H := H)).x, kit_ty (by decide +kernel), false, rfl, iteT (k H Ext.refl)⟩
    | some r =>
      obtain ⟨p, rfl, hp⟩ := ho
      refine ⟨_, rfl, _, _, _, _, true, rfl, .ty _, (TyT.tup hp).x, kit_ty (by decide +kernel), true, rfl, iteF ?_⟩
      refine ⟨_, rfl, p, _, rfl, .inr (SqT.of hp), rfl, _, rfl, iteNS rfl ?_⟩
      refine ⟨_, rfl, p, _, rfl, SqT.of hp, rfl, _, _, rfl, _, _, rfl, rfl, ?_⟩
      refine ⟨_, rfl, r.1, rfl, hlen r rfl, fun H1 k1 => ?_⟩
      have k' : ∀ H', Ext H H' → Q (.bl (nameOk r.1 && (!decide (r.1 ∈ E) && parB E r.2))) H' := k
      refine ⟨nameOk r.1, rfl, ?_⟩
      cases e1 : nameOk r.1 with
      | false =>
        rw [e1] at k'
        exact iteT (k' _ k1)
      | true =>
        rw [e1] at k'
        refine iteF ?_
        refine ⟨_, rfl, _, rfl, e, _, rfl, .inl (SqL.of (k1 _ _ he)), rfl, strs_flat E, _, rfl, ?_⟩
        rw [inV_strs]
        refine ite2 (fun e2 => ?_) (fun e2 => ?_)
        · have e2 : decide (r.1 ∈ E) = true := e2
          rw [e2] at k'
          exact k' _ k1
        · have e2 : decide (r.1 ∈ E) = false := Bool.eq_false_iff.mpr e2
          rw [e2] at k'
          refine ⟨_, rfl, rfl, ?_⟩
          cases e3 : r.2 with
          | none =>
            rw [e3] at k'
            exact ⟨true, rfl, iteT (k' _ k1)⟩
          | some m =>
            rw [e3] at k'
            refine ⟨false, rfl, iteF ?_⟩
            refine ⟨_, rfl, _, rfl, e, _, rfl, .inl (SqL.of (k1 _ _ he)), rfl, strs_flat E, ?_⟩
            show Q (.bl (inV (.str m) (E.map V.str))) H1
            rw [inV_strs]
            exact k' _ k1
/-! ### first_wrong -/
def wrongAt : List (Option FRow) → List Str → Nat
  | [], _ => 0
  | none :: _, _ => 0
  | some r :: t, E => if rowB E (some r) = true then wrongAt t (E ++ [r.1]) + 1 else 0
def spWrongO (K : PySem.W.Frag) : Sp := fun vs H Q _ => ∃ (l : Addr) (xs : List V) (os : List (Option FRow)), vs = [.ref l] ∧ (∀ H', Ext H H' → SqL K H' l xs) ∧ ORowsAt H xs os ∧ (∀ r, some r ∈ os → r.1.length ≤ 100000) ∧ os.length ≤ 100000 ∧ ∀ H', Ext H H' → Q (.int (wrongAt os [] : Nat)) H'
theorem scWrong : FnScope ["rows", "earlier", "at", "row"] ["rows"] (defScope sWrong) := ⟨rfl, rfl, rfl, by decide +kernel, rfl, by decide +kernel, by decide +kernel⟩
theorem ok_wrong {f fR : Addr} {fd fdR : FuncData} (F : Fun K "first_wrong" "first_wrong" sWrong f fd) (T : Names mg) (GR : FnOk P w K mg base CX0 2 fR fdR ["value", "earlier"] spRowO) (bR : Binds K fdR ["value", "earlier"] []) (kR : PySem.W.keepIn K (.ref fR) = true) (mR : mg "is_row" = some (.ref fR)) :
    FnOk P w K mg base CX0 3 f fd ["rows"] (spWrongO K) := by
  refine F.ok scWrong (fun vs H Q E h => ?_) (fun cdv A outer s H vs Q E hr h => ?_)
  · obtain ⟨l, xs, os, rfl, _⟩ := h
    rfl
  · obtain ⟨l, xs, os, rfl, hlk, hR, hw, hn, k⟩ := h
    have hu := hu_of hr
    have nd := scWrong.nd
    refine ⟨_, pss_cons (ps_set (i := 1) nd rfl (.inl rfl) (pe_lst pa_nil))
      (pss_cons (ps_for PassesOwn.never rfl (pi_enum rfl T.enum (pa_cons (pv 0) pa_nil)) (by exact (pg_tup rfl (pgs_cons (pg_name (i := 2) nd rfl (.inl rfl)) (pgs_cons (pg_name (i := 3) nd rfl (.inl rfl)) pgs_nil))))
        (pss_cons (ps_if (pt_not (pt_val (pe_call GR hr rfl mR kR bR .nil pass0 (pa_cons (pv 3) (pa_cons (pv 1) pa_nil))))) (pss_one (ps_ret (pv 2))) pss_nil)
        (pss_one (ps_expr (pe_bm PySem.F.plainAttrs_list PySem.F.slot_list_append PySem.F.type_list_append mt_append (pv 1) (pa_cons (pe_ix ix_tup (pv 3) pe_int (fun _ _ => rfl)) pa_nil))))))
      (pss_one (ps_ret (pe_callB call_len_seq rfl T.len PySem.boot_len (pa_cons (pv 0) pa_nil))))), ?_⟩
    have hxl : xs.length = os.length := hR.1
    refine ⟨Nat.zero_le _, fun e he => ?_⟩
    refine ⟨_, rfl, l, xs, rfl, hlk _ (Ext.new he), ?_⟩
    refine for_it walk_enum (fun i σ H' => ∃ (v2 v3 : Option V) (E : List Str), σ = [some (.ref l), some (.ref e), v2, v3] ∧ H' e = some (.lst (E.map V.str)) ∧ E.length = i ∧ wrongAt os [] = i + wrongAt (os.drop i) E ∧ Ext H H') ⟨none, none, [], rfl, upd_same, rfl, by simp, Ext.new he⟩ (fun i σ H' _ ⟨_, _, _, _, _, _, _, k1⟩ => hlk _ k1) ?_ ?_
    · rintro i x σ H1 H2 hi ⟨v2, v3, E, rfl, e1, el, ew, k1⟩ ⟨t, a, b, rfl, ht, rfl, ea, eb⟩
      have ea : some (V.int (i : Nat)) = some a := ea
      cases ea
      have hir : i < os.length := by omega
      obtain ⟨v, h1, h2⟩ := hR.2 i _ (List.getElem?_eq_getElem hir)
      have eb : xs[i]? = some b := eb
      rw [h1] at eb
      cases eb
      have ed : os.drop i = os[i] :: os.drop (i + 1) := List.drop_eq_getElem_cons hir
      have hmem : os[i] ∈ os := List.getElem_mem hir
      generalize os[i] = oi at h2 ed hmem
      have k2 : Ext H (upd H1 t (.tup [.int (i : Nat), b])) := k1.trans (Ext.new ht)
      have e2 := new_same (o := .tup [.int (i : Nat), b]) ht _ _ e1
      refine ⟨t, _, rfl, SqT.of upd_same, rfl, _, _, rfl, _, _, rfl, rfl, ?_⟩
      refine ⟨_, rfl, _, rfl, _, e, oi, E, rfl, h2.ext k2, fun r hr' => hw r (hr' ▸ hmem), e2, fun H3 k3 => ?_⟩
      refine ⟨_, rfl, ?_⟩
      cases eB : rowB E oi with
      | false =>
        refine iteT ⟨_, rfl, ?_⟩
        have : wrongAt os [] = i := by
          rw [ew, ed]
          cases oi with
          | none => rfl
          | some r => show i + (if rowB E (some r) = true then _ else 0) = i; rw [eB]; rfl
        rw [← this]
        exact k _ (k2.trans k3)
      | true =>
        refine iteF ?_
        cases oi with
        | none => cases eB
        | some r =>
          obtain ⟨p, rfl, hp⟩ := h2
          have e3 := k3 _ _ e2
          refine ⟨_, rfl, .inl ⟨rfl, _, SqL.of e3⟩, _, rfl, p, _, _, _, rfl, rfl, SqT.of ((k2.trans k3) _ _ hp), (show atI [V.str r.1, parV r.2] ((0 : Nat) : Int) = some (V.str r.1) from atI_nat rfl), e, _, _, rfl, rfl, e3, ?_, ?_⟩
          · rw [sizeLine_eq, List.length_map]
            omega
          · refine ⟨_, _, E ++ [r.1], rfl, ?_, by rw [List.length_append, el]; rfl, ?_, fun a o ha => ?_⟩
            · rw [upd_same, List.map_append]
              rfl
            · rw [ew, ed]
              show i + (if rowB E (some r) = true then wrongAt (os.drop (i + 1)) (E ++ [r.1]) + 1 else 0) = _
              rw [if_pos eB]
              omega
            · rw [upd_ne (ne_of_none ha he)]
              exact k3 _ _ (k2 _ _ ha)
    · rintro σ H1 ⟨v2, v3, E, rfl, e1, el, ew, k1⟩
      refine ⟨_, rfl, l, xs, rfl, .inl (hlk _ k1), ?_⟩
      have : wrongAt os [] = os.length := by
        rw [ew, hxl, List.drop_length]
        rfl
      rw [hxl, ← this]
      exact k _ k1
end
end Lw

set_option Elab.async false
set_option linter.all false
set_option maxRecDepth 100000
set_option maxHeartbeats 4000000
namespace Lw
open L2 hiding Ext
open PySem PySem.Spec PyProof.Rows Gn Gr Gk Go Gt Gf Gx
/-! ### parts of any text -/
theorem spl_ne (S : List Nat) : ∀ (l : List Nat) (k : Nat) (acc : List Nat), TL.spl S k acc l ≠ []
  | [], k, acc => by rw [TL.spl_nil]; simp
  | c :: r, 0, acc => by
    show (if TL.pre S (c :: r) = true then acc :: TL.spl S (S.length - 1) [] r else TL.spl S 0 (acc ++ [c]) r) ≠ []
    split
    · simp
    · exact spl_ne S r 0 _
  | c :: r, k + 1, acc => spl_ne S r k acc
theorem spl_sum (S : List Nat) : ∀ (l : List Nat) (k : Nat) (acc : List Nat), ((TL.spl S k acc l).map (·.length)).sum ≤ acc.length + l.length
  | [], k, acc => by rw [TL.spl_nil]; simp
  | c :: r, 0, acc => by
    show ((if TL.pre S (c :: r) = true then acc :: TL.spl S (S.length - 1) [] r else TL.spl S 0 (acc ++ [c]) r).map (·.length)).sum ≤ _
    split
    · have := spl_sum S r (S.length - 1) []
      rw [List.map_cons, List.sum_cons, List.length_cons]
      have e : ([] : List Nat).length = 0 := rfl
      omega
    · have := spl_sum S r 0 (acc ++ [c])
      rw [List.length_append] at this
      rw [List.length_cons]
      have e : [c].length = 1 := rfl
      omega
  | c :: r, k + 1, acc => by
    have := spl_sum S r k acc
    show ((TL.spl S k acc r).map (·.length)).sum ≤ _
    rw [List.length_cons]
    omega
theorem spl_count (S : List Nat) : ∀ (l : List Nat) (k : Nat) (acc : List Nat), (TL.spl S k acc l).length ≤ l.length + 1
  | [], k, acc => by rw [TL.spl_nil]; simp
  | c :: r, 0, acc => by
    show (if TL.pre S (c :: r) = true then acc :: TL.spl S (S.length - 1) [] r else TL.spl S 0 (acc ++ [c]) r).length ≤ _
    split
    · have := spl_count S r (S.length - 1) []
      rw [List.length_cons, List.length_cons]
      omega
    · have := spl_count S r 0 (acc ++ [c])
      rw [List.length_cons]
      omega
  | c :: r, k + 1, acc => by
    have := spl_count S r k acc
    show (TL.spl S k acc r).length ≤ _
    rw [List.length_cons]
    omega
theorem spl_signs (S : List Nat) (p : Nat → Prop) : ∀ (l : List Nat) (k : Nat) (acc : List Nat), (∀ c ∈ acc, p c) → (∀ c ∈ l, p c) → ∀ q ∈ TL.spl S k acc l, ∀ c ∈ q, p c
  | [], k, acc, ha, _, q, hq => by
    rw [TL.spl_nil, List.mem_singleton] at hq
    rw [hq]
    exact ha
  | c :: r, 0, acc, ha, hl, q, hq => by
    have hr : ∀ x ∈ r, p x := fun x hx => hl x (List.mem_cons_of_mem _ hx)
    have hq : q ∈ (if TL.pre S (c :: r) = true then acc :: TL.spl S (S.length - 1) [] r else TL.spl S 0 (acc ++ [c]) r) := hq
    split at hq
    · rcases List.mem_cons.mp hq with rfl | hq
      · exact ha
      · exact spl_signs S p r _ [] (fun x hx => by cases hx) hr q hq
    · refine spl_signs S p r 0 _ (fun x hx => ?_) hr q hq
      rcases List.mem_append.mp hx with hx | hx
      · exact ha x hx
      · rw [List.mem_singleton.mp hx]
        exact hl c (List.mem_cons_self ..)
  | c :: r, k + 1, acc, ha, hl, q, hq => spl_signs S p r k acc ha (fun x hx => hl x (List.mem_cons_of_mem _ hx)) q hq
/-- the parts between single signs -/
structure Parts (x : Str) (ps : List Str) : Prop where
  ne : ps ≠ []
  sum : (ps.map (·.length)).sum ≤ x.length
  count : ps.length ≤ x.length + 1
  signs : ∀ q ∈ ps, ∀ c ∈ q.cps.toList, c ∈ x.cps.toList
theorem kind_le (x y : Str) (hk : y.cps.all (· < 256) = true) : ¬ Builtin.Str.strKind x < Builtin.Str.strKind y := TL.kind_ok hk
theorem parts_of {x y : Str} (hy : TL.tl y ≠ []) (hk : y.cps.all (· < 256) = true) : Parts x (Txt.split x y) := by
  have e := TL.split_spl x y hy (kind_le x y hk)
  have el : ∀ ps : List Str, (ps.map (·.length)) = (ps.map TL.tl).map (·.length) := fun ps => by
    rw [List.map_map]
    exact List.map_congr_left fun p _ => (len_cps p).symm
  refine ⟨fun z => ?_, ?_, ?_, fun q hq c hc => ?_⟩
  · rw [z] at e
    exact spl_ne _ _ _ _ e.symm
  · rw [el, e]
    have := spl_sum (TL.tl y) (TL.tl x) 0 []
    have e0 : ([] : List Nat).length = 0 := rfl
    have e1 : (TL.tl x).length = x.length := len_cps x
    omega
  · have := spl_count (TL.tl y) (TL.tl x) 0 []
    rw [← e, List.length_map] at this
    have e1 : (TL.tl x).length = x.length := len_cps x
    omega
  · have hm : TL.tl q ∈ TL.spl (TL.tl y) 0 [] (TL.tl x) := by rw [← e]; exact List.mem_map.mpr ⟨q, hq, rfl⟩
    exact spl_signs _ (fun c => c ∈ x.cps.toList) _ _ _ (fun c h => by cases h) (fun c h => h) _ hm c hc
theorem mem_sum {α : Type} (f : α → Nat) : ∀ {l : List α} {a : α}, a ∈ l → f a ≤ (l.map f).sum
  | x :: r, a, h => by
    rw [List.map_cons, List.sum_cons]
    rcases List.mem_cons.mp h with rfl | h
    · omega
    · have := mem_sum f h
      omega
theorem Parts.len {x : Str} {ps : List Str} (h : Parts x ps) {q : Str} (hq : q ∈ ps) : q.length ≤ x.length := Nat.le_trans (mem_sum _ hq) h.sum
theorem sp_parts (x : Str) : Parts x (Txt.split x " ") := parts_of (by rw [sp_tl]; simp) (by decide +kernel)
theorem nl_parts (x : Str) : Parts x (Txt.split x "\n") := parts_of (by rw [nl_tl]; simp) (by decide +kernel)
section
variable {P : Program} {w : World} {K : PySem.W.Frag} {mg : Str → Option Value} {base : Heap}
/-! ### read_row, of any line -/
def spReadO : Sp := fun vs H Q _ => ∃ x : Str, vs = [.str x] ∧ x.length ≤ 100000 ∧ ∀ H' v, Ext H H' → ORowAt H' v (readRow (Txt.split x " ")) → Q v H'
theorem scRead : FnScope ["line", "words"] ["line"] (defScope sRead) := ⟨rfl, rfl, rfl, by decide +kernel, rfl, by decide +kernel, by decide +kernel⟩
theorem str_ne {a b : Str} (h : ¬ a = b) : ¬ V.str a = V.str b := fun e => h (V.str.inj e)
theorem ok_read {f : Addr} {fd : FuncData} (F : Fun K "read_row" "read_row" sRead f fd) (T : Names mg) : FnOk P w K mg base CX0 1 f fd ["line"] spReadO := by
  refine F.ok scRead (fun vs H Q E h => ?_) (fun cdv A outer s H vs Q E hr h => ?_)
  · obtain ⟨x, rfl, _⟩ := h
    rfl
  · obtain ⟨x, rfl, hx, k⟩ := h
    have hu := hu_of hr
    have nd := scRead.nd
    refine ⟨_, pss_cons (ps_set (i := 1) nd rfl (.inl rfl) (pe_split (pv 0) pe_str))
      (pss_cons (ps_if (pt_cmpR op_ne (pe_ix ix_list (pv 1) pe_int (fun _ _ => rfl)) pe_str (nomark _)) (pss_one (ps_ret pe_non)) pss_nil)
      (pss_cons (ps_if (pt_cmpR op_eq (pe_callB call_len_seq rfl T.len PySem.boot_len (pa_cons (pv 1) pa_nil)) pe_int (nomark _)) (pss_one (ps_ret (pe_tup (pa_cons (pe_ix ix_list (pv 1) pe_int (fun _ _ => rfl)) (pa_cons pe_non pa_nil))))) pss_nil)
      (pss_cons (ps_if (PW.pt (pw_and (pt_cmpR op_eq (pe_callB call_len_seq rfl T.len PySem.boot_len (pa_cons (pv 1) pa_nil)) pe_int (nomark _)) (pw_and1 (pt_cmpR op_eq (pe_ix ix_list (pv 1) pe_int (fun _ _ => rfl)) pe_str (nomark _))))) (pss_one (ps_ret (pe_tup (pa_cons (pe_ix ix_list (pv 1) pe_int (fun _ _ => rfl)) (pa_cons (pe_ix ix_list (pv 1) pe_int (fun _ _ => rfl)) pa_nil))))) pss_nil)
      (pss_one (ps_ret pe_non))))), ?_⟩
    refine ⟨_, rfl, ⟨_, rfl⟩, _, _, rfl, rfl, by decide +kernel, by rw [sizeLine_eq]; omega, fun p hp => ?_⟩
    have pp := (sp_parts x).ne
    generalize Txt.split x " " = ws at k pp ⊢
    have hs : (upd H p (.lst (ws.map V.str))) p = some (.lst (ws.map V.str)) := upd_same
    have hk : Ext H (upd H p (.lst (ws.map V.str))) := Ext.new hp
    generalize upd H p (.lst (ws.map V.str)) = H1 at hs hk ⊢
    have hfree : ∀ {t}, H1 t = none → True := fun _ => trivial
    match ws, pp, k, hs with
    | [], pp, _, _ => exact absurd rfl pp
    | a :: rest, _, k, hs =>
      have hs0 : atI ((a :: rest).map V.str) ((0 : Nat) : Int) = some (V.str a) := atI_nat rfl
      refine ⟨_, rfl, p, _, _, _, rfl, rfl, SqL.of hs, hs0, rfl, _, rfl, ?_⟩
      by_cases ea : a = ("account" : Str)
      · refine iteNS (congrArg V.str ea) ?_
        refine ⟨_, rfl, p, _, rfl, .inl (SqL.of hs), rfl, _, rfl, ?_⟩
        match rest, k, hs with
        | [], k, hs =>
          refine iteN (by intro z; cases z) ?_
          refine ⟨_, rfl, p, _, rfl, .inl (SqL.of hs), rfl, _, rfl, iteN (by intro z; cases z) ?_⟩
          exact k _ _ hk rfl
        | [n], k, hs =>
          refine iteS rfl ?_
          refine ⟨_, rfl, p, _, _, _, rfl, rfl, SqL.of hs, (show atI [V.str a, V.str n] ((1 : Nat) : Int) = some (V.str n) from atI_nat rfl), by show 2 ≤ sizeLine; decide, fun t ht => ?_⟩
          refine k _ _ (hk.trans (Ext.new ht)) ?_
          show ORowAt _ _ (if a = ("account" : Str) then some (n, none) else none)
          rw [if_pos ea]
          exact ⟨t, rfl, upd_same⟩
        | [n, i], k, hs =>
          refine iteN (by intro z; cases z) ?_
          refine ⟨_, rfl, p, _, rfl, .inl (SqL.of hs), rfl, _, rfl, iteN (by intro z; cases z) ?_⟩
          exact k _ _ hk rfl
        | [n, i, m], k, hs =>
          refine iteN (by intro z; cases z) ?_
          refine ⟨_, rfl, p, _, rfl, .inl (SqL.of hs), rfl, _, rfl, iteS rfl ?_⟩
          refine ⟨_, rfl, p, _, _, _, rfl, rfl, SqL.of hs, (show atI [V.str a, V.str n, V.str i, V.str m] ((2 : Nat) : Int) = some (V.str i) from atI_nat rfl), rfl, _, rfl, ?_⟩
          by_cases ei : i = ("in" : Str)
          · refine iteS (congrArg V.str ei) ?_
            refine ⟨_, rfl, p, _, _, _, rfl, rfl, SqL.of hs, (show atI [V.str a, V.str n, V.str i, V.str m] ((1 : Nat) : Int) = some (V.str n) from atI_nat rfl), _, rfl, p, _, _, _, rfl, rfl, SqL.of hs, (show atI [V.str a, V.str n, V.str i, V.str m] ((3 : Nat) : Int) = some (V.str m) from atI_nat rfl), by show 2 ≤ sizeLine; decide, fun t ht => ?_⟩
            refine k _ _ (hk.trans (Ext.new ht)) ?_
            show ORowAt _ _ (if a = ("account" : Str) ∧ i = ("in" : Str) then some (n, some m) else none)
            rw [if_pos ⟨ea, ei⟩]
            exact ⟨t, rfl, upd_same⟩
          · refine iteN (str_ne ei) ?_
            refine k _ _ hk ?_
            show ORowAt _ _ (if a = ("account" : Str) ∧ i = ("in" : Str) then some (n, some m) else none)
            rw [if_neg (fun z => ei z.2)]
            rfl
        | _ :: _ :: _ :: _ :: _, k, hs =>
          refine iteN (by intro z; have := V.int.inj z; simp at this; omega) ?_
          refine ⟨_, rfl, p, _, rfl, .inl (SqL.of hs), rfl, _, rfl, iteN (by intro z; have := V.int.inj z; simp at this; omega) ?_⟩
          exact k _ _ hk rfl
      · have no : readRow (a :: rest) = none := by
          match rest with
          | [] => rfl
          | [n] => exact if_neg ea
          | [n, i] => rfl
          | [n, i, m] => exact if_neg fun z => ea z.1
          | _ :: _ :: _ :: _ :: _ => rfl
        show if (!decide (V.str a = V.str "account")) = true then _ else _
        rw [decide_eq_false (str_ne ea)]
        refine iteT (k _ _ hk ?_)
        rw [no]
        rfl
end
end Lw

set_option Elab.async false
set_option linter.all false
set_option maxRecDepth 100000
set_option maxHeartbeats 4000000
namespace Lw
open L2 hiding Ext
open PySem PySem.Spec PyProof.Rows Gn Gr Gk Go Gt Gf Gx
/-- what of the text the class Forest has -/
structure FC (K : PySem.W.Frag) (mg : Str → Option Value) (C fI : Addr) (mc : Value) : Prop where
  cl : Cls K C
  make : Mk K C fI
  nP : NoAttr K C "_parents"
  cr : ClX.CRead K C mc
  most : ∃ u, ClX.CVal K C mc "MOST" (.int 8) u
  ha : PySem.W.findIn K (.ref C) "__class__" = some (some (.builtin "object.__class__"))
  hn : PySem.W.specialIn K (.builtin "object.__class__") "__get__" = some (some (.builtin "getset_descriptor.__get__"))
  htk : PySem.W.takesIn K (.builtin "object.__class__") = some true
  hm : PySem.W.mroIn K C (.type "object") = some true
  self : PySem.W.kitOne K (.ref C) (.ref C) = some true
  g : mg "Forest" = some (.ref C)
def kvs (rs : List FRow) : List (Key × V) := rs.map kvOf
def FoAt (C : Addr) (H : Hp) (a : Addr) (rs : List FRow) : Prop := ∃ dx q, H a = some (.ins C dx [("_parents", .ref q)]) ∧ H q = some (.dK (kvs rs))
theorem FoAt.ext {C a : Addr} {H H' : Hp} {rs : List FRow} (h : FoAt C H a rs) (k : Ext H H') : FoAt C H' a rs := by
  obtain ⟨dx, q, h1, h2⟩ := h
  exact ⟨dx, q, k _ _ h1, k _ _ h2⟩
def Good (rs : List FRow) : Prop := 1 ≤ rs.length ∧ rs.length ≤ 8 ∧ GoodF [] rs
theorem kvs_none {rs : List FRow} {n : Str} (h : n ∉ fNames rs) : valV (kvs rs) (Sum.inr n : Key) = none := by
  induction rs with
  | nil => rfl
  | cons r t ih =>
    have h1 : ¬ r.1 = n := fun e => h (by simp [fNames, e])
    have h2 : n ∉ fNames t := fun e => h (List.mem_cons_of_mem _ e)
    show valV ((Sum.inr r.1, parV r.2) :: kvs t) (Sum.inr n : Key) = none
    rw [valV_neg (fun e => h1 (Sum.inr.inj e))]
    exact ih h2
theorem kvs_some : ∀ {rs : List FRow} {r : FRow}, (fNames rs).Nodup → r ∈ rs → valV (kvs rs) (Sum.inr r.1 : Key) = some (parV r.2)
  | [], _, _, h => by cases h
  | x :: t, r, hn, h => by
    have hn' : (x.1 :: fNames t).Nodup := hn
    obtain ⟨n1, n2⟩ := List.nodup_cons.mp hn'
    show valV ((Sum.inr x.1, parV x.2) :: kvs t) (Sum.inr r.1 : Key) = _
    rcases List.mem_cons.mp h with rfl | h
    · exact valV_pos rfl
    · have ne : ¬ x.1 = r.1 := fun e => n1 (by rw [e]; exact List.mem_map.mpr ⟨r, h, rfl⟩)
      rw [valV_neg (fun e => ne (Sum.inr.inj e))]
      exact kvs_some n2 h
section
variable {P : Program} {w : World} {K : PySem.W.Frag} {mg : Str → Option Value} {base : Heap} {C fI : Addr} {mc : Value}
theorem FC.ty (T : FC K mg C fI mc) {H : Hp} {a dx : Addr} {fs : List (Str × V)} (h : H a = some (.ins C dx fs)) : TyX K H (.ref a) (.ref C) := .base (.ins h T.cl T.ha T.hn T.htk T.hm)
/-- the two errors -/
structure XC (K : PySem.W.Frag) (mg : Str → Option Value) (CF CT fTI : Addr) : Prop where
  xF : PySem.W.excIn K CF [.type "ValueError", .type "Exception", .type "BaseException", .type "object"] "ValueError.__new__" = true
  gF : mg "InvalidForest" = some (.ref CF)
  kF : PySem.W.keepIn K (.ref CF) = true
  bF : PySem.W.subIn K (.ref CF) (.type "BaseException") = some true
  tF : PySem.W.typeIn K (.ref CF) = some (.type "type")
  oT : OexC K CT
  gT : mg "InvalidText" = some (.ref CT)
  iT : PySem.W.findIn K (.ref CT) "__init__" = some (some (.ref fTI))
  tT : PySem.W.typeIn K (.ref fTI) = some (.type "function")
  nT : PySem.W.findIn K (.ref CT) "line" = some none
/-! ### InvalidText.__init__ -/
abbrev sTI : Stmt := (cBody (top 5)).getD 0 (.Pass ⟨0, 0, 0, 0⟩)
def spTI (CT : Addr) : Sp := fun vs H Q _ => ∃ (a : Addr) (v : V), vs = [.ref a, v] ∧ H a = some (exo a CT none) ∧ ∀ dx, H dx = none → dx ≠ a → Q .non (upd (upd H dx (exd dx [("line", v)])) a (exo a CT (some dx)))
theorem scTI : FnScope ["self", "line"] ["self", "line"] (defScope sTI) := ⟨rfl, rfl, rfl, by decide +kernel, rfl, by decide +kernel, by decide +kernel⟩
theorem ok_ti {CF CT fTI f : Addr} {fd : FuncData} (F : Fun K "__init__" "InvalidText.__init__" sTI f fd) (X : XC K mg CF CT fTI) : FnOk P w K mg base CX0 1 f fd ["self", "line"] (spTI CT) := by
  refine F.ok scTI (fun vs H Q E h => ?_) (fun cdv A outer s H vs Q E hr h => ?_)
  · obtain ⟨a, v, rfl, _⟩ := h
    rfl
  · obtain ⟨a, v, rfl, ha, k⟩ := h
    refine ⟨_, pss_one (ps_ost (pv 0) (pv 1)), ?_⟩
    exact ⟨_, rfl, _, rfl, a, CT, rfl, X.oT, X.nT, .inl ⟨ha, fun dx h1 h2 => k dx h1 h2⟩⟩
/-! ### which rows are a forest's -/
theorem rowB_ok {E : List Str} {r : FRow} : rowB E (some r) = true ↔ RowOk E r := by
  unfold RowOk
  show (nameOk r.1 && (!decide (r.1 ∈ E) && parB E r.2)) = true ↔ _
  simp only [Bool.and_eq_true, Bool.not_eq_true', decide_eq_false_iff_not]
  constructor
  · rintro ⟨h1, h2, h3⟩
    refine ⟨h1, h2, fun m e => ?_⟩
    rw [e] at h3
    exact of_decide_eq_true h3
  · rintro ⟨h1, h2, h3⟩
    refine ⟨h1, h2, ?_⟩
    cases e : r.2 with
    | none => rfl
    | some m => exact decide_eq_true (h3 m e)
theorem wrong_good : ∀ {rs : List FRow} {E : List Str}, GoodF E rs → wrongAt (rs.map some) E = rs.length
  | [], _, _ => rfl
  | r :: rs, E, g => by
    show (if rowB E (some r) = true then wrongAt (rs.map some) (E ++ [r.1]) + 1 else 0) = _
    rw [if_pos (rowB_ok.mpr g.1), wrong_good g.2]
    rfl
theorem wrong_le : ∀ (os : List (Option FRow)) (E : List Str), wrongAt os E ≤ os.length
  | [], _ => Nat.le_refl _
  | none :: _, _ => Nat.zero_le _
  | some r :: t, E => by
    show (if rowB E (some r) = true then wrongAt t (E ++ [r.1]) + 1 else 0) ≤ t.length + 1
    have := wrong_le t (E ++ [r.1])
    split <;> omega
theorem wrong_all : ∀ {os : List (Option FRow)} {E : List Str}, wrongAt os E = os.length → ∃ rs, os = rs.map some ∧ GoodF E rs
  | [], _, _ => ⟨[], rfl, trivial⟩
  | none :: t, _, h => by
    have h : 0 = t.length + 1 := h
    omega
  | some r :: t, E, h => by
    have h : (if rowB E (some r) = true then wrongAt t (E ++ [r.1]) + 1 else 0) = t.length + 1 := h
    by_cases e : rowB E (some r) = true
    · rw [if_pos e] at h
      obtain ⟨rs, e1, g⟩ := wrong_all (os := t) (E := E ++ [r.1]) (by omega)
      exact ⟨r :: rs, by rw [e1]; rfl, rowB_ok.mp e, g⟩
    · rw [if_neg e] at h
      omega
theorem RowsAt.o {H : Hp} {xs : List V} {rs : List FRow} (h : ORowsAt H xs (rs.map some)) : xs.length = rs.length ∧ ∀ (i : Nat) (r : FRow), rs[i]? = some r → ∃ p, xs[i]? = some (V.ref p) ∧ H p = some (.tup [.str r.1, parV r.2]) := by
  refine ⟨by rw [h.1, List.length_map], fun i r hr => ?_⟩
  obtain ⟨v, h1, p, h2, h3⟩ := h.2 i (some r) (by rw [List.getElem?_map, hr]; rfl)
  exact ⟨p, by rw [h1, h2], h3⟩
/-! ### Forest.__init__, of rows that are a forest's but for their number -/
def spInitO (C CF : Addr) : Sp := fun vs H Q E => ∃ (x l dx : Addr) (xs : List V) (rs : List FRow), vs = [.ref x, .ref l] ∧ H x = some (.ins C dx []) ∧ H l = some (.lst xs) ∧ ORowsAt H xs (rs.map some) ∧ GoodF [] rs ∧ rs.length ≤ 100000 ∧
  (1 ≤ rs.length → rs.length ≤ 8 → ∀ H' D, (∀ a o, a ≠ x → H a = some o → H' a = some o) → H' x = some (.ins C dx [("_parents", .ref D)]) → H' D = some (.dK (kvs rs)) → Q .non H') ∧
  (¬ (1 ≤ rs.length ∧ rs.length ≤ 8) → ∀ H', Ext H H' → E (.ref CF) none H')
theorem scInit : FnScope ["self", "rows", "name", "parent"] ["self", "rows"] (defScope sInit) := ⟨rfl, rfl, rfl, by decide +kernel, rfl, by decide +kernel, by decide +kernel⟩
theorem ok_init {f fW CF CT fTI : Addr} {fd fdW : FuncData} (F : Fun K "__init__" "Forest.__init__" sInit f fd) (T : Names mg) (Z : FC K mg C fI mc) (Y : XC K mg CF CT fTI) (GW : FnOk P w K mg base CX0 3 fW fdW ["rows"] (spWrongO K)) (bW : Binds K fdW ["rows"] []) (kW : PySem.W.keepIn K (.ref fW) = true) (mW : mg "first_wrong" = some (.ref fW)) :
    FnOk P w K mg base (L2.CX P w) 4 f fd ["self", "rows"] (spInitO C CF) := by
  refine F.okX scInit (fun vs H Q E h => ?_) (fun cdv A outer s H vs Q E hr h => ?_)
  · obtain ⟨x, l, dx, xs, rs, rfl, _⟩ := h
    rfl
  · obtain ⟨x, l, dx, xs, rs, rfl, hx, hl, hO, hg, hn, k, kf⟩ := h
    have hu := hu_of hr
    have nd := scInit.nd
    obtain ⟨um, hM⟩ := Z.most
    have hR := RowsAt.o hO
    refine ⟨_, pss_cons (ps_if (pt_not (pt_val (pe_callB call_isiT rfl T.isi (by decide +kernel) (pa_cons (pv 1) (pa_cons (pe_tup (pa_cons (pe_bltn (v := .ty "list") rfl T.list (by decide +kernel) rfl) (pa_cons (pe_bltn (v := .ty "tuple") rfl T.tuple (by decide +kernel) rfl) pa_nil))) pa_nil))))) pss_never pss_nil)
      (pss_cons (ps_if (PW.pt (pw_or (pt_cmpR op_lt (pe_callB call_len_seq rfl T.len PySem.boot_len (pa_cons (pv 1) pa_nil)) pe_int (nomark _)) (pw_or1 (pt_cmpR op_gt (pe_callB call_len_seq rfl T.len PySem.boot_len (pa_cons (pv 1) pa_nil)) (ClX.pe_cval (pe_glob (v := .ref C) rfl Z.g rfl)) (nomark _)))))
        (pss_one (ps_raise rfl (takes_of rfl rfl rfl rfl) (pmk_own PySem.F.excBase_ValueError Y.xF Y.gF Y.kF (raises_own Y.bF Y.tF) rfl))) pss_nil)
      (pss_cons (ps_if (pt_cmpR op_lt (pe_call GW hr rfl mW kW bW .nil pass0 (pa_cons (pv 1) pa_nil)) (pe_callB call_len_seq rfl T.len PySem.boot_len (pa_cons (pv 1) pa_nil)) (nomark _)) pss_never pss_nil)
      (pss_one (ps_fld (pv 0) (pe_dc (own := [("name", 2), ("parent", 3)]) (g := gTup K 2 (gCons (gName 2) (gCons (gName 3) gNil))) (tt := tYes) rfl nd (pi_list (pv 1)) (blkOk_by (N := ["self", "rows", "name", "parent"]) (sc := defScope sInit) (by decide +kernel))
        (fun _ _ _ _ _ => by exact (pg_tup rfl (pgs_cons (pg_name (i := 2) nd rfl (.inl rfl)) (pgs_cons (pg_name (i := 3) nd rfl (.inl rfl)) pgs_nil)))) (fun _ _ _ _ _ => pts_nil) (fun _ _ _ _ _ => pv 2) (fun _ _ _ _ _ => pv 3)) rfl)))), ?_⟩
    have hlen : xs.length = rs.length := hR.1
    refine ⟨_, rfl, by show 2 ≤ sizeLine; decide, fun tp htp => ?_⟩
    have hx1 := new_same (o := .tup [.ty "list", .ty "tuple"]) htp _ _ hx
    have hl1 := new_same (o := .tup [.ty "list", .ty "tuple"]) htp _ _ hl
    have k1 : Ext H (upd H tp (.tup [.ty "list", .ty "tuple"])) := Ext.new htp
    have ht1 : (upd H tp (.tup [.ty "list", .ty "tuple"])) tp = some (.tup [.ty "list", .ty "tuple"]) := upd_same
    generalize upd H tp (.tup [.ty "list", .ty "tuple"]) = H1 at hx1 hl1 k1 ht1 ⊢
    refine ⟨_, tp, _, _, [.type "list", .type "tuple"], true, rfl, ht1, .cons (.ty _) (.cons (.ty _) .nil), (TyT.lst hl1).x, kitAny_cons (b := true) (kit_ty (by decide +kernel)) (fun z => by cases z) (fun _ => rfl), true, rfl, iteF ?_⟩
    refine ⟨_, rfl, l, _, rfl, .inl (SqL.of hl1), _, _, rfl, rfl, _, rfl, ?_⟩
    refine ite2 (fun e => ?_) (fun e => ?_)
    · have e : (xs.length : Int) < 1 := of_decide_eq_true e
      exact iteT (kf (by omega) _ k1)
    have e0 : ¬ (xs.length : Int) < 1 := of_decide_eq_false (Bool.eq_false_iff.mpr e)
    refine ⟨_, rfl, l, _, rfl, .inl (SqL.of hl1), C, mc, _, um, rfl, Z.cr, hM, _, _, rfl, rfl, _, rfl, ?_⟩
    refine ite2 (fun e => ?_) (fun e => ?_)
    · have e : (8 : Int) < xs.length := of_decide_eq_true e
      exact kf (by omega) _ k1
    have e8 : ¬ (8 : Int) < xs.length := of_decide_eq_false (Bool.eq_false_iff.mpr e)
    have hl2' : ∀ r, some r ∈ rs.map some → r.1.length ≤ 100000 := fun r hr' => by
      obtain ⟨r', h1, h2⟩ := List.mem_map.mp hr'
      cases h2
      have := (name_len (good_mem hg h1).1).2
      omega
    refine ⟨_, rfl, l, xs, rs.map some, rfl, fun H' k' => SqL.of (k' _ _ hl1), hO.ext k1, hl2', by rw [List.length_map]; exact hn, fun H2 k2 => ?_⟩
    rw [wrong_good hg]
    have hl2 := k2 _ _ hl1
    have hx2 := k2 _ _ hx1
    refine ⟨_, rfl, l, _, rfl, .inl (SqL.of hl2), _, _, rfl, rfl, _, rfl, iteN (by omega) ?_⟩
    refine ⟨_, rfl, l, rfl, ⟨_, SqL.of hl2⟩, fun D hD => ?_⟩
    refine dc_it walk_list (fun i H' => H' D = some (.dK (kvs (rs.take i))) ∧ Ext H2 H') ⟨upd_same, Ext.new hD⟩ (fun i H' _ ⟨_, e⟩ => SqL.of (e _ _ hl2)) ?_ ?_
    · rintro i y H3 H4 hi ⟨d3, k3⟩ ⟨rfl, hy⟩
      have hir : i < rs.length := by omega
      obtain ⟨p, h1, h2⟩ := hR.2 i _ (List.getElem?_eq_getElem hir)
      rw [h1] at hy
      cases hy
      have ok := good_at hg (List.getElem?_eq_getElem hir)
      rw [List.nil_append] at ok
      refine ⟨p, _, rfl, SqT.of (k3 _ _ (k2 _ _ (k1 _ _ h2))), rfl, _, _, rfl, _, _, rfl, rfl, rfl, yes_of ?_⟩
      refine ⟨_, rfl, _, rfl, kvs (rs.take i), (Sum.inr rs[i].1 : Key), rfl, d3, ?_, ?_, fun a o ha => ?_⟩
      · rw [sizeLine_eq, kvs, List.length_map, List.length_take]
        omega
      · rw [upd_same, putK_new _ (kvs_none ok.2.1)]
        show _ = some (HO.dK ((rs.take (i + 1)).map kvOf))
        rw [take_succ_map kvOf (List.getElem?_eq_getElem hir)]
        rfl
      · rw [upd_ne (ne_of_none ha hD)]
        exact k3 _ _ ha
    · rintro H3 ⟨d3, k3⟩
      rw [hlen, List.take_length] at d3
      refine ⟨_, rfl, x, C, dx, [], rfl, k3 _ _ hx2, Z.cl, Z.nP, by decide, ?_⟩
      refine k (by omega) (by omega) _ D (fun a o na ha => ?_) upd_same ?_
      · rw [upd_ne na]
        exact k3 _ _ (k2 _ _ (k1 _ _ ha))
      · rw [upd_ne (ne_of_none hx2 hD).symm]
        exact d3
end
end Lw

set_option Elab.async false
set_option linter.all false
set_option maxRecDepth 100000
set_option maxHeartbeats 4000000
namespace Lw
open L2 hiding Ext
open PySem PySem.Spec PyProof.Rows Gn Gr Gk Go Gt Gf Gx
section
variable {P : Program} {w : World} {K : PySem.W.Frag} {mg : Str → Option Value} {base : Heap} {C fI : Addr} {mc : Value}
theorem keys_strs (rs : List FRow) : ((kvs rs).map fun kv => kV kv.1) = (fNames rs).map V.str := by
  unfold kvs fNames
  rw [List.map_map, List.map_map]
  rfl
/-! ### names -/
def spNames (C : Addr) : Sp := fun vs H Q _ => ∃ (a : Addr) (rs : List FRow), vs = [.ref a] ∧ FoAt C H a rs ∧ ∀ H' t, Ext H H' → H t = none → H' t = some (.tup ((fNames rs).map V.str)) → Q (.ref t) H'
theorem scNames : FnScope ["self"] ["self"] (defScope sNames) := ⟨rfl, rfl, rfl, by decide +kernel, rfl, by decide +kernel, by decide +kernel⟩
theorem ok_names {f : Addr} {fd : FuncData} (F : Fun K "names" "Forest.names" sNames f fd) (T : Names mg) (Z : FC K mg C fI mc) : FnOk P w K mg base CX0 1 f fd ["self"] (spNames C) := by
  refine F.ok scNames (fun vs H Q E h => ?_) (fun cdv A outer s H vs Q E hr h => ?_)
  · obtain ⟨a, rs, rfl, _⟩ := h
    rfl
  · obtain ⟨a, rs, rfl, ⟨dx, q, h1, h2⟩, k⟩ := h
    refine ⟨_, pss_one (ps_ret (pe_callTy (call_tuple_dK rfl) rfl T.tuple (by decide +kernel) (pa_cons (pe_fld (pv 0) rfl) pa_nil))), ?_⟩
    refine ⟨_, rfl, a, C, dx, _, _, rfl, h1, Z.cl, Z.nP, rfl, q, _, rfl, h2, fun t ht => ?_⟩
    rw [keys_strs]
    exact k _ t (Ext.new ht) ht upd_same
end
theorem sum_le {α : Type} (f : α → Nat) {b : Nat} : ∀ l : List α, (∀ x ∈ l, f x ≤ b) → (l.map f).sum ≤ l.length * b
  | [], _ => by simp
  | x :: r, h => by
    have h1 := h x (List.mem_cons_self ..)
    have h2 := sum_le f r fun y hy => h y (List.mem_cons_of_mem _ hy)
    rw [List.map_cons, List.sum_cons, List.length_cons, Nat.succ_mul]
    omega
def parOf (rs : List FRow) (n : Str) : Option Str := (rs.find? fun r => decide (r.1 = n)).bind (·.2)
theorem parOf_at : ∀ {rs : List FRow} {r : FRow}, (fNames rs).Nodup → r ∈ rs → parOf rs r.1 = r.2
  | [], _, _, h => by cases h
  | x :: t, r, hn, h => by
    have hn' : (x.1 :: fNames t).Nodup := hn
    obtain ⟨n1, n2⟩ := List.nodup_cons.mp hn'
    unfold parOf
    rcases List.mem_cons.mp h with rfl | h
    · rw [List.find?_cons_of_pos (by simp)]
      rfl
    · have ne : ¬ x.1 = r.1 := fun e => n1 (by rw [e]; exact List.mem_map.mpr ⟨r, h, rfl⟩)
      rw [List.find?_cons_of_neg (by simpa using ne)]
      exact parOf_at n2 h
def ancF (rs : List FRow) : Nat → Str → List Str
  | 0, _ => []
  | k + 1, n => n :: match parOf rs n with
    | none => []
    | some m => ancF rs k m
def ancR (rs : List FRow) (k : Nat) : Option Str → List Str
  | none => []
  | some m => ancF rs k m
theorem ancF_s (rs : List FRow) (k : Nat) (n : Str) : ancF rs (k + 1) n = n :: ancR rs k (parOf rs n) := by
  show n :: _ = n :: _
  cases parOf rs n <;> rfl
section
variable {P : Program} {w : World} {K : PySem.W.Frag} {mg : Str → Option Value} {base : Heap} {C fI : Addr} {mc : Value}
/-! ### ancestors -/
theorem par_idx {rs : List FRow} (hg : GoodF [] rs) {j : Nat} {r : FRow} (h : rs[j]? = some r) {m : Str} (hm : r.2 = some m) : ∃ j' r', j' < j ∧ rs[j']? = some r' ∧ r'.1 = m := by
  have ok := (good_at hg h).2.2 m hm
  rw [List.nil_append] at ok
  obtain ⟨r', h1, h2⟩ := List.mem_map.mp ok
  obtain ⟨j', hj⟩ := List.mem_iff_getElem?.mp h1
  have hlt : j' < j := by
    have := (List.getElem?_eq_some_iff.mp hj).1
    rw [List.length_take] at this
    omega
  rw [List.getElem?_take_of_lt hlt] at hj
  exact ⟨j', r', hlt, hj, h2⟩
def spAnc (C : Addr) : Sp := fun vs H Q _ => ∃ (a : Addr) (rs : List FRow) (i : Nat) (r : FRow), vs = [.ref a, .str r.1] ∧ FoAt C H a rs ∧ Good rs ∧ rs[i]? = some r ∧
  ∀ H' l, Ext H H' → H l = none → H' l = some (.lst ((ancF rs (i + 1) r.1).map V.str)) → Q (.ref l) H'
theorem scAnc : FnScope ["self", "name", "found", "above"] ["self", "name"] (defScope sAnc) := ⟨rfl, rfl, rfl, by decide +kernel, rfl, by decide +kernel, by decide +kernel⟩
theorem ok_anc {f pN fN : Addr} {fd fdN : FuncData} (F : Fun K "ancestors" "Forest.ancestors" sAnc f fd) (T : Names mg) (Z : FC K mg C fI mc) (hpN : PropOf K C "names" pN fN) (GN : FnOk P w K mg base CX0 1 fN fdN ["self"] (spNames C)) (bN : Binds K fdN ["self"] []) :
    FnOk P w K mg base CX0 3 f fd ["self", "name"] (spAnc C) := by
  refine F.ok scAnc (fun vs H Q E h => ?_) (fun cdv A outer s H vs Q E hr h => ?_)
  · obtain ⟨a, rs, i, r, rfl, _⟩ := h
    rfl
  · obtain ⟨a, rs, i, r, rfl, ⟨dx, q, h1, h2⟩, ⟨g1, g8, hg⟩, hi, k⟩ := h
    have hu := hu_of hr
    have nd := scAnc.nd
    have hnd := (good_nodup hg).1
    refine ⟨_, pss_cons (ps_if (pt_cmpR op_notIn_seq (pv 1) (pe_prop (pv 0) Z.cl hpN GN hr bN .nil pass0 rfl) rfl) pss_never pss_nil)
      (pss_cons (ps_set (i := 2) nd rfl (.inl rfl) (pe_lst (pa_cons (pv 1) pa_nil)))
      (pss_cons (ps_set (i := 3) nd rfl (.inl rfl) (pe_dget hu (pe_fld (pv 0) rfl) (pv 1) (fun _ _ => rfl)))
      (pss_cons (ps_while PassesOwn.never (pt_cmpR op_notN (pv 3) pe_non (nomark _))
        (pss_cons (ps_expr (pe_bm PySem.F.plainAttrs_list PySem.F.slot_list_append PySem.F.type_list_append mt_append (pv 2) (pa_cons (pv 3) pa_nil)))
        (pss_one (ps_set (i := 3) nd rfl (.inl rfl) (pe_dget hu (pe_fld (pv 0) rfl) (pv 3) (fun _ _ => rfl))))))
      (pss_one (ps_ret (pv 2)))))), ?_⟩
    have hrm : r ∈ rs := List.mem_of_getElem? hi
    have hin : r.1 ∈ fNames rs := List.mem_map.mpr ⟨r, hrm, rfl⟩
    have hil : i < rs.length := (List.getElem?_eq_some_iff.mp hi).1
    refine ⟨_, rfl, _, rfl, a, dx, _, rfl, h1, a, rs, rfl, ⟨dx, q, h1, h2⟩, fun H1 t k1 ht0 ht => ?_⟩
    refine ⟨t, _, rfl, .inr (SqT.of ht), rfl, strs_flat _, _, rfl, ?_⟩
    rw [inV_strs, decide_eq_true hin]
    refine iteF ?_
    refine ⟨_, rfl, by show 1 ≤ sizeLine; decide, fun l hl => ?_⟩
    have hlH : H l = none := by
      cases e : H l with
      | none => rfl
      | some u => rw [k1 _ _ e] at hl; cases hl
    have k2 : Ext H (upd H1 l (.lst [.str r.1])) := k1.trans (Ext.new hl)
    have hl2 : (upd H1 l (.lst [.str r.1])) l = some (.lst ([r.1].map V.str)) := upd_same
    generalize upd H1 l (.lst [.str r.1]) = H2 at k2 hl2 ⊢
    have get : ∀ {H' : Hp} {x : FRow}, Ext H H' → x ∈ rs → DGet H' q (.str x.1) (some (parV x.2)) := by
      intro H' x kk hx
      rw [← kvs_some hnd hx]
      exact DGet.k (k := Sum.inr x.1) (kk _ _ h2)
    refine ⟨_, rfl, a, C, dx, _, _, rfl, k2 _ _ h1, Z.cl, Z.nP, rfl, _, rfl, q, _, rfl, get k2 hrm, ?_⟩
    refine while_by (fun σ H' => ∃ (pq : Option Str) (pre : List Str) (kk : Nat), σ = [some (.ref a), some (.str r.1), some (.ref l), some (parV pq)] ∧ H' l = some (.lst (pre.map V.str)) ∧ pre.length + kk = i + 1 ∧
        (∀ m, pq = some m → ∃ (j : Nat) (r' : FRow), j < kk ∧ rs[j]? = some r' ∧ r'.1 = m) ∧ pre ++ ancR rs kk pq = ancF rs (i + 1) r.1 ∧ Ext H H')
      (fun _ H' => match H' l with | some (.lst xs) => 100 - xs.length | _ => 0) ⟨r.2, [r.1], i, rfl, hl2, by simp; omega, fun m hm => ?_, ?_, k2⟩ ?_ ?_
    · obtain ⟨j', r', a1, a2, a3⟩ := par_idx hg hi hm
      exact ⟨j', r', a1, a2, a3⟩
    · rw [ancF_s, parOf_at hnd hrm]
      rfl
    · rintro σ H3 ⟨pq, pre, kk, rfl, e3, hk, hm, he, k3⟩
      cases pq with
      | none =>
        refine ⟨_, rfl, rfl, _, rfl, iteNS rfl ?_⟩
        refine ⟨_, rfl, k _ l k3 hlH ?_⟩
        rw [e3]
        have : pre = ancF rs (i + 1) r.1 := by rw [← he]; simp [ancR]
        rw [this]
      | some m =>
        obtain ⟨j, r', j1, j2, rfl⟩ := hm m rfl
        have hr' : r' ∈ rs := List.mem_of_getElem? j2
        refine ⟨_, rfl, rfl, _, rfl, ?_⟩
        show if (!decide (V.str r'.1 = V.non)) = true then _ else _
        rw [decide_eq_false (by intro z; cases z)]
        refine iteT ?_
        refine ⟨_, rfl, .inl ⟨rfl, _, SqL.of e3⟩, _, rfl, l, _, _, rfl, rfl, e3, ?_, ?_⟩
        · rw [sizeLine_eq, List.length_map]
          omega
        have k4 : Ext H (upd H3 l (.lst (pre.map V.str ++ [.str r'.1]))) := fun b o hb => by
          rw [upd_ne (ne_of_none hb hlH)]
          exact k3 _ _ hb
        refine ⟨_, rfl, a, C, dx, _, _, rfl, k4 _ _ h1, Z.cl, Z.nP, rfl, _, rfl, q, _, rfl, get k4 hr', ?_⟩
        obtain ⟨kp, rfl⟩ : ∃ kp, kk = kp + 1 := ⟨kk - 1, by omega⟩
        refine ⟨⟨r'.2, pre ++ [r'.1], kp, rfl, by rw [upd_same, List.map_append]; rfl, by rw [List.length_append]; show pre.length + 1 + kp = _; omega, fun m' hm' => ?_, ?_, k4⟩, ?_⟩
        · obtain ⟨j', r'', a1, a2, a3⟩ := par_idx hg j2 hm'
          exact ⟨j', r'', by omega, a2, a3⟩
        · rw [← he]
          show pre ++ [r'.1] ++ ancR rs kp r'.2 = pre ++ ancF rs (kp + 1) r'.1
          rw [ancF_s, parOf_at hnd hr', List.append_assoc]
          rfl
        · show (match (upd H3 l (.lst (pre.map V.str ++ [.str r'.1]))) l with | some (.lst xs) => 100 - xs.length | _ => 0) < (match H3 l with | some (.lst xs) => 100 - xs.length | _ => 0)
          rw [upd_same, e3]
          show 100 - (pre.map V.str ++ [V.str r'.1]).length < 100 - (pre.map V.str).length
          rw [List.length_append, List.length_map]
          show 100 - (pre.length + 1) < _
          omega
    · exact fun σ H Q Q' hq ⟨v, e1, e2, b, e3, h⟩ => ⟨v, e1, e2, b, e3, hq _ _ h⟩
end
/-! ### parse -/
inductive Due where
  | rows (rs : List FRow)
  | text (n : Nat)
  | forest
def rd (l : Str) : Option FRow := readRow (Txt.split l " ")
/-- the lines of a text; whether the last one is ended -/
def bodyOf (ls : List Str) : List Str := if ls.getLast? = some Str.empty then ls.dropLast else ls
def endedB (ls : List Str) : Bool := decide (ls.getLast? = some Str.empty)
def dueL (ls : List Str) : Due :=
  let os := (bodyOf ls).map rd
  if wrongAt os [] < os.length ∨ endedB ls = false then .text (wrongAt os []) else if 1 ≤ os.length ∧ os.length ≤ 8 then .rows (os.filterMap id) else .forest
def dueOf (x : Str) : Due := dueL (Txt.split x "\n")
/-- how parse ends -/
def Out (C CT CF : Addr) (H : Hp) (Q : VK) (E : XK) : Due → Prop
  | .rows rs => Good rs → ∀ H' a, Ext H H' → H a = none → FoAt C H' a rs → Q (.ref a) H'
  | .text n => ∀ H' d, Ext H H' → H d = none → H' d = some (.xd [("line", .int (n : Nat))]) → E (.ref CT) (some d) H'
  | .forest => ∀ H', Ext H H' → E (.ref CF) none H'
def spParseO (C CT CF : Addr) : Sp := fun vs H Q E => ∃ v, vs = [v] ∧ ((∃ x : Str, v = .str x ∧ x.length ≤ 90000 ∧ Out C CT CF H Q E (dueOf x)) ∨ (∃ T, TyT H v T ∧ kitB T "str" = some false ∧ Out C CT CF H Q E (.text 0)))
theorem readRow_mem {ws : List Str} {r : FRow} (h : readRow ws = some r) : r.1 ∈ ws := by
  match ws, h with
  | [], h => cases h
  | [_], h => cases h
  | [a, n], h =>
    have h : (if a = ("account" : Str) then some (n, none) else none) = some r := h
    split at h
    · cases h
      simp
    · cases h
  | [_, _, _], h => cases h
  | [a, n, i, m], h =>
    have h : (if a = ("account" : Str) ∧ i = ("in" : Str) then some (n, some m) else none) = some r := h
    split at h
    · cases h
      simp
    · cases h
  | _ :: _ :: _ :: _ :: _ :: _, h => cases h
theorem filter_some : ∀ rs : List FRow, (rs.map some).filterMap id = rs
  | [] => rfl
  | r :: rs => by
    show r :: (rs.map some).filterMap id = _
    rw [filter_some rs]
theorem ORowsAt.snoc {H : Hp} {vs : List V} {os : List (Option FRow)} {v : V} {o : Option FRow} (h : ORowsAt H vs os) (hv : ORowAt H v o) : ORowsAt H (vs ++ [v]) (os ++ [o]) := by
  refine ⟨by rw [List.length_append, List.length_append, h.1]; rfl, fun i x hx => ?_⟩
  by_cases e : i < os.length
  · rw [List.getElem?_append_left e] at hx
    rw [List.getElem?_append_left (by rw [h.1]; exact e)]
    exact h.2 i x hx
  · rw [List.getElem?_append_right (by omega)] at hx
    rw [List.getElem?_append_right (by rw [h.1]; omega), h.1]
    have z : i - os.length = 0 := by
      have := (List.getElem?_eq_some_iff.mp hx).1
      simpa using this
    rw [z] at hx ⊢
    cases hx
    exact ⟨v, rfl, hv⟩
section
variable {P : Program} {w : World} {K : PySem.W.Frag} {mg : Str → Option Value} {base : Heap} {C fI : Addr} {mc : Value}
abbrev nParse : List Str := ["text", "lines", "rest", "rows", "wrong", "line"]
theorem scParse : FnScope nParse ["text"] (defScope sParse) := ⟨rfl, rfl, rfl, by decide +kernel, rfl, by decide +kernel, by decide +kernel⟩
/-- what an InvalidText leaves -/
theorem text_made {CT : Addr} {H1 : Hp} {n : Int} {E : XK} {a : Addr} (ha : H1 a = none) (k : ∀ H' d, Ext H1 H' → H1 d = none → H' d = some (.xd [("line", .int n)]) → E (.ref CT) (some d) H') :
    spTI CT [.ref a, .int n] (upd H1 a (exo a CT none)) (fun v H2 => v = .non ∧ ∃ (d : Addr) (fs : List (Str × V)), H2 a = some (exo a CT (some d)) ∧ H2 d = some (exd d fs) ∧ H1 d = none ∧ E (.ref CT) (some d) (upd (del H2 a) d (.xd fs))) (fun _ _ _ => False) := by
  refine ⟨a, .int n, rfl, upd_same, fun dx h1 h2 => ⟨rfl, dx, [("line", .int n)], upd_same, ?_, ?_, ?_⟩⟩
  · rw [upd_ne h2, upd_same]
  · rw [upd_ne h2] at h1
    exact h1
  · have hd : H1 dx = none := by rw [upd_ne h2] at h1; exact h1
    refine k _ dx (fun b o hb => ?_) hd upd_same
    rw [upd_ne (ne_of_none hb hd), del_ne (ne_of_none hb ha), upd_ne (ne_of_none hb ha), upd_ne (ne_of_none hb hd), upd_ne (ne_of_none hb ha)]
    exact hb
theorem ok_parse {f fR fW CF CT fTI : Addr} {fd fdR fdW fdI fdTI : FuncData} (F : Fun K "parse" "Forest.parse" sParse f fd) (T : Names mg) (Z : FC K mg C fI mc) (Y : XC K mg CF CT fTI)
    (GR : FnOk P w K mg base CX0 1 fR fdR ["line"] spReadO) (bR : Binds K fdR ["line"] []) (kR : PySem.W.keepIn K (.ref fR) = true) (mR : mg "read_row" = some (.ref fR))
    (GW : FnOk P w K mg base CX0 3 fW fdW ["rows"] (spWrongO K)) (bW : Binds K fdW ["rows"] []) (kW : PySem.W.keepIn K (.ref fW) = true) (mW : mg "first_wrong" = some (.ref fW))
    (GI : FnOk P w K mg base (L2.CX P w) 4 fI fdI ["self", "rows"] (spInitO C CF)) (bI : Binds K fdI ["self", "rows"] [])
    (GT : FnOk P w K mg base CX0 1 fTI fdTI ["self", "line"] (spTI CT)) (bT : Binds K fdTI ["self", "line"] []) :
    FnOk P w K mg base (L2.CX P w) 6 f fd ["text"] (spParseO C CT CF) := by
  refine F.okX scParse (fun vs H Q E h => ?_) (fun cdv A outer s H vs Q E hr h => ?_)
  · obtain ⟨v, rfl, _⟩ := h
    rfl
  · obtain ⟨v, rfl, h⟩ := h
    have hu := hu_of hr
    have nd := scParse.nd
    have hr1 : Room 1 (A.deeper (envOfC "Forest.parse" (defScope sParse) s.heap.objs.size f cdv)) := hr.mono (by decide)
    have hr2 : Room 2 (A.deeper (envOfC "Forest.parse" (defScope sParse) s.heap.objs.size f cdv)) := hr.mono (by decide)
    have hr3 : Room 3 (A.deeper (envOfC "Forest.parse" (defScope sParse) s.heap.objs.size f cdv)) := hr.mono (by decide)
    refine ⟨_, pss_cons (ps_if (pt_not (pt_val (pe_callB call_isi rfl T.isi (by decide +kernel) (pa_cons (pv 0) (pa_cons (pe_bltn (v := .ty "str") rfl T.str (by decide +kernel) rfl) pa_nil)))))
        (pss_one (ps_raise rfl (takes_of rfl rfl rfl rfl) (pmk_oex Y.oT Y.iT Y.tT GT hr2 bT .nil (fun _ _ _ _ _ _ _ h => False.elim h) rfl Y.gT (pa_cons pe_int pa_nil)))) pss_nil)
      (pss_cons (ps_set (i := 1) nd rfl (.inl rfl) (pe_split (pv 0) pe_str))
      (pss_cons (ps_set (i := 2) nd rfl (.inl rfl) (pe_bm0 PySem.F.plainAttrs_list PySem.F.slot_list_pop PySem.F.type_list_pop mt_pop (pv 1)))
      (pss_cons (ps_if (pt_cmpR op_ne (pv 2) pe_str (nomark _)) (pss_one (ps_expr (pe_bm PySem.F.plainAttrs_list PySem.F.slot_list_append PySem.F.type_list_append mt_append (pv 1) (pa_cons (pv 2) pa_nil)))) pss_nil)
      (pss_cons (ps_setLc (i := 3) (own := [("line", 5)]) (g := gName 5) (tt := tYes) rfl nd rfl rfl (sw_true rfl rfl rfl (by decide +kernel)) (pi_list (pv 1)) (blkOk_by (N := nParse) (sc := defScope sParse) (by decide +kernel))
        (fun _ _ _ _ _ => pg_name (i := 5) nd rfl (.inl rfl)) (fun _ _ _ _ _ => pts_nil) (fun _ _ _ _ _ => pe_call GR hr1 rfl mR kR bR .nil pass0 (pa_cons (pv 5) pa_nil)))
      (pss_cons (ps_set (i := 4) nd rfl (.inl rfl) (pe_call GW hr3 rfl mW kW bW .nil pass0 (pa_cons (pv 3) pa_nil)))
      (pss_cons (ps_if (PW.pt (pw_or (pt_cmpR op_lt (pv 4) (pe_callB call_len_seq rfl T.len PySem.boot_len (pa_cons (pv 3) pa_nil)) (nomark _)) (pw_or1 (pt_cmpR op_ne (pv 2) pe_str (nomark _)))))
        (pss_one (ps_raise rfl (takes_of rfl rfl rfl rfl) (pmk_oex Y.oT Y.iT Y.tT GT hr2 bT .nil (fun _ _ _ _ _ _ _ h => False.elim h) rfl Y.gT (pa_cons (pv 4) pa_nil)))) pss_nil)
      (pss_one (ps_ret (pe_make Z.make GI hr rfl Z.g bI .nil (passes_call (takes_of rfl rfl rfl rfl) fun _ _ _ _ h => h) (pa_cons (pv 3) pa_nil)))))))))), ?_⟩
    rcases h with ⟨x, rfl, hx, k⟩ | ⟨U, hty, hkit, k⟩
    · refine ⟨_, rfl, _, _, _, _, true, rfl, .ty _, (TyT.str (H := H) x).x, kit_ty (by decide +kernel), true, rfl, iteF ?_⟩
      refine ⟨_, rfl, ⟨_, rfl⟩, _, _, rfl, rfl, by decide +kernel, by rw [sizeLine_eq]; omega, fun p hp => ?_⟩
      have pp := nl_parts x
      unfold dueOf at k
      generalize Txt.split x "\n" = ls at k pp ⊢
      obtain ⟨init, rest, rfl⟩ : ∃ init rest, ls = init ++ [rest] := ⟨ls.dropLast, ls.getLast pp.ne, (List.dropLast_concat_getLast pp.ne).symm⟩
      have hlast : ((init ++ [rest]).map V.str)[((init ++ [rest]).map V.str).length - 1]? = some (V.str rest) := by
        rw [List.map_append, List.length_append]
        show (_ ++ [V.str rest])[_]? = _
        rw [List.getElem?_append_right (by show _ ≤ _ + 1 - 1; omega)]
        show [V.str rest][_ + 1 - 1 - _]? = _
        simp
      have hdrop : ((init ++ [rest]).map V.str).dropLast = init.map V.str := by
        rw [List.map_append]
        exact List.dropLast_concat
      refine ⟨_, rfl, .inl ⟨rfl, _, SqL.of upd_same⟩, p, _, _, rfl, rfl, upd_same, hlast, ?_⟩
      rw [hdrop]
      have hp1 : (upd (upd H p (.lst ((init ++ [rest]).map V.str))) p (.lst (init.map V.str))) p = some (.lst (init.map V.str)) := upd_same
      have k1 : Ext H (upd (upd H p (.lst ((init ++ [rest]).map V.str))) p (.lst (init.map V.str))) := fun b o hb => by
        rw [upd_ne (ne_of_none hb hp), upd_ne (ne_of_none hb hp)]
        exact hb
      generalize upd (upd H p (.lst ((init ++ [rest]).map V.str))) p (.lst (init.map V.str)) = H1 at hp1 k1 ⊢
      have il : init.length + 1 ≤ x.length + 1 := by
        have := pp.count
        rw [List.length_append] at this
        exact this
      have gl : (init ++ [rest]).getLast? = some rest := by simp
      have e_non : ∀ s : Str, (V.str s = V.str "") ↔ s = Str.empty := fun s => ⟨fun z => by rw [← e_eq]; exact V.str.inj z, fun z => by rw [z, e_eq]⟩
      refine ⟨_, rfl, rfl, _, rfl, ?_⟩
      show if (!decide (V.str rest = V.str "")) = true then _ else _
      refine ite2 (fun e => ?A) (fun e => ?B)
      case' A =>
        have er : ¬ rest = Str.empty := fun z => by rw [decide_eq_true ((e_non rest).mpr z)] at e; cases e
        refine ⟨_, rfl, .inl ⟨rfl, _, SqL.of hp1⟩, _, rfl, p, _, _, rfl, rfl, hp1, by rw [List.length_map, sizeLine_eq]; omega, ?_⟩
        have hb : (upd H1 p (.lst (init.map V.str ++ [V.str rest]))) p = some (.lst ((init ++ [rest]).map V.str)) := by rw [upd_same, List.map_append]; rfl
        have k2 : Ext H (upd H1 p (.lst (init.map V.str ++ [V.str rest]))) := fun b o hb' => by
          rw [upd_ne (ne_of_none hb' hp)]
          exact k1 _ _ hb'
        generalize upd H1 p (.lst (init.map V.str ++ [V.str rest])) = H2 at hb k2 ⊢
        obtain ⟨body, hbody⟩ : ∃ body, body = init ++ [rest] := ⟨_, rfl⟩
        rw [← hbody] at hb
        have hbo : bodyOf (init ++ [rest]) = body := by
          unfold bodyOf
          rw [gl, if_neg (fun z => er (Option.some.inj z)), hbody]
        have hend : endedB (init ++ [rest]) = false := by
          unfold endedB
          rw [gl]
          exact decide_eq_false (fun z => er (Option.some.inj z))
        have hbl : body.length ≤ x.length + 1 := by rw [hbody, List.length_append]; exact il
        have hbm : ∀ q ∈ body, q ∈ init ++ [rest] := fun q hq => by rw [hbody] at hq; exact hq
      case' B =>
        have er : rest = Str.empty := by
          by_cases z : V.str rest = V.str ""
          · exact (e_non rest).mp z
          · rw [decide_eq_false z] at e
            exact absurd rfl e
        have hb := hp1
        have k2 := k1
        generalize H1 = H2 at hb k2 ⊢
        obtain ⟨body, hbody⟩ : ∃ body, body = init := ⟨_, rfl⟩
        rw [← hbody] at hb
        have hbo : bodyOf (init ++ [rest]) = body := by
          unfold bodyOf
          rw [gl, if_pos (congrArg some er), hbody]
          exact List.dropLast_concat
        have hend : endedB (init ++ [rest]) = true := by
          unfold endedB
          rw [gl]
          exact decide_eq_true (congrArg some er)
        have hbl : body.length ≤ x.length + 1 := by rw [hbody]; omega
        have hbm : ∀ q ∈ body, q ∈ init ++ [rest] := fun q hq => by rw [hbody] at hq; exact List.mem_append_left _ hq
      all_goals
        unfold dueL at k
        dsimp only at k
        rw [hbo, hend] at k
        have hql : ∀ q ∈ body, q.length ≤ x.length := fun q hq => pp.len (hbm q hq)
        refine ⟨_, rfl, p, rfl, ⟨_, SqL.of hb⟩, fun D hD => ?_⟩
        have hDH : H D = none := by
          cases e : H D with
          | none => rfl
          | some u => rw [k2 _ _ e] at hD; cases hD
        refine lc_it walk_list (fun i H' => ∃ vs, H' D = some (.lst vs) ∧ ORowsAt H' vs ((body.take i).map rd) ∧ Ext H2 H') ⟨[], upd_same, ⟨rfl, fun i r h => by simp at h⟩, Ext.new hD⟩ (fun i H' _ ⟨_, _, _, e⟩ => SqL.of (e _ _ hb)) ?_ ?_
        · rintro i y H3 H4 hi ⟨vs, d3, r3, k3⟩ ⟨rfl, hy⟩
          have hir : i < body.length := by simpa using hi
          rw [List.getElem?_map, List.getElem?_eq_getElem hir] at hy
          cases hy
          refine ⟨rfl, yes_of ?_⟩
          have hl1 := hql _ (List.getElem_mem hir)
          refine ⟨_, rfl, body[i], rfl, by omega, fun H4 v k4 hv => ?_⟩
          have hl3 : vs.length = _ := r3.1
          rw [List.length_map, List.length_take] at hl3
          refine ⟨vs, k4 _ _ d3, by rw [sizeLine_eq]; omega, vs ++ [v], upd_same, ?_, fun b o hb' => ?_⟩
          · have e4 := ORowsAt.snoc (r3.ext k4) hv
            have et : (body.take (i + 1)).map rd = (body.take i).map rd ++ [rd body[i]] := take_succ_map rd (List.getElem?_eq_getElem hir)
            rw [et]
            refine ⟨e4.1, fun j o ho => ?_⟩
            obtain ⟨u, a1, a2⟩ := e4.2 j o ho
            refine ⟨u, a1, ?_⟩
            cases o with
            | none => exact a2
            | some r =>
              obtain ⟨q, b1, b2⟩ := a2
              refine ⟨q, b1, ?_⟩
              rw [upd_ne (ne_of b2 (k4 _ _ d3) (by intro z; cases z))]
              exact b2
          · rw [upd_ne (ne_of_none hb' hD)]
            exact k4 _ _ (k3 _ _ hb')
        · rintro H3 ⟨vs, d3, r3, k3⟩
          rw [show (body.map V.str).length = body.length by rw [List.length_map], List.take_length] at r3
          have hvl : vs.length = (body.map rd).length := r3.1
          have hol : (body.map rd).length = body.length := by rw [List.length_map]
          have hnm : ∀ r, some r ∈ body.map rd → r.1.length ≤ 100000 := fun r hr' => by
            obtain ⟨q, q1, q2⟩ := List.mem_map.mp hr'
            have := (sp_parts q).len (readRow_mem q2)
            have := hql q q1
            omega
          refine ⟨_, rfl, D, vs, body.map rd, rfl, fun H' k' => SqL.of (k' _ _ d3), r3, hnm, by omega, fun H4 k4 => ?_⟩
          have d4 := k4 _ _ d3
          have kH4 : Ext H H4 := (k2.trans k3).trans k4
          have wl := wrong_le (body.map rd) []
          refine ⟨_, rfl, _, rfl, D, _, rfl, .inl (SqL.of d4), _, _, rfl, rfl, _, rfl, ?_⟩
          refine ite2 (fun e => ?_) (fun e => ?_)
          · have e : ((wrongAt (body.map rd) [] : Nat) : Int) < (vs.length : Nat) := of_decide_eq_true e
            rw [if_pos (Or.inl (by omega))] at k
            refine iteT ⟨_, rfl, by show 1 ≤ 1000; decide, fun a ha => text_made ha fun H' d k' hd hl => k H' d (kH4.trans k') ?_ hl⟩
            cases e : H d with
            | none => rfl
            | some u => rw [kH4 _ _ e] at hd; cases hd
          have e : ¬ ((wrongAt (body.map rd) [] : Nat) : Int) < (vs.length : Nat) := of_decide_eq_false (Bool.eq_false_iff.mpr e)
          have ew : wrongAt (body.map rd) [] = (body.map rd).length := by omega
          refine ⟨_, rfl, rfl, _, rfl, ?_⟩
          show if (!decide (V.str rest = V.str "")) = true then _ else _
          first
            | (rw [decide_eq_false (fun z => er ((e_non rest).mp z))]
               rw [if_pos (Or.inr rfl)] at k
               refine iteT ⟨_, rfl, by show 1 ≤ 1000; decide, fun a ha => text_made ha fun H' d k' hd hl => k H' d (kH4.trans k') ?_ hl⟩
               cases e : H d with
               | none => rfl
               | some u => rw [kH4 _ _ e] at hd; cases hd)
            | (rw [decide_eq_true ((e_non rest).mpr er)]
               rw [if_neg (by rintro (z | z); exact absurd z (by omega); cases z)] at k
               refine iteF ?_
               obtain ⟨rs, ers, grs⟩ := wrong_all ew
               rw [ers] at k r3 hol
               rw [filter_some, List.length_map] at k
               rw [List.length_map] at hol
               refine ⟨_, rfl, fun z dx hz hdx ne => ?_⟩
               have k15 : Ext H4 (upd (upd H4 dx (.own z)) z (.ins C dx [])) := fun b o hb' => by
                 rw [upd_ne (ne_of_none hb' hz), upd_ne (ne_of_none hb' hdx)]
                 exact hb'
               refine ⟨z, D, dx, vs, rs, rfl, upd_same, k15 _ _ d4, (r3.ext k4).ext k15, grs, by omega, fun g1 g8 H5 D5 k5 i5 d5 => ⟨rfl, ?_⟩, fun ng H5 k5 => ?_⟩
               · rw [if_pos ⟨g1, g8⟩] at k
                 refine k ⟨g1, g8, grs⟩ _ z (fun b o hb' => ?_) ?_ ⟨dx, D5, i5, d5⟩
                 · exact k5 _ _ (ne_of_none (kH4 _ _ hb') hz) (k15 _ _ (kH4 _ _ hb'))
                 · cases e : H z with
                   | none => rfl
                   | some u => rw [kH4 _ _ e] at hz; cases hz
               · rw [if_neg ng] at k
                 exact k H5 ((kH4.trans k15).trans k5))
    · refine ⟨_, rfl, _, _, _, _, false, rfl, .ty _, hty.x, kit_ty hkit, false, rfl, iteT ?_⟩
      refine ⟨by decide, fun a ha => text_made ha k⟩
end
end Lw

set_option Elab.async false
set_option linter.all false
set_option maxRecDepth 100000
set_option maxHeartbeats 4000000
namespace Lw
open L2 hiding Ext
open PySem PySem.Spec PyProof.Rows Gn Gr Gk Go Gt Gf
theorem strlen (a b : Str) : (a ++ b).length = a.length + b.length := strLen_append a b
def RowsAt (H : Hp) (vs : List V) (rs : List FRow) : Prop := vs.length = rs.length ∧ ∀ (i : Nat) (r : FRow), rs[i]? = some r → ∃ p, vs[i]? = some (V.ref p) ∧ H p = some (.tup [.str r.1, parV r.2])
theorem RowsAt.ext {H H' : Hp} {vs : List V} {rs : List FRow} (h : RowsAt H vs rs) (k : Ext H H') : RowsAt H' vs rs :=
  ⟨h.1, fun i r hr => by obtain ⟨p, a, b⟩ := h.2 i r hr; exact ⟨p, a, k _ _ b⟩⟩
theorem RowsAt.snoc {H : Hp} {vs : List V} {rs : List FRow} {p : Addr} {r : FRow} (h : RowsAt H vs rs) (hp : H p = some (.tup [.str r.1, parV r.2])) : RowsAt H (vs ++ [V.ref p]) (rs ++ [r]) := by
  refine ⟨by rw [List.length_append, List.length_append, h.1]; rfl, fun i x hx => ?_⟩
  by_cases e : i < rs.length
  · rw [List.getElem?_append_left e] at hx
    rw [List.getElem?_append_left (by rw [h.1]; exact e)]
    exact h.2 i x hx
  · rw [List.getElem?_append_right (by omega)] at hx
    rw [List.getElem?_append_right (by rw [h.1]; omega), h.1]
    have z : i - rs.length = 0 := by
      have := (List.getElem?_eq_some_iff.mp hx).1
      simpa using this
    rw [z] at hx ⊢
    cases hx
    exact ⟨p, rfl, hp⟩
theorem RowsAt.kp {ns : List Int} {d g c : Addr} {b : Nat} {H H' : Hp} {vs : List V} {rs : List FRow} (h : RowsAt H vs rs) (D : Dw ns d g c b H) (k : Kp d g H H') : RowsAt H' vs rs := by
  obtain ⟨⟨gs, l, t, hd, hg, _, _⟩, _⟩ := D
  exact ⟨h.1, fun i r hr => by
    obtain ⟨p, a, e⟩ := h.2 i r hr
    exact ⟨p, a, k _ _ (ne_of e hd (by intro z; cases z)) (ne_of e hg (by intro z; cases z)) e⟩⟩
abbrev sWords : Stmt := top 21
abbrev sForest : Stmt := top 22
abbrev sWritten : Stmt := top 23
/-! ### names -/
def lettersOnly (x : Str) : Prop := ∀ c ∈ x.cps.toList, c ∈ letters.cps.toList
theorem nameOk_of {x : Str} (h1 : 1 ≤ x.length) (h2 : x.length ≤ 8) (h : lettersOnly x) : nameOk x = true := by
  unfold nameOk
  rw [decide_eq_true h1, decide_eq_true h2, Bool.true_and, Bool.true_and]
  exact List.all_eq_true.mpr fun c hc => by simpa [isL] using h c hc
theorem lo_of {x : Str} (h : nameOk x = true) : lettersOnly x := by
  unfold nameOk at h
  simp only [Bool.and_eq_true, decide_eq_true_eq] at h
  intro c hc
  simpa [isL] using List.all_eq_true.mp h.2.2 c hc
theorem lo_app {x y : Str} (h : lettersOnly x) (k : lettersOnly y) : lettersOnly (x ++ y) := by
  intro c hc
  rw [cps_app] at hc
  exact (List.mem_append.mp hc).elim (h c) (k c)
theorem lo_cut {x : Str} (h : lettersOnly x) (lo hi : Option Int) : lettersOnly (cutS x lo hi) := by
  intro c hc
  unfold cutS at hc
  exact h c (List.mem_of_mem_drop (List.mem_of_mem_take (by simpa using hc)))
theorem cut6 (x : Str) : (cutS x none (some 6)).length ≤ 6 := by
  rw [← len_cps]
  unfold cutS
  show (List.take _ _).toArray.toList.length ≤ 6
  rw [List.toList_toArray, List.length_take]
  have : HT.sIx x.length x.length (some ((6 : Nat) : Int)) = min 6 x.length := HT.sIx_nat _ _ _
  have this : HT.sIx x.length x.length (some 6) = min 6 x.length := this
  rw [this]
  omega
theorem z_len : ("z" : Str).length = 1 := by decide +kernel
theorem z_lo : lettersOnly ("z" : Str) := by unfold lettersOnly; decide +kernel
def cand (x : Str) (c : Nat) : Str := cutS x none (some 6) ++ "z" ++ oneS' c
  where oneS' (c : Nat) : Str := ⟨#[c]⟩
theorem one_len (c : Nat) : (cand.oneS' c).length = 1 := rfl
theorem one_lo {c : Nat} (h : c ∈ letters.cps.toList) : lettersOnly (cand.oneS' c) := by
  intro b hb
  have : b = c := by simpa [cand.oneS'] using hb
  rw [this]
  exact h
theorem cand_ok {x : Str} (h : lettersOnly x) {c : Nat} (hc : c ∈ letters.cps.toList) : nameOk (cand x c) = true := by
  have h6 := cut6 x
  refine nameOk_of ?_ ?_ (lo_app (lo_app (lo_cut h _ _) z_lo) (one_lo hc))
  · unfold cand
    rw [strlen, strlen, z_len, one_len]
    omega
  · unfold cand
    rw [strlen, strlen, z_len, one_len]
    omega
theorem cand_inj {x : Str} {c c' : Nat} (h : cand x c = cand x c') : c = c' := by
  have e : (cand x c).cps.toList = (cand x c').cps.toList := by rw [h]
  unfold cand at e
  rw [cps_app, cps_app, cps_app, cps_app] at e
  have e2 := List.append_cancel_left e
  simpa [cand.oneS'] using e2
def cands (x : Str) : List Str := letters.cps.toList.map (cand x)
theorem nodup_map {α β : Type} {f : α → β} (hf : ∀ a b, f a = f b → a = b) : ∀ {l : List α}, l.Nodup → (l.map f).Nodup
  | [], _ => by simp
  | a :: r, h => by
    obtain ⟨h1, h2⟩ := List.nodup_cons.mp h
    refine List.nodup_cons.mpr ⟨fun z => ?_, nodup_map hf h2⟩
    obtain ⟨b, hb, e⟩ := List.mem_map.mp z
    exact h1 (hf _ _ e ▸ hb)
theorem cands_nodup (x : Str) : (cands x).Nodup := nodup_map (fun _ _ h => cand_inj h) (by decide +kernel)
theorem cands_len (x : Str) : (cands x).length = 26 := by
  unfold cands
  rw [List.length_map]
  decide +kernel
theorem pigeon : ∀ {ws fs : List Str}, ws.Nodup → (∀ x ∈ ws, x ∈ fs) → ws.length ≤ fs.length
  | [], _, _, _ => Nat.zero_le _
  | x :: ws, fs, hn, hs => by
    obtain ⟨n1, n2⟩ := List.nodup_cons.mp hn
    have hx := hs x (List.mem_cons_self ..)
    have q := pigeon (fs := fs.erase x) n2 fun y hy => (List.mem_erase_of_ne (fun e => n1 (by rw [← e]; exact hy))).mpr (hs y (List.mem_cons_of_mem _ hy))
    have := List.length_erase_of_mem hx
    have := List.length_pos_of_mem hx
    rw [List.length_cons]
    omega
theorem fresh_cand (x : Str) {fs : List Str} (h : fs.length ≤ 8) : ∃ w r, (cands x).filter (fun y => !decide (y ∈ fs)) = w :: r ∧ w ∈ cands x ∧ w ∉ fs := by
  cases e : (cands x).filter (fun y => !decide (y ∈ fs)) with
  | nil =>
    exfalso
    have := pigeon (cands_nodup x) (fs := fs) fun y hy => by
      by_cases m : y ∈ fs
      · exact m
      · have : y ∈ (cands x).filter (fun y => !decide (y ∈ fs)) := List.mem_filter.mpr ⟨hy, by simp [m]⟩
        rw [e] at this
        cases this
    rw [cands_len] at this
    omega
  | cons w r =>
    have hw : w ∈ (cands x).filter (fun y => !decide (y ∈ fs)) := by rw [e]; exact List.mem_cons_self ..
    obtain ⟨a, b⟩ := List.mem_filter.mp hw
    exact ⟨w, r, rfl, a, by simpa using b⟩
theorem join_len (ys : List Str) : (Txt.join Str.empty ys).cps.toList = (ys.map fun y => y.cps.toList).flatten := by
  show TL.tl _ = _
  rw [TL.join_eq, TL.tl_join, e_tl]
  have : ∀ ls : List (List Nat), TL.joinL [] ls = ls.flatten := by
    intro ls
    induction ls with
    | nil => rfl
    | cons p r ih =>
      cases r with
      | nil => show p = _; simp
      | cons q r =>
        show p ++ ([] ++ TL.joinL [] (q :: r)) = _
        rw [ih]
        simp
  rw [this]
theorem join_signs (cs : List Nat) : (Txt.join Str.empty (cs.map cand.oneS')).cps.toList = cs := by
  rw [join_len, List.map_map]
  induction cs with
  | nil => rfl
  | cons c r ih =>
    rw [List.map_cons, List.flatten_cons, ih]
    rfl
def ownText : Str := "account in join ask deposit release send lose copy withdraw arrive spent ideal total over"
def owns : List Str := Txt.split ownText " "
theorem owns_ok : ∀ w ∈ owns, nameOk w = true := by decide +kernel
theorem owns_len : owns.length = 15 := by decide +kernel
end Lw

set_option Elab.async false
set_option linter.all false
set_option maxRecDepth 100000
set_option maxHeartbeats 4000000
namespace Lw
open L2 hiding Ext
open PySem PySem.Spec PyProof.Rows Gn Gr Gk Go Gt Gf
section
variable {P : Program} {w : World} {K : PySem.W.Frag} {mg : Str → Option Value} {base : Heap}
/-- the two defs that draw, as they stand -/
structure Draw (P : Program) (w : World) (K : PySem.W.Frag) (mg : Str → Option Value) (base : Heap) (ns : List Int) (fT fP : Addr) (fdT fdP : FuncData) : Prop where
  GT : FnOk P w K mg base CX0 2 fT fdT ["_law_state", "_law_size"] (spTake ns)
  bT : Binds K fdT ["_law_state", "_law_size"] []
  kT : PySem.W.keepIn K (.ref fT) = true
  mT : mg "_law_take" = some (.ref fT)
  GP : FnOk P w K mg base CX0 3 fP fdP ["_law_state", "_law_some"] (spPick K ns)
  bP : Binds K fdP ["_law_state", "_law_some"] []
  kP : PySem.W.keepIn K (.ref fP) = true
  mP : mg "_law_pick" = some (.ref fP)
  len : mg "len" = none
  range : mg "range" = none
/-! ### _law_words -/
abbrev nWords : List Str := ["_law_state", "_law_size", "_law_own", "_law_letters", "_law_found", "_law_k", "_law_word", "_law_j", "_law_letter", "_law_other"]
def spWords (ns : List Int) : Sp := fun vs H Q _ => ∃ (d g c : Addr) (b : Nat) (z : Int), vs = [.ref d, .int z] ∧ Dw ns d g c b H ∧ b ≤ 900000000 ∧ 0 ≤ z ∧ z ≤ 9 ∧
  ∀ (l : Addr) (ws : List Str) (H' : Hp), H l = none → l ≠ d → l ≠ g → H' l = some (.lst (ws.map V.str)) → ws.length = z.toNat → ws.Nodup → (∀ x ∈ ws, nameOk x = true) → Dw ns d g c (b + 200) H' → Kp d g H H' → Q (.ref l) H'
theorem scWords : FnScope nWords ["_law_state", "_law_size"] (defScope sWords) := ⟨rfl, rfl, rfl, by decide +kernel, rfl, by decide +kernel, by decide +kernel⟩
theorem filter_take {α : Type} {l : List α} {i : Nat} {c : α} (p : α → Bool) (h : l[i]? = some c) : (l.take (i + 1)).filter p = (l.take i).filter p ++ (if p c = true then [c] else []) := by
  rw [List.take_add_one, h, List.filter_append]
  show _ ++ List.filter p [c] = _
  cases e : p c <;> simp [e]
theorem sizes1128 : ∀ x ∈ ([.int 1, .int 1, .int 2, .int 8] : List V), ∃ j : Int, x = .int j ∧ 1 ≤ j ∧ j ≤ 8 := by
  intro x hx
  simp only [List.mem_cons, List.not_mem_nil, or_false] at hx
  rcases hx with rfl | rfl | rfl | rfl <;> exact ⟨_, rfl, by decide, by decide⟩
theorem ok_words {f fT fP : Addr} {fd fdT fdP : FuncData} (ns : List Int) (F : Fun K "_law_words" "_law_words" sWords f fd) (R : Draw P w K mg base ns fT fP fdT fdP) : FnOk P w K mg base CX0 4 f fd ["_law_state", "_law_size"] (spWords ns) := by
  refine F.ok scWords (fun vs H Q E h => ?_) (fun cdv A outer s H vs Q E hr h => ?_)
  · obtain ⟨d, g, c, b, z, rfl, _⟩ := h
    rfl
  · obtain ⟨d, g, c, b, z, rfl, D, hb, z0, z8, k⟩ := h
    have hu := hu_of hr
    have nd := scWords.nd
    have hr2 : Room 2 (A.deeper (envOfC "_law_words" (defScope sWords) s.heap.objs.size f cdv)) := hr.mono (by decide)
    refine ⟨_, pss_cons (ps_set (i := 2) nd rfl (.inl rfl) (pe_split pe_str pe_str))
      (pss_cons (ps_asg (pe_tup (pa_cons pe_str (pa_cons (pe_lst pa_nil) pa_nil))) (by exact (pg_tup rfl (pgs_cons (pg_name (i := 3) nd rfl (.inr rfl)) (pgs_cons (pg_name (i := 4) nd rfl (.inr rfl)) pgs_nil)))))
      (pss_cons (ps_for PassesOwn.never rfl (pi_range1 rfl R.range (pa_cons (pv 1) pa_nil)) (pg_name (i := 5) nd rfl (.inl rfl))
        (pss_cons (ps_set (i := 6) nd rfl (.inr rfl) (pe_call R.GP hr rfl R.mP R.kP R.bP .nil pass0 (pa_cons (pv 0) (pa_cons (pv 2) pa_nil))))
        (pss_cons (ps_if (pt_cmpR op_gt (pe_call R.GT hr2 rfl R.mT R.kT R.bT .nil pass0 (pa_cons (pv 0) (pa_cons pe_int pa_nil))) pe_int (nomark _))
          (pss_one (ps_set (i := 6) nd rfl (.inr rfl) (pe_join pe_str (pe_lc (own := [("_law_j", 7)]) (g := gName 7) (tt := tYes) rfl nd (pi_range1 rfl R.range (pa_cons (pe_call R.GP hr rfl R.mP R.kP R.bP .nil pass0 (pa_cons (pv 0) (pa_cons (pe_lst (pa_cons pe_int (pa_cons pe_int (pa_cons pe_int (pa_cons pe_int pa_nil))))) pa_nil))) pa_nil)) (blkOk_by (N := nWords) (sc := defScope sWords) (by decide +kernel))
            (fun _ _ _ _ _ => pg_name (i := 7) nd rfl (.inl rfl)) (fun _ _ _ _ _ => pts_nil) (fun _ _ _ _ _ => pe_call R.GP hr rfl R.mP R.kP R.bP .nil pass0 (pa_cons (pv 0) (pa_cons (pv 3) pa_nil))))))) pss_nil)
        (pss_cons (ps_if (pt_cmpR op_in_seq (pv 6) (pv 4) rfl)
          (pss_one (ps_set (i := 6) nd rfl (.inr rfl) (pe_ix ix_list (pe_lc (own := [("_law_other", 9)]) (g := gName 9) rfl nd (pi_list
              (pe_lc (own := [("_law_letter", 8)]) (g := gName 8) (tt := tYes) rfl nd (pi_str (pv 3)) (blkOk_by (N := nWords) (sc := defScope sWords) (by decide +kernel))
                (fun _ _ _ _ _ => pg_name (i := 8) nd rfl (.inl rfl)) (fun _ _ _ _ _ => pts_nil) (fun _ _ _ _ _ => pe_op op_add_str (pe_op op_add_str (pe_slice sl_str (pv 6) po_none (po_some pe_int)) pe_str) (pv 8)))) (blkOk_by (N := nWords) (sc := defScope sWords) (by decide +kernel))
              (fun _ _ _ _ _ => pg_name (i := 9) nd rfl (.inl rfl)) (fun _ _ _ _ _ => pts_one (pt_cmpR (r := rIn K true) op_notIn_seq (pv 9) (pv 4) rfl)) (fun _ _ _ _ _ => pv 9)) pe_int (fun _ _ => rfl)))) pss_nil)
        (pss_one (ps_expr (pe_bm PySem.F.plainAttrs_list PySem.F.slot_list_append PySem.F.type_list_append mt_append (pv 4) (pa_cons (pv 6) pa_nil))))))))
      (pss_one (ps_ret (pv 4))))), ?_⟩
    have ho1 : (ownText.length : Nat) ≤ 100 := by decide +kernel
    refine ⟨⟨_, rfl⟩, ownText, _, rfl, rfl, by decide +kernel, by rw [sizeLine_eq]; omega, fun o hoN => ?_⟩
    have Do := D.new (o := .lst (owns.map V.str)) hoN
    have hno : o ≠ d := D.nd hoN
    have hgo : o ≠ g := D.ng hoN
    have ho : (upd H o (.lst (owns.map V.str))) o = some (.lst (owns.map V.str)) := upd_same
    have ko : Kp d g H (upd H o (.lst (owns.map V.str))) := Kp.new hoN
    show tSeq _ _ _ _ (upd H o (.lst (owns.map V.str)))
    generalize upd H o (.lst (owns.map V.str)) = H1 at Do ho ko ⊢
    refine ⟨Nat.zero_le _, fun l hl => ?_⟩
    have Dl := Do.new (o := .lst []) hl
    have hnl : l ≠ d := Do.nd hl
    have hgl : l ≠ g := Do.ng hl
    have hcl : l ≠ c := fun e => by rw [e, Do.cl] at hl; cases hl
    have hol : l ≠ o := (ne_of_none ho hl).symm
    have hlH : H l = none := D.free Do ko hl
    have kl : Kp d g H (upd H1 l (.lst [])) := ko.trans (Kp.new hl)
    have ho2 := new_same (o := .lst []) hl _ _ ho
    have hl2 : (upd H1 l (.lst [])) l = some (.lst (([] : List Str).map V.str)) := upd_same
    generalize upd H1 l (.lst []) = H2 at Dl kl ho2 hl2 ⊢
    refine ⟨by show 2 ≤ sizeLine; decide, fun t ht => ?_⟩
    have Dt := Dl.new (o := .tup [.str letters, .ref l]) ht
    have kt : Kp d g H (upd H2 t (.tup [.str letters, .ref l])) := kl.trans (Kp.new ht)
    have ho3 := new_same (o := .tup [.str letters, .ref l]) ht _ _ ho2
    have hl3 := new_same (o := .tup [.str letters, .ref l]) ht _ _ hl2
    refine ⟨t, _, rfl, SqT.of upd_same, rfl, _, _, rfl, _, _, rfl, rfl, ?_⟩
    show tSeq _ _ _ _ (upd H2 t (.tup [.str letters, .ref l]))
    generalize upd H2 t (.tup [.str letters, .ref l]) = H3 at Dt kt ho3 hl3 ⊢
    refine ⟨_, rfl, z, rfl, by omega, by omega, for_range (lo := 0) (n := z.toNat) (fun i σ H' => ∃ (v5 v6 : Option V) (ws : List Str), σ = [some (.ref d), some (.int z), some (.ref o), some (.str letters), some (.ref l), v5, v6, none, none, none] ∧
        H' o = some (.lst (owns.map V.str)) ∧ H' l = some (.lst (ws.map V.str)) ∧ ws.length = i ∧ ws.Nodup ∧ (∀ x ∈ ws, nameOk x = true) ∧ Dw ns d g c (b + 20 * i) H' ∧ Kp d g H H')
      ⟨none, none, [], rfl, ho3, hl3, rfl, List.nodup_nil, (fun x hx => by cases hx), Dt, kt⟩ ?_ ?_⟩
    · rintro i σ H4 hi ⟨v5, v6, ws, rfl, o4, l4, wl, wn, wok, D4, k4⟩
      refine ⟨_, rfl, _, rfl, d, g, c, _, D4, by omega, .inl ⟨o, _, rfl, o4, hno, hgo, by rw [List.length_map, owns_len]; decide, by rw [List.length_map, owns_len]; decide, fun y H5 hy D5 k5 => ?_⟩⟩
      obtain ⟨w0, hw0, rfl⟩ := List.mem_map.mp hy
      have hw0 := owns_ok w0 hw0
      refine ⟨_, rfl, d, g, c, _, 3, rfl, D5, by omega, by decide, by decide, fun r H6 r0 r1 D6 k6 => ?_⟩
      have l6 := k6 _ _ hnl hgl (k5 _ _ hnl hgl l4)
      have o6 := k6 _ _ hno hgo (k5 _ _ hno hgo o4)
      have k46 : Kp d g H H6 := (k4.trans k5).trans k6
      have fin : ∀ (wd : Str) (H' : Hp) (v5' : Option V), nameOk wd = true → wd ∉ ws → H' o = some (.lst (owns.map V.str)) → H' l = some (.lst (ws.map V.str)) → Dw ns d g c (b + 20 * i + 20) H' → Kp d g H H' →
          ∃ (v5 v6 : Option V) (ws' : List Str), [some (.ref d), some (.int z), some (.ref o), some (.str letters), some (.ref l), v5', some (.str wd), none, none, none] = [some (.ref d), some (.int z), some (.ref o), some (.str letters), some (.ref l), v5, v6, none, none, none] ∧
            (upd H' l (.lst (ws.map V.str ++ [V.str wd]))) o = some (.lst (owns.map V.str)) ∧ (upd H' l (.lst (ws.map V.str ++ [V.str wd]))) l = some (.lst (ws'.map V.str)) ∧ ws'.length = i + 1 ∧ ws'.Nodup ∧ (∀ x ∈ ws', nameOk x = true) ∧ Dw ns d g c (b + 20 * (i + 1)) (upd H' l (.lst (ws.map V.str ++ [V.str wd]))) ∧ Kp d g H (upd H' l (.lst (ws.map V.str ++ [V.str wd]))) := by
        intro wd H' v5' h1 h2 h3 h4 h5 h6
        refine ⟨_, _, ws ++ [wd], rfl, by rw [upd_ne hol.symm]; exact h3, by rw [upd_same, List.map_append]; rfl, by rw [List.length_append, wl]; rfl, ?_, fun x hx => ?_, (h5.put h4 hnl hgl hcl).mono (by omega), fun a u n1 n2 ha => ?_⟩
        · refine List.nodup_append.mpr ⟨wn, by simp, fun a ha a' ha' => ?_⟩
          rw [List.mem_singleton] at ha'
          subst ha'
          exact fun e => h2 (e ▸ ha)
        · rcases List.mem_append.mp hx with hx | hx
          · exact wok x hx
          · rw [List.mem_singleton.mp hx]
            exact h1
        · rw [upd_ne (ne_of_none ha hlH)]
          exact h6 a u n1 n2 ha
      refine ⟨_, _, rfl, rfl, _, rfl, ?_⟩
      refine ite2 (fun e => ?A) (fun e => ?B)
      case' A =>
        refine ⟨⟨_, rfl⟩, _, rfl, by show 4 ≤ sizeLine; decide, fun q hq => ?_⟩
        have D7 := D6.new (o := .lst [.int 1, .int 1, .int 2, .int 8]) hq
        refine ⟨d, g, c, _, D7, by omega, .inl ⟨q, _, rfl, upd_same, D6.nd hq, D6.ng hq, by show 0 < 4; decide, by show 4 ≤ 1000000; decide, fun y2 H8 hy2 D8 k8 => ?_⟩⟩
        obtain ⟨j, rfl, j1, j8⟩ := sizes1128 _ hy2
        have l8 := k8 _ _ hnl hgl (new_same (o := .lst [.int 1, .int 1, .int 2, .int 8]) hq _ _ l6)
        have o8 := k8 _ _ hno hgo (new_same (o := .lst [.int 1, .int 1, .int 2, .int 8]) hq _ _ o6)
        have k48 : Kp d g H H8 := (k46.trans (Kp.new hq)).trans k8
        refine ⟨j, rfl, by omega, by omega, fun L hL => ?_⟩
        have nL : L ≠ d := D8.nd hL
        have gL : L ≠ g := D8.ng hL
        have cL : L ≠ c := fun e => by rw [e, D8.cl] at hL; cases hL
        refine lc_range (lo := 0) (n := j.toNat) (fun i' H' => ∃ cs : List Nat, H' L = some (.lst ((cs.map cand.oneS').map V.str)) ∧ cs.length = i' ∧ (∀ x ∈ cs, x ∈ letters.cps.toList) ∧ Dw ns d g c (b + 20 * i + 3 + i') H' ∧ Kp d g H8 H')
          ⟨[], upd_same, rfl, (fun x hx => by cases hx), (D8.new hL).mono (by omega), Kp.new hL⟩ ?_ ?_
        · rintro i' H9 hi' ⟨cs, d9, cl, cok, D9, k9⟩
          refine ⟨rfl, yes_of ?_⟩
          refine ⟨_, rfl, _, rfl, d, g, c, _, D9, by omega, .inr ⟨_, rfl, by decide +kernel, by decide +kernel, fun y3 H10 hy3 D10 k10 => ?_⟩⟩
          have d10 := k10 _ _ nL gL d9
          refine ⟨_, d10, ?_, cs ++ [y3], ?_, by rw [List.length_append, cl]; rfl, fun x hx => ?_, (D10.put d10 nL gL cL).mono (by omega), fun a u n1 n2 ha => ?_⟩
          · rw [List.length_map, List.length_map]
            exact small1000 (by omega)
          · rw [upd_same, List.map_append, List.map_append]
            rfl
          · rcases List.mem_append.mp hx with hx | hx
            · exact cok x hx
            · rw [List.mem_singleton.mp hx]
              exact hy3
          · rw [upd_ne (ne_of_none ha hL)]
            exact k10 _ _ n1 n2 (k9 _ _ n1 n2 ha)
        rintro H9 ⟨cs, d9, cl, cok, D9, k9⟩
        have jw : nameOk (Txt.join Str.empty (cs.map cand.oneS')) = true := by
          have e9 := join_signs cs
          refine nameOk_of ?_ ?_ (fun x hx => ?_)
          · rw [← len_cps, e9]; omega
          · rw [← len_cps, e9]; omega
          · rw [e9] at hx
            exact cok x hx
        refine ⟨_, L, cs.map cand.oneS', rfl, rfl, .inl (SqL.of d9), ?_, ?_⟩
        · have e0 : ("" : Str).length = 0 := by decide +kernel
          have hs := sum_le (fun y : Str => y.length) (b := 1) (cs.map cand.oneS') fun x hx => by
            obtain ⟨x', _, rfl⟩ := List.mem_map.mp hx
            exact Nat.le_refl 1
          rw [List.length_map] at hs ⊢
          rw [e0]
          omega
        rw [e_eq]
        obtain ⟨wd, hwd, hwk⟩ : ∃ wd, wd = Txt.join Str.empty (cs.map cand.oneS') ∧ nameOk wd = true := ⟨_, rfl, jw⟩
        rw [← hwd]
        have lT := k9 _ _ hnl hgl l8
        have oT := k9 _ _ hno hgo o8
        have kT : Kp d g H H9 := k48.trans k9
        have DT : Dw ns d g c (b + 20 * i + 15) H9 := D9.mono (by omega)
        generalize H9 = HT at lT oT kT DT ⊢
      case' B =>
        obtain ⟨wd, hwd, hwk⟩ : ∃ wd, wd = w0 ∧ nameOk wd = true := ⟨_, rfl, hw0⟩
        rw [← hwd]
        have lT := l6
        have oT := o6
        have kT := k46
        have DT : Dw ns d g c (b + 20 * i + 15) H6 := D6.mono (by omega)
        generalize H6 = HT at lT oT kT DT ⊢
      all_goals
        refine ⟨_, rfl, _, rfl, l, _, rfl, .inl (SqL.of lT), rfl, strs_flat ws, _, rfl, ?_⟩
        rw [inV_strs]
        refine ite2 (fun e => ?_) (fun e => ?_)
        · have hwl := (name_len hwk).2
          refine ⟨_, rfl, letters, rfl, fun D1 hD1 => ?_⟩
          refine lc_it walk_str (fun i' H' => H' D1 = some (.lst (((letters.cps.toList.take i').map (cand wd)).map V.str)) ∧ Ext HT H') ⟨upd_same, Ext.new hD1⟩ (fun _ _ _ _ => trivial) ?_ ?_
          · rintro i' y H1' H2' hi' ⟨hd', he'⟩ ⟨rfl, c', hc', rfl⟩
            have hc2 := cps_at hc'
            refine ⟨rfl, yes_of ?_⟩
            have h6 := cut6 wd
            refine ⟨_, rfl, 6, rfl, wd, rfl, by rw [sizeLine_eq]; omega, _, _, rfl, rfl, by rw [z_len, sizeLine_eq]; omega, _, rfl, _, _, rfl, rfl, by rw [strlen, z_len, sizeLine_eq]; show _ + 1 + 1 ≤ _; omega, _, hd', ?_, ?_, fun a u ha => ?_⟩
            · have : letters.cps.toList.length = 26 := by decide +kernel
              rw [List.length_map, List.length_map, List.length_take]
              exact small1000 (by omega)
            · rw [upd_same, take_succ_map (cand wd) hc2, List.map_append]
              rfl
            · rw [upd_ne (ne_of_none ha hD1)]
              exact he' _ _ ha
          rintro H1' ⟨hd', he'⟩
          rw [← cps_len, List.take_length] at hd'
          have hd' : H1' D1 = some (.lst ((cands wd).map V.str)) := hd'
          have oT1 := he' _ _ oT
          have lT1 := he' _ _ lT
          refine ⟨D1, rfl, ⟨_, SqL.of hd'⟩, fun D2 hD2 => ?_⟩
          refine lc_it walk_list (fun i' H' => H' D2 = some (.lst ((((cands wd).take i').filter (fun y => !decide (y ∈ ws))).map V.str)) ∧ Ext H1' H') ⟨upd_same, Ext.new hD2⟩ (fun i H' _ ⟨_, e⟩ => SqL.of (e _ _ hd')) ?_ ?_
          · rintro i' y H2' H3' hi' ⟨d2, k2⟩ ⟨rfl, hy⟩
            rw [List.getElem?_map] at hy
            obtain ⟨x, hx, rfl⟩ := Option.map_eq_some_iff.mp hy
            have ef := filter_take (fun y => !decide (y ∈ ws)) hx
            refine ⟨rfl, _, rfl, _, rfl, l, _, rfl, .inl (SqL.of (k2 _ _ lT1)), rfl, strs_flat ws, ?_⟩
            show ∃ b, V.bl (!inV (.str x) (ws.map V.str)) = V.bl b ∧ _
            rw [inV_strs]
            refine ⟨_, rfl, ite2 (fun e => ?_) (fun e => ?_)⟩
            · rw [if_pos e] at ef
              refine ⟨_, rfl, _, d2, ?_, ?_, fun a u ha => ?_⟩
              · have h1 := List.length_filter_le (fun y => !decide (y ∈ ws)) ((cands wd).take i')
                rw [List.length_take, cands_len] at h1
                rw [List.length_map]
                exact small1000 (by omega)
              · rw [upd_same, ef, List.map_append]
                rfl
              · rw [upd_ne (ne_of_none ha hD2)]
                exact k2 _ _ ha
            · rw [if_neg e, List.append_nil] at ef
              exact ⟨by rw [ef]; exact d2, k2⟩
          rintro H2' ⟨d2, k2⟩
          rw [List.length_map, List.take_length] at d2
          obtain ⟨w1, rst, e1, m1, n1⟩ := fresh_cand wd (fs := ws) (by omega)
          rw [e1] at d2
          have w1ok : nameOk w1 = true := by
            obtain ⟨c', hc', rfl⟩ := List.mem_map.mp m1
            exact cand_ok (lo_of hwk) hc'
          refine ⟨D2, _, _, V.str w1, rfl, rfl, SqL.of d2, (show atI (V.str w1 :: rst.map V.str) ((0 : Nat) : Int) = some (V.str w1) from atI_nat rfl), ?_⟩
          have lT2 := k2 _ _ lT1
          refine ⟨_, rfl, .inl ⟨rfl, _, SqL.of lT2⟩, _, rfl, l, _, _, rfl, rfl, lT2, by rw [List.length_map]; exact small1000 (by omega), ?_⟩
          exact fin _ _ _ w1ok n1 (k2 _ _ oT1) lT2 ((DT.keep fun a u ha => k2 _ _ (he' _ _ ha)).mono (by omega)) (kT.trans (Kp.of fun a u ha => k2 _ _ (he' _ _ ha)))
        · have e : wd ∉ ws := fun m => e (decide_eq_true m)
          refine ⟨_, rfl, .inl ⟨rfl, _, SqL.of lT⟩, _, rfl, l, _, _, rfl, rfl, lT, by rw [List.length_map]; exact small1000 (by omega), ?_⟩
          exact fin _ _ _ hwk e oT lT (DT.mono (by omega)) kT
    · rintro σ H4 ⟨v5, v6, ws, rfl, o4, l4, wl, wn, wok, D4, k4⟩
      exact ⟨_, rfl, k l ws H4 hlH hnl hgl l4 wl wn wok (D4.mono (by omega)) k4⟩
end
end Lw

set_option Elab.async false
set_option linter.all false
set_option maxRecDepth 100000
set_option maxHeartbeats 4000000
namespace Lw
open L2 hiding Ext
open PySem PySem.Spec PyProof.Rows Gn Gr Gk Go Gt Gf
section
variable {P : Program} {w : World} {K : PySem.W.Frag} {mg : Str → Option Value} {base : Heap}
/-! ### _law_forest -/
def spForest (ns : List Int) : Sp := fun vs H Q _ => ∃ (d g c : Addr) (b : Nat) (m : Int), vs = [.ref d, .int m] ∧ Dw ns d g c b H ∧ b ≤ 800000000 ∧ 1 ≤ m ∧ m ≤ 9 ∧
  ∀ (l : Addr) (xs : List V) (rs : List FRow) (H' : Hp), H l = none → l ≠ d → l ≠ g → H' l = some (.lst xs) → RowsAt H' xs rs → (1 ≤ rs.length ∧ rs.length ≤ 9 ∧ GoodF [] rs) → Dw ns d g c (b + 300) H' → Kp d g H H' → Q (.ref l) H'
abbrev nForest : List Str := ["_law_state", "_law_most", "_law_rows", "_law_name", "_law_parents", "_law_row"]
theorem scForest : FnScope nForest ["_law_state", "_law_most"] (defScope sForest) := ⟨rfl, rfl, rfl, by decide +kernel, rfl, by decide +kernel, by decide +kernel⟩
theorem ok_forest {f fT fP fW : Addr} {fd fdT fdP fdW : FuncData} (ns : List Int) (F : Fun K "_law_forest" "_law_forest" sForest f fd) (R : Draw P w K mg base ns fT fP fdT fdP)
    (GW : FnOk P w K mg base CX0 4 fW fdW ["_law_state", "_law_size"] (spWords ns)) (bW : Binds K fdW ["_law_state", "_law_size"] []) (kW : PySem.W.keepIn K (.ref fW) = true) (mW : mg "_law_words" = some (.ref fW)) :
    FnOk P w K mg base CX0 5 f fd ["_law_state", "_law_most"] (spForest ns) := by
  refine F.ok scForest (fun vs H Q E h => ?_) (fun cdv A outer s H vs Q E hr h => ?_)
  · obtain ⟨d, g, c, b, m, rfl, _⟩ := h
    rfl
  · obtain ⟨d, g, c, b, m, rfl, D, hb, m1, m8, k⟩ := h
    have hu := hu_of hr
    have nd := scForest.nd
    have hr2 : Room 2 (A.deeper (envOfC "_law_forest" (defScope sForest) s.heap.objs.size f cdv)) := hr.mono (by decide)
    have hr3 : Room 3 (A.deeper (envOfC "_law_forest" (defScope sForest) s.heap.objs.size f cdv)) := hr.mono (by decide)
    refine ⟨_, pss_cons (ps_set (i := 2) nd rfl (.inl rfl) (pe_lst pa_nil))
      (pss_cons (ps_for PassesOwn.never rfl (pi_list (pe_call GW hr rfl mW kW bW .nil pass0 (pa_cons (pv 0) (pa_cons (pe_op op_add pe_int (pe_call R.GT hr2 rfl R.mT R.kT R.bT .nil pass0 (pa_cons (pv 0) (pa_cons (pv 1) pa_nil)))) pa_nil)))) (pg_name (i := 3) nd rfl (.inl rfl))
        (pss_cons (ps_set (i := 4) nd rfl (.inl rfl) (pe_op op_cat (pe_lst (pa_cons pe_non pa_nil)) (pe_lc (own := [("_law_row", 5)]) (g := gName 5) (tt := tYes) rfl nd (pi_list (pv 2)) (blkOk_by (N := nForest) (sc := defScope sForest) (by decide +kernel))
            (fun _ _ _ _ _ => pg_name (i := 5) nd rfl (.inl rfl)) (fun _ _ _ _ _ => pts_nil) (fun _ _ _ _ _ => pe_ix (r := rIxT K) ix_tup (pv 5) pe_int (fun _ _ => rfl)))))
        (pss_one (ps_expr (pe_bm PySem.F.plainAttrs_list PySem.F.slot_list_append PySem.F.type_list_append mt_append (pv 2) (pa_cons (pe_tup (pa_cons (pv 3) (pa_cons (pe_call R.GP hr3 rfl R.mP R.kP R.bP .nil pass0 (pa_cons (pv 0) (pa_cons (pv 4) pa_nil))) pa_nil))) pa_nil))))))
      (pss_one (ps_ret (pv 2)))), ?_⟩
    refine ⟨Nat.zero_le _, fun l hl => ?_⟩
    have Dl := D.new (o := .lst []) hl
    have hnl : l ≠ d := D.nd hl
    have hgl : l ≠ g := D.ng hl
    have hcl : l ≠ c := fun e => by rw [e, D.cl] at hl; cases hl
    have kl : Kp d g H (upd H l (.lst [])) := Kp.new hl
    have hl1 : (upd H l (.lst [])) l = some (.lst []) := upd_same
    show tSeq _ _ _ _ (upd H l (.lst []))
    generalize upd H l (.lst []) = H1 at Dl kl hl1 ⊢
    refine ⟨_, rfl, _, rfl, _, rfl, d, g, c, _, m, rfl, Dl, by omega, by omega, by omega, fun r H2 r0 r1 D2 k2 => ?_⟩
    refine ⟨1, r, rfl, rfl, d, g, c, _, 1 + r, rfl, D2, by omega, by omega, by omega, fun lw ws H3 lw0 lwd lwg hlw wl wn wok D3 k3 => ?_⟩
    have l3 := k3 _ _ hnl hgl (k2 _ _ hnl hgl hl1)
    have k03 : Kp d g H H3 := (kl.trans k2).trans k3
    refine ⟨lw, rfl, ⟨_, SqL.of hlw⟩, for_it walk_list (fun i σ H' => ∃ (v3 v4 : Option V) (xs : List V) (rs : List FRow), σ = [some (.ref d), some (.int m), some (.ref l), v3, v4, none] ∧ H' l = some (.lst xs) ∧ H' lw = some (.lst (ws.map V.str)) ∧
        RowsAt H' xs rs ∧ fNames rs = ws.take i ∧ GoodF [] rs ∧ Dw ns d g c (b + 1 + 200 + 2 * i) H' ∧ Kp d g H H')
      ⟨none, none, [], [], rfl, l3, hlw, ⟨rfl, fun i r h => by simp at h⟩, rfl, trivial, D3, k03⟩ (fun i σ H' _ ⟨_, _, _, _, _, _, e, _⟩ => SqL.of e) ?_ ?_⟩
    · rintro i y σ H4 H5 hi ⟨v3, v4, xs, rs, rfl, l4, lw4, R4, fn, gf, D4, k4⟩ ⟨rfl, hy⟩
      rw [List.length_map] at hi
      rw [List.getElem?_map, List.getElem?_eq_getElem hi] at hy
      cases hy
      have hrl : rs.length = i := by
        have := congrArg List.length fn
        rw [fNames, List.length_map, List.length_take] at this
        omega
      have hi8 : i ≤ 8 := by omega
      refine ⟨by show 1 ≤ sizeLine; decide, fun a ha => ?_⟩
      have Da := D4.new (o := .lst [.non]) ha
      have nda : a ≠ d := D4.nd ha
      have nga : a ≠ g := D4.ng ha
      have ka : Ext H5 (upd H5 a (.lst [.non])) := Ext.new ha
      have ha1 : (upd H5 a (.lst [.non])) a = some (.lst [.non]) := upd_same
      have l5 := ka _ _ l4
      have R5 := R4.ext ka
      refine ⟨_, rfl, l, rfl, ⟨_, SqL.of l5⟩, fun D' hD' => ?_⟩
      refine lc_it walk_list (fun i' H' => H' D' = some (.lst (((fNames rs).take i').map V.str)) ∧ Ext (upd H5 a (.lst [.non])) H') ⟨upd_same, Ext.new hD'⟩ (fun i' H' _ ⟨_, e⟩ => SqL.of (e _ _ l5)) ?_ ?_
      · rintro i' y H6 H7 hi' ⟨d6, k6⟩ ⟨rfl, hy⟩
        have hir : i' < rs.length := by have := R4.1; omega
        obtain ⟨p, h1, h2⟩ := R5.2 i' _ (List.getElem?_eq_getElem hir)
        rw [h1] at hy
        cases hy
        refine ⟨rfl, yes_of ?_⟩
        refine ⟨_, rfl, p, _, _, _, rfl, rfl, SqT.of (k6 _ _ h2), (show atI [V.str rs[i'].1, parV rs[i'].2] ((0 : Nat) : Int) = some (V.str rs[i'].1) from atI_nat rfl), _, d6, ?_, ?_, fun b' o hb' => ?_⟩
        · rw [List.length_map, List.length_take, fNames, List.length_map]
          exact small1000 (by omega)
        · rw [upd_same, List.take_add_one, List.map_append]
          have : (fNames rs)[i']? = some rs[i'].1 := by rw [fNames, List.getElem?_map, List.getElem?_eq_getElem hir]; rfl
          rw [this]
          rfl
        · rw [upd_ne (ne_of_none hb' hD')]
          exact k6 _ _ hb'
      rintro H6 ⟨d6, k6⟩
      have e0 : (fNames rs).take xs.length = fNames rs := by
        rw [R4.1]
        exact List.take_of_length_le (by rw [fNames, List.length_map]; exact Nat.le_refl _)
      rw [e0] at d6
      refine ⟨a, D', _, _, rfl, rfl, k6 _ _ ha1, d6, ?_, fun q hq => ?_⟩
      · rw [List.length_map, fNames, List.length_map, sizeLine_eq]
        show 1 + _ ≤ _
        omega
      have D6 : Dw ns d g c (b + 1 + 200 + 2 * i) H6 := Da.keep k6
      have k56 : Ext H5 H6 := ka.trans k6
      have Dq := D6.new (o := .lst ([.non] ++ (fNames rs).map V.str)) hq
      have hq1 : (upd H6 q (.lst ([.non] ++ (fNames rs).map V.str))) q = some (.lst ([.non] ++ (fNames rs).map V.str)) := upd_same
      have kq : Ext H5 (upd H6 q (.lst ([.non] ++ (fNames rs).map V.str))) := k56.trans (Ext.new hq)
      have ndq : q ≠ d := D6.nd hq
      have ngq : q ≠ g := D6.ng hq
      show tSeq _ _ _ _ (upd H6 q (.lst ([.non] ++ (fNames rs).map V.str)))
      generalize upd H6 q (.lst ([.non] ++ (fNames rs).map V.str)) = H7 at Dq hq1 kq ⊢
      refine ⟨_, rfl, .inl ⟨rfl, _, SqL.of (kq _ _ l4)⟩, _, rfl, _, rfl, _, rfl, d, g, c, _, Dq, by omega, .inl ⟨q, _, rfl, hq1, ndq, ngq, ?_, ?_, fun x H8 hx D8 k8 => ?_⟩⟩
      · show 0 < _ + 1
        omega
      · rw [List.length_append, List.length_map, fNames, List.length_map]
        show 1 + _ ≤ _
        omega
      obtain ⟨pq, rfl, hpq⟩ : ∃ pq : Option Str, x = parV pq ∧ ∀ mm, pq = some mm → mm ∈ fNames rs := by
        rcases List.mem_append.mp hx with hx | hx
        · rw [List.mem_singleton.mp hx]
          exact ⟨none, rfl, fun mm e => by cases e⟩
        · obtain ⟨mm, hm, rfl⟩ := List.mem_map.mp hx
          exact ⟨some mm, rfl, fun m' e => by cases e; exact hm⟩
      refine ⟨by show 2 ≤ sizeLine; decide, fun t ht => ?_⟩
      have R8 : RowsAt H8 xs rs := (R4.ext kq).kp Dq k8
      have R9 := RowsAt.snoc (r := (ws[i], pq)) (R8.ext (Ext.new (o := .tup [.str ws[i], parV pq]) ht)) upd_same
      have l8 := k8 _ _ hnl hgl (kq _ _ l4)
      have l9 := new_same (o := .tup [.str ws[i], parV pq]) ht _ _ l8
      have lw8 := k8 _ _ lwd lwg (kq _ _ lw4)
      have lw9 := new_same (o := .tup [.str ws[i], parV pq]) ht _ _ lw8
      have D9 := D8.new (o := .tup [.str ws[i], parV pq]) ht
      have nlw : lw ≠ l := fun e => by rw [e] at lw0; rw [k2 _ _ hnl hgl hl1] at lw0; cases lw0
      have k9 : Kp d g H (upd H8 t (.tup [.str ws[i], parV pq])) := ((k4.trans (Kp.of kq)).trans k8).trans (Kp.new ht)
      generalize upd H8 t (.tup [.str ws[i], parV pq]) = H9 at R9 l9 lw9 D9 k9 ⊢
      have xl : xs.length = rs.length := R4.1
      refine ⟨l, _, _, rfl, rfl, l9, small1000 (by omega), ?_⟩
      refine ⟨_, _, xs ++ [.ref t], rs ++ [(ws[i], pq)], rfl, upd_same, by rw [upd_ne nlw]; exact lw9, ⟨R9.1, fun j r' hj => ?_⟩, ?_, good_snoc gf ?_, (D9.put l9 hnl hgl hcl).mono (by omega), fun a' o n1 n2 ha' => ?_⟩
      · obtain ⟨p, b1, b2⟩ := R9.2 j r' hj
        refine ⟨p, b1, ?_⟩
        rw [upd_ne (ne_of b2 l9 (by intro z; cases z))]
        exact b2
      · show fNames (rs ++ [(ws[i], pq)]) = _
        rw [fNames, List.map_append, List.take_add_one, List.getElem?_eq_getElem hi]
        show fNames rs ++ [ws[i]] = _
        rw [fn]
        rfl
      · rw [List.nil_append, fn]
        refine ⟨wok _ (List.getElem_mem hi), fun hm => ?_, fun mm e => by rw [← fn]; exact hpq mm e⟩
        have hm : ws[i] ∈ ws.take i := hm
        obtain ⟨j, hj⟩ := List.mem_iff_getElem?.mp hm
        have hji : j < i := by
          have := (List.getElem?_eq_some_iff.mp hj).1
          rw [List.length_take] at this
          omega
        rw [List.getElem?_take_of_lt hji] at hj
        have hjl : j < ws.length := by omega
        rw [List.getElem?_eq_getElem hjl] at hj
        exact (List.pairwise_iff_getElem.mp wn) j i hjl hi hji (Option.some.inj hj)
      · rw [upd_ne (ne_of_none ha' hl)]
        exact k9 _ _ n1 n2 ha'
    · rintro σ H4 ⟨v3, v4, xs, rs, rfl, l4, lw4, R4, fn, gf, D4, k4⟩
      refine ⟨_, rfl, ?_⟩
      have hrl : rs.length = ws.length := by
        have := congrArg List.length fn
        rw [fNames, List.length_map, List.length_take, List.length_map] at this
        omega
      rw [List.length_map] at D4
      exact k l xs rs H4 hl hnl hgl l4 R4 ⟨by omega, by omega, gf⟩ (D4.mono (by omega)) k4
end
end Lw

set_option Elab.async false
set_option linter.all false
set_option maxRecDepth 100000
set_option maxHeartbeats 8000000
namespace Lw
open L2 hiding Ext
open PySem PySem.Spec PyProof.Rows Gn Gr Gk Go Gt Gf Gx
abbrev sLName : Stmt := top 23
abbrev sDue : Stmt := top 24
/-! ### the law's _law_is_name -/
def Lo (x : Str) : Prop := x.length ≤ 50000 ∧ ∀ c ∈ x.cps.toList, c < 128
def spLName : Sp := fun vs H Q _ => ∃ x : Str, vs = [.str x] ∧ Lo x ∧ ∀ H', Ext H H' → Q (.bl (nameOk x)) H'
theorem empty_all (l : List Nat) : (l.filter (fun c => !isL c)).isEmpty = l.all isL := by
  induction l with
  | nil => rfl
  | cons c r ih =>
    cases e : isL c
    · simp [e]
    · simpa [e] using ih
section
variable {P : Program} {w : World} {K : PySem.W.Frag} {mg : Str → Option Value} {base : Heap}
theorem scLName : FnScope ["_law_word", "_law_sign"] ["_law_word"] (defScope sLName) := ⟨rfl, rfl, rfl, by decide +kernel, rfl, by decide +kernel, by decide +kernel⟩
theorem ok_lname {f : Addr} {fd : FuncData} (F : Fun K "_law_is_name" "_law_is_name" sLName f fd) (T : Names mg) : FnOk P w K mg base CX0 1 f fd ["_law_word"] spLName := by
  refine F.ok scLName (fun vs H Q E h => ?_) (fun cdv A outer s H vs Q E hr h => ?_)
  · obtain ⟨x, rfl, _⟩ := h
    rfl
  · obtain ⟨x, rfl, ⟨hx1, hx2⟩, k⟩ := h
    have hu := hu_of hr
    have nd := scLName.nd
    refine ⟨_, pss_one (ps_ret (pe_and (pe_chain op_le op_le pe_int (pe_callB call_len_str rfl T.len PySem.boot_len (pa_cons (pv 0) pa_nil)) pe_int) (pe_one (pe_cmpR (op_eqD hr.units) (pe_lc (own := [("_law_sign", 1)]) (g := gName 1) rfl nd (pi_str (pv 0)) (blkOk_by (N := ["_law_word", "_law_sign"]) (sc := defScope sLName) (by decide +kernel))
        (fun _ _ _ _ _ => pg_name (i := 1) nd rfl (.inl rfl)) (fun _ _ _ _ _ => pts_one (pt_cmpR op_notIn_sign (pv 1) pe_str rfl)) (fun _ _ _ _ _ => pv 1)) (pe_lst pa_nil) (nomark _))))), ?_⟩
    refine ⟨_, rfl, x, rfl, by rw [sizeLine_eq]; omega, _, _, rfl, rfl, _, rfl, ?_⟩
    unfold nameOk at k
    refine ite2 (fun e => ?_) (fun e => ?_)
    · have e : (1 : Int) ≤ x.length := of_decide_eq_true e
      rw [show decide (1 ≤ x.length) = true from decide_eq_true (by omega), Bool.true_and] at k
      refine ⟨_, _, rfl, rfl, _, rfl, ?_⟩
      refine ite2 (fun e => ?_) (fun e => ?_)
      · have e8 : (x.length : Int) ≤ 8 := of_decide_eq_true e
        rw [show decide (x.length ≤ 8) = true from decide_eq_true (by omega), Bool.true_and] at k
        refine ⟨_, rfl, x, rfl, fun D hD => ?_⟩
        refine lc_it walk_str (fun i H' => H' D = some (.lst ((((x.cps.toList.take i).filter fun c => !isL c).map cand.oneS').map V.str)) ∧ Ext H H') ⟨upd_same, Ext.new hD⟩ (fun _ _ _ _ => trivial) ?_ ?_
        · rintro i y H1 H2 hi ⟨hd, he⟩ ⟨rfl, c, hc, rfl⟩
          have hc' := cps_at hc
          refine ⟨rfl, _, rfl, c, _, rfl, rfl, _, rfl, ?_⟩
          have ef := filter_take (fun c => !isL c) hc'
          refine ite2 (fun e => ?_) (fun e => ?_)
          · have e : (!isL c) = true := e
            rw [if_pos e] at ef
            refine ⟨_, rfl, _, hd, ?_, ?_, fun a o e => ?_⟩
            · have h1 := List.length_filter_le (fun c => !isL c) (x.cps.toList.take i)
              have h2 := len_cps x
              rw [List.length_take] at h1
              rw [List.length_map, List.length_map]
              exact small1000 (by omega)
            · rw [upd_same, ef, List.map_append, List.map_append]
              rfl
            · rw [upd_ne (ne_of_none e hD)]
              exact he a o e
          · have e : (!isL c) = false := Bool.eq_false_iff.mpr e
            rw [if_neg (by rw [e]; exact Bool.false_ne_true), List.append_nil] at ef
            exact ⟨by rw [ef]; exact hd, he⟩
        · rintro H1 ⟨hd, he⟩
          rw [← cps_len, List.take_length] at hd
          refine ⟨Nat.zero_le _, fun p hp => ?_⟩
          refine ⟨_, _, .lst (SqL.of (new_same hp _ _ hd)) (dp_strs _), .lst (SqL.of upd_same) .nil, shaped_strs fun z hz => ?_, shaped_nil, ?_⟩
          · obtain ⟨c, hc, rfl⟩ := List.mem_map.mp hz
            exact (Asc.one (hx2 c (List.mem_filter.mp hc).1)).ok
          · rw [eqv_nil, List.isEmpty_map, List.isEmpty_map, empty_all]
            exact k _ (he.trans (Ext.new hp))
      · have e8 : ¬ (x.length : Int) ≤ 8 := of_decide_eq_false (Bool.eq_false_iff.mpr e)
        rw [show decide (x.length ≤ 8) = false from decide_eq_false (by omega), Bool.false_and] at k
        exact k H Ext.refl
    · have n1 : ¬ (1 : Int) ≤ x.length := of_decide_eq_false (Bool.eq_false_iff.mpr e)
      rw [show decide (1 ≤ x.length) = false from decide_eq_false (by omega), Bool.false_and] at k
      exact ⟨_, rfl, iteF (k H Ext.refl)⟩
end
end Lw

set_option Elab.async false
set_option linter.all false
set_option maxRecDepth 100000
set_option maxHeartbeats 8000000
namespace Lw
open L2 hiding Ext
open PySem PySem.Spec PyProof.Rows Gn Gr Gk Go Gt Gf Gx
/-! ### what parse must do, as data -/
def parD : Option Str → PyData
  | none => .none
  | some m => .str m
def rowD (r : FRow) : PyData := .tuple [.str r.1, parD r.2]
def dueD : Due → PyData
  | .rows rs => .tuple [.str "rows", .list (rs.map rowD)]
  | .text n => .tuple [.str "text", .int (n : Nat)]
  | .forest => .tuple [.str "forest"]
theorem dp_par {K : PySem.W.Frag} {H : Hp} (q : Option Str) : Dp K H (parV q) (parD q) := by
  cases q with
  | none => exact .non
  | some m => exact .str m
theorem dp_rows {K : PySem.W.Frag} {H : Hp} : ∀ {xs : List V} {rs : List FRow}, RowsAt H xs rs → DpAll K H xs (rs.map rowD)
  | [], [], _ => .nil
  | [], _ :: _, h => by have := h.1; simp at this
  | _ :: _, [], h => by have := h.1; simp at this
  | x :: xs, r :: rs, h => by
    obtain ⟨p, h1, h2⟩ := h.2 0 r rfl
    have h1 : some x = some (V.ref p) := h1
    cases h1
    refine .cons (.tup (SqT.of h2) (.cons (.str _) (.cons (dp_par _) .nil))) (dp_rows ⟨by have := h.1; simpa using this, fun i r' hr => ?_⟩)
    exact h.2 (i + 1) r' (by simpa using hr)
theorem inV24 (n : Nat) : inV (V.int (n : Int)) [V.int 2, V.int 4] = decide (n = 2 ∨ n = 4) := by
  unfold inV
  show ((2 : Int) == (n : Int) || ((4 : Int) == (n : Int) || false)) = _
  by_cases h2 : n = 2
  · subst h2; decide
  · by_cases h4 : n = 4
    · subst h4; decide
    · have e2 : ((2 : Int) == (n : Int)) = false := by simp; omega
      have e4 : ((4 : Int) == (n : Int)) = false := by simp; omega
      rw [e2, e4]
      simp [h2, h4]
theorem cutV_to (xs : List V) (k : Nat) (h : k ≤ xs.length) : cutV xs none (some (k : Int)) = xs.take k := by
  unfold cutV
  rw [HT.sIx_none, HT.sIx_nat, Nat.min_eq_left h]
  simp
theorem body_take (ls : List Str) : bodyOf ls = ls.take (ls.length - (if endedB ls = true then 1 else 0)) := by
  unfold bodyOf endedB
  by_cases h : ls.getLast? = some Str.empty
  · rw [if_pos h, if_pos (decide_eq_true h), List.dropLast_eq_take]
  · rw [if_neg h, if_neg (by rw [decide_eq_false h]; exact Bool.false_ne_true)]
    simp
abbrev nDue : List Str := ["_law_text", "_law_lines", "_law_ended", "_law_rows", "_law_at", "_law_line", "_law_words_here", "_law_known", "_law_row"]
def spDue (K : PySem.W.Frag) : Sp := fun vs H Q _ => ∃ x : Str, vs = [.str x] ∧ x.length ≤ 20000 ∧ (∀ c ∈ x.cps.toList, c < 128) ∧ ∀ H' v, Ext H H' → Dp K H' v (dueD (dueOf x)) → Q v H'
section
variable {P : Program} {w : World} {K : PySem.W.Frag} {mg : Str → Option Value} {base : Heap}
theorem scDue : FnScope nDue ["_law_text"] (defScope sDue) := ⟨rfl, rfl, rfl, by decide +kernel, rfl, by decide +kernel, by decide +kernel⟩
theorem ok_due {f fN : Addr} {fd fdN : FuncData} (F : Fun K "_law_due" "_law_due" sDue f fd) (T : Names mg) (mint : mg "int" = none) (GN : FnOk P w K mg base CX0 1 fN fdN ["_law_word"] spLName) (bN : Binds K fdN ["_law_word"] []) (kN : PySem.W.keepIn K (.ref fN) = true) (mN : mg "_law_is_name" = some (.ref fN)) :
    FnOk P w K mg base CX0 2 f fd ["_law_text"] (spDue K) := by
  refine F.ok scDue (fun vs H Q E h => ?_) (fun cdv A outer s H vs Q E hr h => ?_)
  · obtain ⟨x, rfl, _⟩ := h
    rfl
  · obtain ⟨x, rfl, hx, hc, k⟩ := h
    have hu := hu_of hr
    have nd := scDue.nd
    refine ⟨_, pss_cons (ps_set (i := 1) nd rfl (.inl rfl) (pe_split (pv 0) pe_str))
      (pss_cons (ps_set (i := 2) nd rfl (.inl rfl) (pe_cmpR op_eq (pe_ix ix_list (pv 1) (pe_un un_neg pe_int) (fun _ _ => rfl)) pe_str (nomark _)))
      (pss_cons (ps_set (i := 3) nd rfl (.inl rfl) (pe_lst pa_nil))
      (pss_cons (ps_for PassesOwn.never rfl (pi_enum rfl T.enum (pa_cons (pe_slice sl_list (pv 1) po_none (po_some (pe_op op_sub (pe_callB call_len_seq rfl T.len PySem.boot_len (pa_cons (pv 1) pa_nil)) (pe_callTy call_int1 rfl mint (by decide +kernel) (pa_cons (pv 2) pa_nil))))) pa_nil)) (by exact (pg_tup rfl (pgs_cons (pg_name (i := 4) nd rfl (.inl rfl)) (pgs_cons (pg_name (i := 5) nd rfl (.inl rfl)) pgs_nil))))
        (pss_cons (ps_par (i := 6) (j := 7) rfl nd rfl rfl (by decide) rfl rfl (pa_cons (pe_split (pv 5) pe_str) (pa_cons (pe_lc (own := [("_law_row", 8)]) (g := gName 8) (tt := tYes) rfl nd (pi_list (pv 3)) (blkOk_by (N := nDue) (sc := defScope sDue) (by decide +kernel))
            (fun _ _ _ _ _ => pg_name (i := 8) nd rfl (.inl rfl)) (fun _ _ _ _ _ => pts_nil) (fun _ _ _ _ _ => pe_ix (r := rIxT K) ix_tup (pv 8) pe_int (fun _ _ => rfl))) pa_nil)) (by rfl))
        (pss_cons (ps_if (PW.pt (pw_or (pt_cmpR op_notIn_seq (pe_callB call_len_seq rfl T.len PySem.boot_len (pa_cons (pv 6) pa_nil)) (pe_tup (pa_cons pe_int (pa_cons pe_int pa_nil))) rfl)
            (pw_or (pt_cmpR op_ne (pe_ix ix_list (pv 6) pe_int (fun _ _ => rfl)) pe_str (nomark _))
            (pw_or (pt_not (pt_val (pe_call GN hr rfl mN kN bN .nil pass0 (pa_cons (pe_ix ix_list (pv 6) pe_int (fun _ _ => rfl)) pa_nil))))
            (pw_or1 (pt_cmpR op_in_seq (pe_ix ix_list (pv 6) pe_int (fun _ _ => rfl)) (pv 7) rfl)))))) (pss_one (ps_ret (pe_tup (pa_cons pe_str (pa_cons (pv 4) pa_nil))))) pss_nil)
        (pss_cons (ps_if (PW.pt (pw_and (pt_cmpR op_eq (pe_callB call_len_seq rfl T.len PySem.boot_len (pa_cons (pv 6) pa_nil)) pe_int (nomark _))
            (pw_and1 (PW.pt (pw_or (pt_cmpR op_ne (pe_ix ix_list (pv 6) pe_int (fun _ _ => rfl)) pe_str (nomark _)) (pw_or1 (pt_cmpR op_notIn_seq (pe_ix ix_list (pv 6) pe_int (fun _ _ => rfl)) (pv 7) rfl))))))) (pss_one (ps_ret (pe_tup (pa_cons pe_str (pa_cons (pv 4) pa_nil))))) pss_nil)
        (pss_one (ps_expr (pe_bm PySem.F.plainAttrs_list PySem.F.slot_list_append PySem.F.type_list_append mt_append (pv 3) (pa_cons (pe_tup (pa_cons (pe_ix ix_list (pv 6) pe_int (fun _ _ => rfl)) (pa_cons (pe_ifExp (pt_cmpR op_eq (pe_callB call_len_seq rfl T.len PySem.boot_len (pa_cons (pv 6) pa_nil)) pe_int (nomark _)) pe_non (pe_ix ix_list (pv 6) pe_int (fun _ _ => rfl))) pa_nil))) pa_nil))))))))
      (pss_cons (ps_if (pt_not (pt_val (pv 2))) (pss_one (ps_ret (pe_tup (pa_cons pe_str (pa_cons (pe_callB call_len_seq rfl T.len PySem.boot_len (pa_cons (pv 1) pa_nil)) pa_nil))))) pss_nil)
      (pss_one (ps_ret (pe_ifExp (pt_chain op_le op_le pe_int (pe_callB call_len_seq rfl T.len PySem.boot_len (pa_cons (pv 3) pa_nil)) pe_int) (pe_tup (pa_cons pe_str (pa_cons (pv 3) pa_nil))) (pe_tup (pa_cons pe_str pa_nil))))))))), ?_⟩
    refine ⟨_, rfl, ⟨_, rfl⟩, _, _, rfl, rfl, by decide +kernel, by rw [sizeLine_eq]; omega, fun p hp => ?_⟩
    have pp := nl_parts x
    unfold dueOf at k
    generalize Txt.split x "\n" = ls at k pp ⊢
    obtain ⟨init, rest, hls⟩ : ∃ init rest, ls = init ++ [rest] := ⟨ls.dropLast, ls.getLast pp.ne, (List.dropLast_concat_getLast pp.ne).symm⟩
    have gl : ls.getLast? = some rest := by rw [hls]; simp
    have hp1 : (upd H p (.lst (ls.map V.str))) p = some (.lst (ls.map V.str)) := upd_same
    have k1 : Ext H (upd H p (.lst (ls.map V.str))) := Ext.new hp
    generalize upd H p (.lst (ls.map V.str)) = H1 at hp1 k1 ⊢
    have hat : atI (ls.map V.str) (-1) = some (V.str rest) := by
      have : atI (ls.map V.str) (-1) = (ls.map V.str)[(ls.map V.str).length - 1]? := by
        unfold atI ixN
        have hl : 1 ≤ (ls.map V.str).length := by rw [hls]; simp
        rw [if_neg (by decide)]
        have e1 : -((ls.map V.str).length : Int) ≤ -1 := by omega
        rw [if_pos e1]
        show (ls.map V.str)[_]? = _
        congr 1
        omega
      rw [this, hls, List.map_append, List.length_append]
      show (_ ++ [V.str rest])[_]? = _
      rw [List.getElem?_append_right (by show _ ≤ _ + 1 - 1; omega)]
      show [V.str rest][_ + 1 - 1 - _]? = _
      simp
    have hen : decide (V.str rest = V.str "") = endedB ls := by
      unfold endedB
      rw [gl]
      by_cases e : rest = Str.empty
      · rw [decide_eq_true (congrArg some e), decide_eq_true]
        rw [e, e_eq]
      · rw [decide_eq_false (fun z => e (Option.some.inj z)), decide_eq_false (fun z => e (by rw [← e_eq]; exact V.str.inj z))]
    refine ⟨_, rfl, 1, rfl, p, _, _, _, rfl, rfl, SqL.of hp1, hat, rfl, ?_⟩
    rw [hen]
    refine ⟨Nat.zero_le _, fun rl hrl => ?_⟩
    have hrlH : H rl = none := by
      cases e : H rl with
      | none => rfl
      | some u => rw [k1 _ _ e] at hrl; cases hrl
    have npr : p ≠ rl := ne_of_none hp1 hrl
    have hp2 := new_same (o := .lst []) hrl _ _ hp1
    have k2 : Ext H (upd H1 rl (.lst [])) := k1.trans (Ext.new hrl)
    have hr2 : (upd H1 rl (.lst [])) rl = some (.lst []) := upd_same
    show tSeq _ _ _ _ (upd H1 rl (.lst []))
    generalize upd H1 rl (.lst []) = H2 at hp2 k2 hr2 ⊢
    have hcut : cutV (ls.map V.str) none (some (((ls.map V.str).length : Int) - (if endedB ls = true then 1 else 0))) = (bodyOf ls).map V.str := by
      have hl : 1 ≤ ls.length := by rw [hls]; simp
      have e : (((ls.map V.str).length : Nat) : Int) - (if endedB ls = true then 1 else 0) = (((ls.length - (if endedB ls = true then 1 else 0)) : Nat) : Int) := by
        rw [List.length_map]
        cases endedB ls <;> simp <;> omega
      rw [e, cutV_to _ _ (by rw [List.length_map]; omega), body_take, List.map_take]
    refine ⟨_, rfl, _, rfl, p, _, rfl, .inl (SqL.of hp2), _, rfl, .inr ⟨_, rfl, _, _, rfl, rfl, _, rfl, p, _, rfl, SqL.of hp2, fun lb hlb => ?_⟩⟩
    rw [hcut]
    have nlr : lb ≠ rl := (ne_of_none hr2 hlb).symm
    have hp3 := new_same (o := .lst ((bodyOf ls).map V.str)) hlb _ _ hp2
    have hr3 := new_same (o := .lst ((bodyOf ls).map V.str)) hlb _ _ hr2
    have k3 : Ext H (upd H2 lb (.lst ((bodyOf ls).map V.str))) := k2.trans (Ext.new hlb)
    have hb3 : (upd H2 lb (.lst ((bodyOf ls).map V.str))) lb = some (.lst ((bodyOf ls).map V.str)) := upd_same
    generalize upd H2 lb (.lst ((bodyOf ls).map V.str)) = H3 at hp3 hr3 k3 hb3 ⊢
    unfold dueL at k
    dsimp only at k
    have hbl : (bodyOf ls).length ≤ ls.length := by rw [body_take, List.length_take]; omega
    have hbm : ∀ q ∈ bodyOf ls, q ∈ ls := fun q hq => by rw [body_take] at hq; exact List.mem_of_mem_take hq
    have hend : endedB ls = false → (bodyOf ls).length = ls.length := fun e => by rw [body_take, e, List.length_take]; simp
    have hll : ls.length ≤ 20001 := by have := pp.count; omega
    generalize bodyOf ls = body at k hb3 hbl hbm hend ⊢
    have hol : (body.map rd).length = body.length := List.length_map ..
    have wl := wrong_le (body.map rd) []
    generalize hos : body.map rd = os at k hol wl
    refine ⟨lb, _, rfl, SqL.of hb3, ?_⟩
    refine for_it walk_enum (fun i σ H' => ∃ (v4 v5 v6 v7 : Option V) (xs : List V) (rs : List FRow), σ = [some (.str x), some (.ref p), some (.bl (endedB ls)), some (.ref rl), v4, v5, v6, v7, none] ∧ H' p = some (.lst (ls.map V.str)) ∧ H' lb = some (.lst (body.map V.str)) ∧
        H' rl = some (.lst xs) ∧ RowsAt H' xs rs ∧ os.take i = rs.map some ∧ wrongAt os [] = i + wrongAt (os.drop i) (fNames rs) ∧ Ext H H')
      ⟨none, none, none, none, [], [], rfl, hp3, hb3, hr3, ⟨rfl, fun i r h => by simp at h⟩, rfl, by simp [fNames], k3⟩ (fun i σ H' _ ⟨_, _, _, _, _, _, _, _, e, _⟩ => SqL.of e) ?_ ?_
    · rintro i y σ H4 H5' hi ⟨v4, v5, v6, v7, xs, rs, rfl, hp4, hb4, hr4, R4, eo, ew, k4⟩ ⟨t, ia, lw, rfl, ht, rfl, ea, eb⟩
      rw [List.length_map] at hi
      have ea : some (V.int (i : Nat)) = some ia := ea
      cases ea
      have eb : (body.map V.str)[i]? = some lw := eb
      rw [List.getElem?_map, List.getElem?_eq_getElem hi] at eb
      cases eb
      have hlm := hbm _ (List.getElem_mem hi)
      have hll2 := pp.len hlm
      have hlc : ∀ c ∈ body[i].cps.toList, c < 128 := fun c h => hc c (pp.signs _ hlm c h)
      have hoi : os[i]? = some (rd body[i]) := by rw [← hos, List.getElem?_map, List.getElem?_eq_getElem hi]; rfl
      have hio : i < os.length := by omega
      have ed : os.drop i = rd body[i] :: os.drop (i + 1) := by
        rw [List.drop_eq_getElem_cons hio]
        congr 1
        rw [List.getElem?_eq_getElem hio] at hoi
        exact Option.some.inj hoi
      have et : os.take (i + 1) = os.take i ++ [rd body[i]] := by rw [List.take_add_one, hoi]; rfl
      have hp5 := new_same (o := .tup [.int (i : Nat), .str body[i]]) ht _ _ hp4
      have hb5 := new_same (o := .tup [.int (i : Nat), .str body[i]]) ht _ _ hb4
      have hr5 := new_same (o := .tup [.int (i : Nat), .str body[i]]) ht _ _ hr4
      have R5 := R4.ext (Ext.new (o := .tup [.int (i : Nat), .str body[i]]) ht)
      have k5 : Ext H (upd H4 t (.tup [.int (i : Nat), .str body[i]])) := k4.trans (Ext.new ht)
      refine ⟨t, _, rfl, SqT.of upd_same, rfl, _, _, rfl, _, _, rfl, rfl, ?_⟩
      show tSeq _ _ _ _ (upd H4 t (.tup [.int (i : Nat), .str body[i]]))
      generalize upd H4 t (.tup [.int (i : Nat), .str body[i]]) = H5 at hp5 hb5 hr5 R5 k5 ⊢
      refine ⟨_, rfl, ⟨_, rfl⟩, _, _, rfl, rfl, by decide +kernel, by rw [sizeLine_eq]; omega, fun q hq => ?_⟩
      have wp := sp_parts body[i]
      have hrd : rd body[i] = readRow (Txt.split body[i] " ") := rfl
      generalize Txt.split body[i] " " = ws at wp hrd ⊢
      generalize hgo : rd body[i] = o at hrd ed et
      have hp6 := new_same (o := .lst (ws.map V.str)) hq _ _ hp5
      have hb6 := new_same (o := .lst (ws.map V.str)) hq _ _ hb5
      have hr6 := new_same (o := .lst (ws.map V.str)) hq _ _ hr5
      have R6 := R5.ext (Ext.new (o := .lst (ws.map V.str)) hq)
      have k6 : Ext H (upd H5 q (.lst (ws.map V.str))) := k5.trans (Ext.new hq)
      have nqr : q ≠ rl := (ne_of_none hr5 hq).symm
      have hq6 : (upd H5 q (.lst (ws.map V.str))) q = some (.lst (ws.map V.str)) := upd_same
      generalize upd H5 q (.lst (ws.map V.str)) = H6 at hp6 hb6 hr6 R6 k6 hq6 ⊢
      refine ⟨_, rfl, rl, rfl, ⟨_, SqL.of hr6⟩, fun D hD => ?_⟩
      refine lc_it walk_list (fun i' H' => H' D = some (.lst (((fNames rs).take i').map V.str)) ∧ Ext H6 H') ⟨upd_same, Ext.new hD⟩ (fun i' H' _ ⟨_, e⟩ => SqL.of (e _ _ hr6)) ?_ ?_
      · rintro i' y H7 H8 hi' ⟨d7, k7⟩ ⟨rfl, hy⟩
        have hir : i' < rs.length := by have := R6.1; omega
        obtain ⟨p', h1, h2⟩ := R6.2 i' _ (List.getElem?_eq_getElem hir)
        rw [h1] at hy
        cases hy
        have hrl : rs.length ≤ i := by
          have := congrArg List.length eo
          rw [List.length_map, List.length_take] at this
          omega
        refine ⟨rfl, yes_of ?_⟩
        refine ⟨_, rfl, p', _, _, _, rfl, rfl, SqT.of (k7 _ _ h2), (show atI [V.str rs[i'].1, parV rs[i'].2] ((0 : Nat) : Int) = some (V.str rs[i'].1) from atI_nat rfl), _, d7, ?_, ?_, fun b' o hb' => ?_⟩
        · rw [List.length_map, List.length_take, fNames, List.length_map, sizeLine_eq]
          omega
        · rw [upd_same, List.take_add_one, List.map_append]
          have : (fNames rs)[i']? = some rs[i'].1 := by rw [fNames, List.getElem?_map, List.getElem?_eq_getElem hir]; rfl
          rw [this]
          rfl
        · rw [upd_ne (ne_of_none hb' hD)]
          exact k7 _ _ hb'
      rintro H7 ⟨d7, k67⟩
      have e0 : (fNames rs).take xs.length = fNames rs := by
        rw [R6.1]
        exact List.take_of_length_le (by rw [fNames, List.length_map]; exact Nat.le_refl _)
      rw [e0] at d7
      have nDr : D ≠ rl := (ne_of_none hr6 hD).symm
      refine ⟨_, _, rfl, ?_⟩
      have hrlen : rs.length = i := by
        have := congrArg List.length eo
        rw [List.length_map, List.length_take] at this
        omega
      have bad : rowB (fNames rs) o = false → ∀ (H' : Hp) (t : Addr), Ext H7 H' → H' t = none → Q (.ref t) (upd H' t (.tup [.str "text", .int (i : Nat)])) := by
        intro eB H' t k7' ht'
        have ewi : wrongAt os [] = i := by
          rw [ew, ed]
          cases o with
          | none => rfl
          | some r => show i + (if rowB (fNames rs) (some r) = true then _ else 0) = i; rw [eB]; rfl
        have k' := k
        rw [if_pos (Or.inl (by omega)), ewi] at k'
        exact k' _ _ ((k6.trans k67).trans (k7'.trans (Ext.new ht'))) (.tup (SqT.of upd_same) (.cons (.str _) (.cons (.int _) .nil)))
      have fin : ∀ (r : FRow) (H8 : Hp) (tr : Addr), o = some r → rowB (fNames rs) o = true → Ext H7 H8 → H8 tr = none →
          ∃ (v4 v5 v6 v7 : Option V) (xs' : List V) (rs' : List FRow), [some (.str x), some (.ref p), some (.bl (endedB ls)), some (.ref rl), some (.int (i : Nat)), some (.str body[i]), some (.ref q), some (.ref D), none] = [some (.str x), some (.ref p), some (.bl (endedB ls)), some (.ref rl), v4, v5, v6, v7, none] ∧
            (upd (upd H8 tr (.tup [.str r.1, parV r.2])) rl (.lst (xs ++ [.ref tr]))) p = some (.lst (ls.map V.str)) ∧ (upd (upd H8 tr (.tup [.str r.1, parV r.2])) rl (.lst (xs ++ [.ref tr]))) lb = some (.lst (body.map V.str)) ∧
            (upd (upd H8 tr (.tup [.str r.1, parV r.2])) rl (.lst (xs ++ [.ref tr]))) rl = some (.lst xs') ∧ RowsAt (upd (upd H8 tr (.tup [.str r.1, parV r.2])) rl (.lst (xs ++ [.ref tr]))) xs' rs' ∧ os.take (i + 1) = rs'.map some ∧ wrongAt os [] = (i + 1) + wrongAt (os.drop (i + 1)) (fNames rs') ∧ Ext H (upd (upd H8 tr (.tup [.str r.1, parV r.2])) rl (.lst (xs ++ [.ref tr]))) := by
        intro r H8 tr er eB k78 htr
        have k68 := k67.trans k78
        have hr8 := k68 _ _ hr6
        have hr9 := new_same (o := .tup [.str r.1, parV r.2]) htr _ _ hr8
        have R9 := RowsAt.snoc (r := r) ((R6.ext k68).ext (Ext.new (o := .tup [.str r.1, parV r.2]) htr)) upd_same
        refine ⟨_, _, _, _, xs ++ [.ref tr], rs ++ [r], rfl, ?_, ?_, upd_same, ⟨R9.1, fun j r' hj => ?_⟩, ?_, ?_, fun a o' ha => ?_⟩
        · rw [upd_ne npr]
          exact new_same htr _ _ (k68 _ _ hp6)
        · rw [upd_ne nlr]
          exact new_same htr _ _ (k68 _ _ hb6)
        · obtain ⟨p', b1, b2⟩ := R9.2 j r' hj
          refine ⟨p', b1, ?_⟩
          rw [upd_ne (ne_of b2 hr9 (by intro z; cases z))]
          exact b2
        · rw [et, eo, er, List.map_append]
          rfl
        · rw [ew, ed, er]
          rw [er] at eB
          show i + (if rowB (fNames rs) (some r) = true then wrongAt (os.drop (i + 1)) (fNames rs ++ [r.1]) + 1 else 0) = _
          rw [if_pos eB]
          have : fNames (rs ++ [r]) = fNames rs ++ [r.1] := by unfold fNames; rw [List.map_append]; rfl
          rw [this]
          omega
        · rw [upd_ne (ne_of_none ha hrlH)]
          exact new_same htr _ _ (k68 _ _ (k6 _ _ ha))
      have hq7 := k67 _ _ hq6
      have hr7 := k67 _ _ hr6
      have retB : rowB (fNames rs) o = false → ∀ H', Ext H7 H' → (tRet (tTup (tCons (tC (.str "text")) (tCons (tVar 4) tNil)))) { nx := fun _ H' => Q .non H', rt := Q } [some (.str x), some (.ref p), some (.bl (endedB ls)), some (.ref rl), some (.int (i : Nat)), some (.str body[i]), some (.ref q), some (.ref D), none] H' := by
        intro eB H' k7'
        exact ⟨_, rfl, by show 2 ≤ sizeLine; decide, fun t ht' => bad eB H' t k7' ht'⟩
      refine ⟨_, rfl, q, _, rfl, .inl (SqL.of hq7), by show 2 ≤ sizeLine; decide, fun tt htt => ?_⟩
      have k8 : Ext H7 (upd H7 tt (.tup [.int 2, .int 4])) := Ext.new htt
      refine ⟨tt, _, rfl, .inr (SqT.of upd_same), rfl, rfl, ?_⟩
      generalize upd H7 tt (.tup [.int 2, .int 4]) = H8 at k8 ⊢
      show ∃ b, V.bl (!inV (V.int (((ws.map V.str).length : Nat) : Int)) [V.int 2, V.int 4]) = V.bl b ∧ _
      rw [inV24, List.length_map]
      refine ⟨_, rfl, ?_⟩
      have hq8 := k8 _ _ hq7
      have d8 := k8 _ _ d7
      have hr8 := k8 _ _ hr7
      match ws, hrd, wp, hq8 with
      | [], _, wp, _ => exact absurd rfl wp.ne
      | [a], hrd, _, _ =>
        refine iteT (retB ?_ H8 k8)
        rw [hrd]
        rfl
      | [a, n, m], hrd, _, _ =>
        refine iteT (retB ?_ H8 k8)
        rw [hrd]
        rfl
      | a :: b :: c :: d :: e :: r, hrd, _, _ =>
        rw [show decide ((a :: b :: c :: d :: e :: r).length = 2 ∨ (a :: b :: c :: d :: e :: r).length = 4) = false from decide_eq_false (by simp only [List.length_cons]; omega)]
        refine iteT (retB ?_ H8 k8)
        rw [hrd]
        rfl
      | [a, n], hrd, wp, hq8 =>
        refine iteF ?_
        have lon : Lo n := ⟨by have := wp.len (q := n) (by simp); omega, fun c h => hlc c (wp.signs n (by simp) c h)⟩
        refine ⟨_, rfl, q, _, _, _, rfl, rfl, SqL.of hq8, (show atI [V.str a, V.str n] ((0 : Nat) : Int) = some (V.str a) from atI_nat rfl), rfl, _, rfl, ?_⟩
        have hrd' : o = if a = ("account" : Str) then some (n, none) else none := hrd
        by_cases ea : a = ("account" : Str)
        · rw [if_pos ea] at hrd'
          have rB : rowB (fNames rs) o = (nameOk n && (!decide (n ∈ fNames rs) && true)) := by rw [hrd']; rfl
          refine iteNS (congrArg V.str ea) ?_
          refine ⟨_, rfl, q, _, _, _, rfl, rfl, SqL.of hq8, (show atI [V.str a, V.str n] ((1 : Nat) : Int) = some (V.str n) from atI_nat rfl), n, rfl, lon, fun H9 k9 => ?_⟩
          have k79 := k8.trans k9
          refine ⟨_, rfl, ?_⟩
          cases e1 : nameOk n with
          | false => exact iteT (retB (by rw [rB, e1]; rfl) H9 k79)
          | true =>
            refine iteF ?_
            refine ⟨_, rfl, q, _, _, _, rfl, rfl, SqL.of (k9 _ _ hq8), (show atI [V.str a, V.str n] ((1 : Nat) : Int) = some (V.str n) from atI_nat rfl), _, rfl, D, _, rfl, .inl (SqL.of (k9 _ _ d8)), rfl, strs_flat _, _, rfl, ?_⟩
            rw [inV_strs]
            refine ite2 (fun e => retB (by have e : decide (n ∈ fNames rs) = true := e; rw [rB, e]; simp) H9 k79) (fun e => ?_)
            have e : decide (n ∈ fNames rs) = false := Bool.eq_false_iff.mpr e
            refine ⟨_, rfl, q, _, rfl, .inl (SqL.of (k9 _ _ hq8)), rfl, _, rfl, iteN (by intro z; cases z) ?_⟩
            refine ⟨_, rfl, .inl ⟨rfl, _, SqL.of (k9 _ _ hr8)⟩, _, rfl, q, _, _, _, rfl, rfl, SqL.of (k9 _ _ hq8), (show atI [V.str a, V.str n] ((1 : Nat) : Int) = some (V.str n) from atI_nat rfl), ?_⟩
            refine ⟨_, rfl, q, _, rfl, .inl (SqL.of (k9 _ _ hq8)), rfl, _, rfl, iteS rfl ?_⟩
            refine ⟨by show 2 ≤ sizeLine; decide, fun tr htr => ?_⟩
            refine ⟨rl, _, _, rfl, rfl, new_same htr _ _ (k9 _ _ hr8), by rw [R6.1, sizeLine_eq]; omega, ?_⟩
            exact fin (n, none) H9 tr hrd' (by rw [rB, e1, e]; rfl) k79 htr
        · rw [if_neg ea] at hrd'
          show if (!decide (V.str a = V.str "account")) = true then _ else _
          rw [decide_eq_false (str_ne ea)]
          exact iteT (retB (by rw [hrd']; rfl) H8 k8)
      | [a, n, iw, m], hrd, wp, hq8 =>
        refine iteF ?_
        have lon : Lo n := ⟨by have := wp.len (q := n) (by simp); omega, fun c h => hlc c (wp.signs n (by simp) c h)⟩
        have w0 : atI [V.str a, V.str n, V.str iw, V.str m] ((0 : Nat) : Int) = some (V.str a) := atI_nat rfl
        have w1 : atI [V.str a, V.str n, V.str iw, V.str m] ((1 : Nat) : Int) = some (V.str n) := atI_nat rfl
        have w2 : atI [V.str a, V.str n, V.str iw, V.str m] ((2 : Nat) : Int) = some (V.str iw) := atI_nat rfl
        have w3 : atI [V.str a, V.str n, V.str iw, V.str m] ((3 : Nat) : Int) = some (V.str m) := atI_nat rfl
        refine ⟨_, rfl, q, _, _, _, rfl, rfl, SqL.of hq8, w0, rfl, _, rfl, ?_⟩
        have hrd' : o = if a = ("account" : Str) ∧ iw = ("in" : Str) then some (n, some m) else none := hrd
        by_cases ea : a = ("account" : Str)
        · refine iteNS (congrArg V.str ea) ?_
          refine ⟨_, rfl, q, _, _, _, rfl, rfl, SqL.of hq8, w1, n, rfl, lon, fun H9 k9 => ?_⟩
          have k79 := k8.trans k9
          have rN : ¬ iw = ("in" : Str) → rowB (fNames rs) o = false := fun z => by
            rw [hrd', if_neg (fun y => z y.2)]
            rfl
          have rB : iw = ("in" : Str) → o = some (n, some m) ∧ rowB (fNames rs) o = (nameOk n && (!decide (n ∈ fNames rs) && decide (m ∈ fNames rs))) := fun z => by
            have e : o = some (n, some m) := by rw [hrd', if_pos ⟨ea, z⟩]
            exact ⟨e, by rw [e]; rfl⟩
          refine ⟨_, rfl, ?_⟩
          have any : ∀ {b : Bool}, b = false → (nameOk n = b ∨ (!decide (n ∈ fNames rs)) = b) → rowB (fNames rs) o = false := by
            intro b hb h
            by_cases z : iw = ("in" : Str)
            · rw [(rB z).2]
              rcases h with h | h
              · rw [h, hb]; rfl
              · rw [h, hb]; simp
            · exact rN z
          cases e1 : nameOk n with
          | false => exact iteT (retB (any rfl (.inl e1)) H9 k79)
          | true =>
            refine iteF ?_
            refine ⟨_, rfl, q, _, _, _, rfl, rfl, SqL.of (k9 _ _ hq8), w1, _, rfl, D, _, rfl, .inl (SqL.of (k9 _ _ d8)), rfl, strs_flat _, _, rfl, ?_⟩
            rw [inV_strs]
            refine ite2 (fun e => retB (any rfl (.inr (by have e : decide (n ∈ fNames rs) = true := e; rw [e]; rfl))) H9 k79) (fun e => ?_)
            have e : decide (n ∈ fNames rs) = false := Bool.eq_false_iff.mpr e
            refine ⟨_, rfl, q, _, rfl, .inl (SqL.of (k9 _ _ hq8)), rfl, _, rfl, iteS rfl ?_⟩
            refine ⟨_, rfl, q, _, _, _, rfl, rfl, SqL.of (k9 _ _ hq8), w2, rfl, _, rfl, ?_⟩
            by_cases ei : iw = ("in" : Str)
            · refine iteNS (congrArg V.str ei) ?_
              refine ⟨_, rfl, q, _, _, _, rfl, rfl, SqL.of (k9 _ _ hq8), w3, _, rfl, D, _, rfl, .inl (SqL.of (k9 _ _ d8)), rfl, strs_flat _, ?_⟩
              show ∃ b, V.bl (!inV (.str m) ((fNames rs).map V.str)) = V.bl b ∧ _
              rw [inV_strs]
              refine ⟨_, rfl, ?_⟩
              cases e3 : decide (m ∈ fNames rs) with
              | false => exact iteT (retB (by rw [(rB ei).2, e3]; simp) H9 k79)
              | true =>
                refine iteF ?_
                refine ⟨_, rfl, .inl ⟨rfl, _, SqL.of (k9 _ _ hr8)⟩, _, rfl, q, _, _, _, rfl, rfl, SqL.of (k9 _ _ hq8), w1, ?_⟩
                refine ⟨_, rfl, q, _, rfl, .inl (SqL.of (k9 _ _ hq8)), rfl, _, rfl, iteN (by intro z; cases z) ?_⟩
                refine ⟨_, rfl, q, _, _, _, rfl, rfl, SqL.of (k9 _ _ hq8), w3, by show 2 ≤ sizeLine; decide, fun tr htr => ?_⟩
                refine ⟨rl, _, _, rfl, rfl, new_same htr _ _ (k9 _ _ hr8), by rw [R6.1, sizeLine_eq]; omega, ?_⟩
                exact fin (n, some m) H9 tr (rB ei).1 (by rw [(rB ei).2, e1, e, e3]; rfl) k79 htr
            · show if (!decide (V.str iw = V.str "in")) = true then _ else _
              rw [decide_eq_false (str_ne ei)]
              exact iteT (retB (rN ei) H9 k79)
        · show if (!decide (V.str a = V.str "account")) = true then _ else _
          rw [decide_eq_false (str_ne ea)]
          refine iteT (retB ?_ H8 k8)
          rw [hrd', if_neg (fun y => ea y.1)]
          rfl
    · rintro σ H4 ⟨v4, v5, v6, v7, xs, rs, rfl, hp4, hb4, hr4, R4, eo, ew, k4⟩
      rw [List.length_map] at eo ew
      have ewo : wrongAt os [] = os.length := by
        rw [ew, ← hol, List.drop_length]
        rfl
      have eos : os = rs.map some := by
        rw [← eo, ← hol, List.take_length]
      have erl : rs.length = os.length := by rw [eos, List.length_map]
      refine ⟨_, rfl, endedB ls, rfl, ?_⟩
      cases ee : endedB ls with
      | false =>
        refine iteT ?_
        refine ⟨_, rfl, p, _, rfl, .inl (SqL.of hp4), by show 2 ≤ sizeLine; decide, fun t ht => ?_⟩
        rw [if_pos (Or.inr ee)] at k
        refine k _ _ (k4.trans (Ext.new ht)) ?_
        have e1 : (((ls.map V.str).length : Nat) : Int) = ((wrongAt os [] : Nat) : Int) := by
          rw [List.length_map, ewo, hol, hend ee]
        rw [e1]
        exact .tup (SqT.of upd_same) (.cons (.str _) (.cons (.int _) .nil))
      | true =>
        refine iteF ?_
        rw [if_neg (by rintro (z | z); exact absurd z (by omega); rw [ee] at z; cases z)] at k
        have xl : xs.length = rs.length := R4.1
        refine ⟨_, rfl, rl, _, rfl, .inl (SqL.of hr4), _, _, rfl, rfl, _, rfl, ?_⟩
        have no : ¬ (1 ≤ os.length ∧ os.length ≤ 8) → (tTup (tCons (tC (.str "forest")) tNil)) [some (.str x), some (.ref p), some (.bl true), some (.ref rl), v4, v5, v6, v7, none] H4 Q := by
          intro ng
          rw [if_neg ng] at k
          refine ⟨by show 1 ≤ sizeLine; decide, fun t ht => ?_⟩
          exact k _ _ (k4.trans (Ext.new ht)) (.tup (SqT.of upd_same) (.cons (.str _) .nil))
        refine ite2 (fun e => ?_) (fun e => ?_)
        · have e1 : (1 : Int) ≤ xs.length := of_decide_eq_true e
          refine ⟨_, _, rfl, rfl, _, rfl, ?_⟩
          refine ite2 (fun e => ?_) (fun e => ?_)
          · have e8 : (xs.length : Int) ≤ 8 := of_decide_eq_true e
            rw [if_pos ⟨by omega, by omega⟩, eos, filter_some] at k
            refine ⟨_, rfl, by show 2 ≤ sizeLine; decide, fun t ht => ?_⟩
            exact k _ _ (k4.trans (Ext.new ht)) (.tup (SqT.of upd_same) (.cons (.str _) (.cons (.lst (SqL.of (new_same ht _ _ hr4)) (dp_rows (R4.ext (Ext.new ht)))) .nil)))
          · have e8 : ¬ (xs.length : Int) ≤ 8 := of_decide_eq_false (Bool.eq_false_iff.mpr e)
            exact no (by omega)
        · have e1 : ¬ (1 : Int) ≤ xs.length := of_decide_eq_false (Bool.eq_false_iff.mpr e)
          exact ⟨false, rfl, iteF (no (by omega))⟩
end
end Lw

set_option Elab.async false
set_option linter.all false
set_option maxRecDepth 100000
set_option maxHeartbeats 8000000
namespace Lw
open L2 hiding Ext
open PySem PySem.Spec PyProof.Rows Gn Gr Gk Go Gt Gf Gx
abbrev sBent : Stmt := top 26
abbrev nBent : List Str := ["_law_state", "_law_text", "_law_way", "_law_at", "_law_sign", "_law_lines", "_law_k", "_law_to", "_law_words_here", "_law_spot"]
/-! ### joined texts -/
/-- texts with their separators: of at most m signs -/
structure Pt (m : Nat) (ps : List Str) : Prop where
  wt : (ps.map (·.length)).sum + ps.length ≤ m
  lo : ∀ p ∈ ps, ∀ ch ∈ p.cps.toList, ch < 128
theorem joinL_len (S : List Nat) : ∀ ps : List (List Nat), (TL.joinL S ps).length ≤ (ps.map (·.length)).sum + ps.length * S.length
  | [] => Nat.zero_le _
  | [p] => by
    show p.length ≤ _
    simp
  | p :: q :: r => by
    have := joinL_len S (q :: r)
    show (p ++ (S ++ TL.joinL S (q :: r))).length ≤ _
    rw [List.length_append, List.length_append, List.map_cons, List.sum_cons, List.length_cons, Nat.succ_mul]
    omega
theorem joinL_mem (S : List Nat) (P : Nat → Prop) (hS : ∀ c ∈ S, P c) : ∀ ps : List (List Nat), (∀ p ∈ ps, ∀ c ∈ p, P c) → ∀ c ∈ TL.joinL S ps, P c
  | [], _, c, hc => by cases hc
  | [p], h, c, hc => h p (List.mem_singleton.mpr rfl) c hc
  | p :: q :: r, h, c, hc => by
    have hc : c ∈ p ++ (S ++ TL.joinL S (q :: r)) := hc
    rcases List.mem_append.mp hc with hc | hc
    · exact h p (List.mem_cons_self ..) c hc
    rcases List.mem_append.mp hc with hc | hc
    · exact hS c hc
    · exact joinL_mem S P hS (q :: r) (fun p' hp => h p' (List.mem_cons_of_mem _ hp)) c hc
theorem map_tl_len (ps : List Str) : (ps.map TL.tl).map (·.length) = ps.map (·.length) := by
  rw [List.map_map]
  exact List.map_congr_left fun p _ => len_cps p
theorem Pt.join {m : Nat} {ps : List Str} (h : Pt m ps) {y : Str} (hy : TL.tl y = [32] ∨ TL.tl y = [10]) : Asc m (Txt.join y ps) := by
  have e : (Txt.join y ps).cps.toList = TL.joinL (TL.tl y) (ps.map TL.tl) := by
    show TL.tl _ = _
    rw [TL.join_eq, TL.tl_join]
  have y1 : (TL.tl y).length = 1 := by rcases hy with hy | hy <;> rw [hy] <;> rfl
  refine ⟨?_, fun ch hc => ?_⟩
  · rw [← len_cps, e]
    have := joinL_len (TL.tl y) (ps.map TL.tl)
    rw [map_tl_len, List.length_map, y1] at this
    have := h.wt
    omega
  · rw [e] at hc
    refine joinL_mem _ (· < 128) (fun c hc => ?_) _ (fun p hp c hc => ?_) ch hc
    · rcases hy with hy | hy <;> rw [hy] at hc <;> simp at hc <;> omega
    · obtain ⟨q, hq, rfl⟩ := List.mem_map.mp hp
      exact h.lo q hq c hc
theorem spl_both (s : Nat) : ∀ (l acc : List Nat), ((TL.spl [s] 0 acc l).map (·.length)).sum + (TL.spl [s] 0 acc l).length ≤ acc.length + l.length + 1
  | [], acc => by rw [TL.spl_nil]; simp
  | c :: r, acc => by
    show ((if TL.pre [s] (c :: r) = true then acc :: TL.spl [s] 0 [] r else TL.spl [s] 0 (acc ++ [c]) r).map (·.length)).sum + (if TL.pre [s] (c :: r) = true then acc :: TL.spl [s] 0 [] r else TL.spl [s] 0 (acc ++ [c]) r).length ≤ _
    split
    · have := spl_both s r []
      have e : ([] : List Nat).length = 0 := rfl
      rw [List.map_cons, List.sum_cons, List.length_cons, List.length_cons]
      omega
    · have := spl_both s r (acc ++ [c])
      rw [List.length_append] at this
      have e : [c].length = 1 := rfl
      rw [List.length_cons]
      omega
theorem pt_of {x y : Str} {s n : Nat} (hy : TL.tl y = [s]) (hk : y.cps.all (· < 256) = true) (a : Asc n x) : Pt (n + 1) (Txt.split x y) := by
  have e := TL.split_spl x y (by rw [hy]; simp) (kind_le x y hk)
  rw [hy] at e
  have q := spl_both s (TL.tl x) []
  rw [← e, map_tl_len, List.length_map] at q
  have e0 : ([] : List Nat).length = 0 := rfl
  have e1 : (TL.tl x).length = x.length := len_cps x
  refine ⟨by have := a.1; omega, fun p hp c hc => a.2 c ?_⟩
  exact (parts_of (x := x) (y := y) (by rw [hy]; simp) hk).signs p hp c hc
theorem sum_append (a b : List Nat) : (a ++ b).sum = a.sum + b.sum := by simp
theorem sum_take (l : List Nat) (k : Nat) : (l.take k).sum + (l.drop k).sum = l.sum := by rw [← sum_append, List.take_append_drop]
theorem Pt.mono {m m' : Nat} {ps : List Str} (h : Pt m ps) (k : m ≤ m') : Pt m' ps := ⟨Nat.le_trans h.wt k, h.lo⟩
theorem Pt.nil : Pt 0 [] := ⟨Nat.le_refl _, fun p hp => by cases hp⟩
theorem Pt.one {n : Nat} {p : Str} (h : Asc n p) : Pt (n + 1) [p] := ⟨by have := h.1; simp; omega, fun q hq => by rw [List.mem_singleton.mp hq]; exact h.2⟩
/-- some of them before and behind, others between -/
theorem Pt.mid {m m' : Nat} {ps qs : List Str} (h : Pt m ps) (k : Pt m' qs) (i d : Nat) : Pt (m + m') (ps.take i ++ qs ++ ps.drop (i + d)) := by
  have s1 := sum_take (ps.map (·.length)) i
  have s2 := sum_take ((ps.map (·.length)).drop i) d
  rw [List.drop_drop] at s2
  have := h.wt; have := k.wt
  refine ⟨?_, fun p hp => ?_⟩
  · rw [List.map_append, List.map_append, sum_append, sum_append, List.length_append, List.length_append, List.map_take, List.map_drop, List.length_take, List.length_drop]
    omega
  · rcases List.mem_append.mp hp with hp | hp
    · rcases List.mem_append.mp hp with hp | hp
      · exact h.lo p (List.mem_of_mem_take hp)
      · exact k.lo p hp
    · exact h.lo p (List.mem_of_mem_drop hp)
theorem Pt.part {m : Nat} {ps : List Str} (h : Pt m ps) (i j : Nat) : Pt m ((ps.drop i).take j) := by
  have s1 := sum_take (ps.map (·.length)) i
  have s2 := sum_take ((ps.map (·.length)).drop i) j
  have := h.wt
  refine ⟨?_, fun p hp => h.lo p (List.mem_of_mem_drop (List.mem_of_mem_take hp))⟩
  rw [List.map_take, List.map_drop, List.length_take, List.length_drop]
  omega
theorem Pt.set {m n : Nat} {ps : List Str} (h : Pt m ps) {y : Str} (hy : Asc n y) (i : Nat) : Pt (m + n) (ps.set i y) := by
  refine ⟨?_, fun p hp => ?_⟩
  · have e : ∀ (l : List Str) (i : Nat), ((l.set i y).map (·.length)).sum ≤ (l.map (·.length)).sum + n := by
      intro l
      induction l with
      | nil => intro i; simp
      | cons a r ih =>
        intro i
        have := hy.1
        cases i with
        | zero => simp; omega
        | succ i =>
          have := ih i
          simp at this ⊢
          omega
    have := e ps i
    have := h.wt
    rw [List.length_set]
    omega
  · rcases List.mem_or_eq_of_mem_set hp with hp | rfl
    · exact h.lo p hp
    · exact hy.2
theorem cut_to (ps : List Str) {i : Int} (h0 : 0 ≤ i) (h1 : i ≤ ps.length) : cutV (ps.map V.str) none (some i) = (ps.take i.toNat).map V.str := by
  have e : i = ((i.toNat : Nat) : Int) := by omega
  have q := cutV_to (ps.map V.str) i.toNat (by rw [List.length_map]; omega)
  rw [← e] at q
  rw [q, List.map_take]
theorem cut_from (ps : List Str) {i : Int} (h0 : 0 ≤ i) : cutV (ps.map V.str) (some i) none = (ps.drop i.toNat).map V.str := by
  have e : i = ((i.toNat : Nat) : Int) := by omega
  unfold cutV
  have q : HT.sIx (ps.map V.str).length 0 (some i) = min i.toNat (ps.map V.str).length := by
    have z := HT.sIx_nat (ps.map V.str).length 0 i.toNat
    rw [← e] at z
    exact z
  rw [q, HT.sIx_none, List.map_drop]
  by_cases hl : i.toNat ≤ (ps.map V.str).length
  · rw [Nat.min_eq_left hl]
    exact List.take_of_length_le (by rw [List.length_drop]; exact Nat.le_refl _)
  · rw [Nat.min_eq_right (by omega), List.drop_of_length_le (Nat.le_refl _), List.drop_of_length_le (by omega)]
    simp
/-- a cut of a list of texts -/
theorem cutV_map (ps : List Str) (lo hi : Option Int) : ∃ i j, cutV (ps.map V.str) lo hi = ((ps.drop i).take j).map V.str := by
  refine ⟨HT.sIx (ps.map V.str).length 0 lo, HT.sIx (ps.map V.str).length (ps.map V.str).length hi - HT.sIx (ps.map V.str).length 0 lo, ?_⟩
  unfold cutV
  rw [List.map_take, List.map_drop]
end Lw

set_option Elab.async false
set_option linter.all false
set_option maxRecDepth 100000
set_option maxHeartbeats 8000000
namespace Lw
open L2 hiding Ext
open PySem PySem.Spec PyProof.Rows Gn Gr Gk Go Gt Gf Gx
section
variable {P : Program} {w : World} {K : PySem.W.Frag} {mg : Str → Option Value} {base : Heap}
def spBent (ns : List Int) : Sp := fun vs H Q _ => ∃ (d g c : Addr) (b n : Nat) (x : Str), vs = [.ref d, .str x] ∧ Dw ns d g c b H ∧ b ≤ 700000000 ∧ Asc n x ∧ n ≤ 4600 ∧
  ∀ (y : Str) (H' : Hp), Asc (4 * n + 20) y → Dw ns d g c (b + 10) H' → Kp d g H H' → Q (.str y) H'
theorem scBent : FnScope nBent ["_law_state", "_law_text"] (defScope sBent) := ⟨rfl, rfl, rfl, by decide +kernel, rfl, by decide +kernel, by decide +kernel⟩
theorem signs10 : ∀ x ∈ ([.str "a", .str "z", .str " ", .str "\n", .str "A", .str "1", .str "  ", .str " in ", .str "account ", .str "x"] : List V), ∃ y, x = .str y ∧ Asc 8 y := by
  intro x hx
  simp only [List.mem_cons, List.not_mem_nil, or_false] at hx
  rcases hx with rfl | rfl | rfl | rfl | rfl | rfl | rfl | rfl | rfl | rfl <;> exact ⟨_, rfl, by decide +kernel, by decide +kernel⟩
theorem words7 : ∀ x ∈ ([.str "account", .str "in", .str "a", .str "abcdefghi", .str "", .str "B", .str "b2"] : List V), ∃ y, x = .str y ∧ Asc 9 y := by
  intro x hx
  simp only [List.mem_cons, List.not_mem_nil, or_false] at hx
  rcases hx with rfl | rfl | rfl | rfl | rfl | rfl | rfl <;> exact ⟨_, rfl, by decide +kernel, by decide +kernel⟩
theorem ok_bent {f fT fP : Addr} {fd fdT fdP : FuncData} (ns : List Int) (F : Fun K "_law_bent" "_law_bent" sBent f fd) (R : Draw P w K mg base ns fT fP fdT fdP) : FnOk P w K mg base CX0 4 f fd ["_law_state", "_law_text"] (spBent ns) := by
  refine F.ok scBent (fun vs H Q E h => ?_) (fun cdv A outer s H vs Q E hr h => ?_)
  · obtain ⟨d, g, c, b, n, x, rfl, _⟩ := h
    rfl
  · obtain ⟨d, g, c, b, n, x, rfl, D, hb, hx, hn, k⟩ := h
    have hu := hu_of hr
    have nd := scBent.nd
    have hr2 : Room 2 (A.deeper (envOfC "_law_bent" (defScope sBent) s.heap.objs.size f cdv)) := hr.mono (by decide)
    refine ⟨_, pss_cons (ps_par (i := 2) (j := 3) rfl nd rfl rfl (by decide) rfl rfl (pa_cons (pe_call R.GT hr2 rfl R.mT R.kT R.bT .nil pass0 (pa_cons (pv 0) (pa_cons pe_int pa_nil)))
          (pa_cons (pe_call R.GT hr2 rfl R.mT R.kT R.bT .nil pass0 (pa_cons (pv 0) (pa_cons (pe_op op_add (pe_callB call_len_str rfl R.len PySem.boot_len (pa_cons (pv 1) pa_nil)) pe_int) pa_nil))) pa_nil)) (by rfl))
      (pss_cons (ps_set (i := 4) nd rfl (.inl rfl) (pe_call R.GP hr rfl R.mP R.kP R.bP .nil pass0 (pa_cons (pv 0) (pa_cons (pe_lst (pa_cons pe_str (pa_cons pe_str (pa_cons pe_str (pa_cons pe_str (pa_cons pe_str (pa_cons pe_str (pa_cons pe_str (pa_cons pe_str (pa_cons pe_str (pa_cons pe_str pa_nil))))))))))) pa_nil))))
      (pss_cons (ps_set (i := 5) nd rfl (.inl rfl) (pe_split (pv 1) pe_str))
      (pss_cons (ps_par (i := 6) (j := 7) rfl nd rfl rfl (by decide) rfl rfl (pa_cons (pe_call R.GT hr2 rfl R.mT R.kT R.bT .nil pass0 (pa_cons (pv 0) (pa_cons (pe_callB call_len_seq rfl R.len PySem.boot_len (pa_cons (pv 5) pa_nil)) pa_nil)))
          (pa_cons (pe_call R.GT hr2 rfl R.mT R.kT R.bT .nil pass0 (pa_cons (pv 0) (pa_cons (pe_callB call_len_seq rfl R.len PySem.boot_len (pa_cons (pv 5) pa_nil)) pa_nil))) pa_nil)) (by rfl))
      (pss_cons (ps_set (i := 8) nd rfl (.inl rfl) (pe_split (pe_ix ix_list (pv 5) (pv 6) (fun _ _ => rfl)) pe_str))
      (pss_cons (ps_set (i := 9) nd rfl (.inl rfl) (pe_call R.GT hr2 rfl R.mT R.kT R.bT .nil pass0 (pa_cons (pv 0) (pa_cons (pe_callB call_len_seq rfl R.len PySem.boot_len (pa_cons (pv 8) pa_nil)) pa_nil))))
      (pss_cons (ps_if (pt_cmpR op_lt (pv 2) pe_int (nomark _))
        (pss_one (ps_ret (pe_op op_add_str (pe_op op_add_str (pe_slice sl_str (pv 1) po_none (po_some (pv 3))) (pe_ix ix_list (pe_lst (pa_cons pe_str (pa_cons (pv 4) (pa_cons (pv 4) pa_nil)))) (pv 2) (fun _ _ => rfl)))
          (pe_slice sl_str (pv 1) (po_some (pe_op op_add (pv 3) (pe_ix ix_list (pe_lst (pa_cons pe_int (pa_cons pe_int (pa_cons pe_int pa_nil)))) (pv 2) (fun _ _ => rfl)))) po_none)))) pss_nil)
      (pss_cons (ps_if (pt_cmpR op_eq (pv 2) pe_int (nomark _))
        (pss_one (ps_ret (pe_join pe_str (pe_op op_cat (pe_slice sl_list (pv 5) po_none (po_some (pv 6))) (pe_slice sl_list (pv 5) (po_some (pe_op op_add (pv 6) pe_int)) po_none))))) pss_nil)
      (pss_cons (ps_if (pt_cmpR op_eq (pv 2) pe_int (nomark _))
        (pss_one (ps_ret (pe_join pe_str (pe_op op_cat (pe_op op_cat (pe_slice sl_list (pv 5) po_none (po_some (pv 7))) (pe_slice sl_list (pv 5) (po_some (pv 6)) (po_some (pe_op op_add (pv 6) pe_int)))) (pe_slice sl_list (pv 5) (po_some (pv 7)) po_none))))) pss_nil)
      (pss_cons (ps_if (pt_cmpR op_eq (pv 2) pe_int (nomark _))
        (pss_cons (ps_asg (pe_tup (pa_cons (pe_ix ix_list (pv 5) (pv 7) (fun _ _ => rfl)) (pa_cons (pe_ix ix_list (pv 5) (pv 6) (fun _ _ => rfl)) pa_nil))) (by exact (pg_tup rfl (pgs_cons (pg_sub (pv 5) (pv 6) set_list (fun _ => rfl)) (pgs_cons (pg_sub (pv 5) (pv 7) set_list (fun _ => rfl)) pgs_nil)))))
        (pss_one (ps_ret (pe_join pe_str (pv 5))))) pss_nil)
      (pss_cons (ps_if (pt_cmpR op_eq (pv 2) pe_int (nomark _))
        (pss_one (ps_set (i := 8) nd rfl (.inl rfl) (pe_op op_cat (pe_slice sl_list (pv 8) po_none (po_some (pv 9))) (pe_slice sl_list (pv 8) (po_some (pe_op op_add (pv 9) pe_int)) po_none))))
        (pss_one (ps_if (pt_cmpR op_eq (pv 2) pe_int (nomark _))
          (pss_one (ps_expr (pe_bm PySem.F.plainAttrs_list PySem.F.slot_list_insert PySem.F.type_list_insert mt_insert (pv 8) (pa_cons (pv 9) (pa_cons (pe_ix ix_list (pv 8) (pv 9) (fun _ _ => rfl)) pa_nil)))))
          (pss_one (ps_set (i := 8) nd rfl (.inl rfl) (pe_op op_cat (pe_op op_cat (pe_slice sl_list (pv 8) po_none (po_some (pv 9))) (pe_lst (pa_cons (pe_call R.GP hr rfl R.mP R.kP R.bP .nil pass0 (pa_cons (pv 0) (pa_cons (pe_lst (pa_cons pe_str (pa_cons pe_str (pa_cons pe_str (pa_cons pe_str (pa_cons pe_str (pa_cons pe_str (pa_cons pe_str pa_nil)))))))) pa_nil))) pa_nil))) (pe_slice sl_list (pv 8) (po_some (pe_op op_add (pv 9) pe_int)) po_none)))))))
      (pss_one (ps_ret (pe_join pe_str (pe_op op_cat (pe_op op_cat (pe_slice sl_list (pv 5) po_none (po_some (pv 6))) (pe_lst (pa_cons (pe_join pe_str (pv 8)) pa_nil))) (pe_slice sl_list (pv 5) (po_some (pe_op op_add (pv 6) pe_int)) po_none))))))))))))))), ?_⟩
    have hxl := hx.1
    refine ⟨_, rfl, d, g, c, b, 9, rfl, D, by omega, by decide, by decide, fun way H1 w0 w1 D1 k1 => ?_⟩
    refine ⟨_, rfl, _, rfl, x, rfl, by rw [sizeLine_eq]; omega, _, _, rfl, rfl, d, g, c, _, _, rfl, D1, by omega, by omega, by omega, fun at_ H2 a0 a1 D2 k2 => ?_⟩
    refine ⟨_, _, rfl, ?_⟩
    refine ⟨_, rfl, by show 10 ≤ sizeLine; decide, fun q hq => ?_⟩
    refine ⟨d, g, c, _, D2.new hq, by omega, .inl ⟨q, _, rfl, upd_same, D2.nd hq, D2.ng hq, by show 0 < 10; decide, by show 10 ≤ 1000000; decide, fun v3 H3 hx3 D3 k3 => ?_⟩⟩
    obtain ⟨sg, rfl, hsg⟩ := signs10 v3 hx3
    have k03 : Kp d g H H3 := (k1.trans k2).trans ((Kp.new hq).trans k3)
    refine ⟨_, rfl, ⟨_, rfl⟩, _, _, rfl, rfl, by decide +kernel, by rw [sizeLine_eq]; omega, fun L hL => ?_⟩
    have pp := nl_parts x
    have pt := pt_of (y := "\n") nl_tl (by decide +kernel) hx
    generalize Txt.split x "\n" = ls at pp pt ⊢
    have nLd : L ≠ d := D3.nd hL
    have nLg : L ≠ g := D3.ng hL
    have nLc : L ≠ c := fun e => by rw [e, D3.cl] at hL; cases hL
    have hLH : H L = none := D.free D3 k03 hL
    have D4 := D3.new (o := .lst (ls.map V.str)) hL
    have k04 : Kp d g H (upd H3 L (.lst (ls.map V.str))) := k03.trans (Kp.new hL)
    have L4 : (upd H3 L (.lst (ls.map V.str))) L = some (.lst (ls.map V.str)) := upd_same
    generalize upd H3 L (.lst (ls.map V.str)) = H4 at D4 k04 L4 ⊢
    have lsl : 1 ≤ ls.length := List.length_pos_iff.mpr pp.ne
    have lsm : ls.length ≤ n + 1 := by have := pt.wt; omega
    have eL : ((ls.map V.str).length : Int) = (ls.length : Int) := by rw [List.length_map]
    refine ⟨_, rfl, _, rfl, L, _, rfl, .inl (SqL.of L4), d, g, c, _, _, rfl, D4, by omega, by omega, by omega, fun kk H5 kk0 kk1 D5 k5 => ?_⟩
    have L5 := k5 _ _ nLd nLg L4
    refine ⟨_, rfl, _, rfl, L, _, rfl, .inl (SqL.of L5), d, g, c, _, _, rfl, D5, by omega, by omega, by omega, fun to H6 t0 t1 D6 k6 => ?_⟩
    have L6 := k6 _ _ nLd nLg L5
    have k06 : Kp d g H H6 := (k04.trans k5).trans k6
    refine ⟨_, _, rfl, ?_⟩
    obtain ⟨lv, lv1, lv2⟩ := at_int kk0 kk1
    obtain ⟨ln, hln, rfl⟩ := List.mem_map.mp lv2
    have aln : Asc n ln := ⟨Nat.le_trans (pp.len hln) hxl, fun c h => hx.2 c (pp.signs ln hln c h)⟩
    have alnl := aln.1
    refine ⟨_, rfl, _, rfl, L, _, kk, _, rfl, rfl, SqL.of L6, lv1, ⟨_, rfl⟩, _, _, rfl, rfl, by decide +kernel, by rw [sizeLine_eq]; omega, fun W hW => ?_⟩
    have wp := sp_parts ln
    have wt := pt_of (y := " ") sp_tl (by decide +kernel) aln
    generalize Txt.split ln " " = ws at wp wt ⊢
    have nWd : W ≠ d := D6.nd hW
    have nWg : W ≠ g := D6.ng hW
    have nWc : W ≠ c := fun e => by rw [e, D6.cl] at hW; cases hW
    have nWL : W ≠ L := (ne_of_none L6 hW).symm
    have hWH : H W = none := D.free D6 k06 hW
    have D7 := D6.new (o := .lst (ws.map V.str)) hW
    have k07 : Kp d g H (upd H6 W (.lst (ws.map V.str))) := k06.trans (Kp.new hW)
    have W7 : (upd H6 W (.lst (ws.map V.str))) W = some (.lst (ws.map V.str)) := upd_same
    have L7 := new_same (o := .lst (ws.map V.str)) hW _ _ L6
    generalize upd H6 W (.lst (ws.map V.str)) = H7 at D7 k07 W7 L7 ⊢
    have wsl : 1 ≤ ws.length := List.length_pos_iff.mpr wp.ne
    have wsm : ws.length ≤ n + 1 := by have := wt.wt; omega
    have eW : ((ws.map V.str).length : Int) = (ws.length : Int) := by rw [List.length_map]
    refine ⟨_, rfl, _, rfl, W, _, rfl, .inl (SqL.of W7), d, g, c, _, _, rfl, D7, by omega, by omega, by omega, fun sp H8 s0 s1 D8 k8 => ?_⟩
    have L8 := k8 _ _ nLd nLg L7
    have W8 := k8 _ _ nWd nWg W7
    have k08 : Kp d g H H8 := k07.trans k8
    have nl1 : ("\n" : Str).length = 1 := by decide +kernel
    have sp1 : (" " : Str).length = 1 := by decide +kernel
    -- a joined text of lines
    have jn : ∀ (ys : List Str) (m : Nat) (H' : Hp) (p : Addr), Pt m ys → m ≤ 4 * n + 20 → H' p = some (.lst (ys.map V.str)) → Dw ns d g c (b + 10) H' → Kp d g H H' →
        ∃ (a : Str) (p' : Addr) (ys' : List Str), V.str "\n" = V.str a ∧ [V.ref p] = [V.ref p'] ∧ (SqL K H' p' (ys'.map V.str) ∨ SqT K H' p' (ys'.map V.str)) ∧ (ys'.map (·.length)).sum + ys'.length * a.length ≤ 16777216 ∧ Q (.str (Txt.join a ys')) H' := by
      intro ys m H' p hpt hm hp D' k'
      have := hpt.wt
      refine ⟨"\n", p, ys, rfl, rfl, .inl (SqL.of hp), by rw [nl1]; omega, ?_⟩
      exact k _ H' ((hpt.join (.inr nl_tl)).mono hm) D' k'
    refine ⟨_, rfl, _, _, rfl, rfl, _, rfl, ?_⟩
    refine ite2 (fun e => ?_) (fun e => ?_)
    · have e3 : way < 3 := of_decide_eq_true e
      refine ⟨_, rfl, _, rfl, at_, rfl, x, rfl, by rw [sizeLine_eq]; omega, _, rfl, _, rfl, by show 3 ≤ sizeLine; decide, fun q1 hq1 => ?_⟩
      obtain ⟨v, v1, v2⟩ := at_int (xs := [V.str "", V.str sg, V.str sg]) w0 (by show way < 3; exact e3)
      obtain ⟨y, rfl, hy⟩ : ∃ y, v = V.str y ∧ Asc 8 y := by
        simp only [List.mem_cons, List.not_mem_nil, or_false] at v2
        rcases v2 with rfl | rfl | rfl
        · exact ⟨_, rfl, by decide +kernel, by decide +kernel⟩
        · exact ⟨_, rfl, hsg⟩
        · exact ⟨_, rfl, hsg⟩
      have a1 : Asc n (cutS x none (some at_)) := hx.cut _ _
      have a1' := a1.1
      have hy1 := hy.1
      have a2 := (a1.app hy).1
      refine ⟨_, rfl, q1, _, way, _, rfl, rfl, SqL.of upd_same, v1, _, _, rfl, rfl, by rw [sizeLine_eq]; omega, ?_⟩
      refine ⟨_, rfl, _, rfl, by show 3 ≤ sizeLine; decide, fun q2 hq2 => ?_⟩
      obtain ⟨u, u1, u2⟩ := at_int (xs := [V.int 1, V.int 0, V.int 1]) w0 (by show way < 3; exact e3)
      obtain ⟨j, rfl⟩ : ∃ j : Int, u = V.int j := by
        simp only [List.mem_cons, List.not_mem_nil, or_false] at u2
        rcases u2 with rfl | rfl | rfl <;> exact ⟨_, rfl⟩
      have a3 : Asc n (cutS x (some (at_ + j)) none) := hx.cut _ _
      have a3' := a3.1
      refine ⟨_, rfl, q2, _, way, _, rfl, rfl, SqL.of upd_same, u1, _, _, rfl, rfl, _, rfl, x, rfl, by rw [sizeLine_eq]; omega, _, _, rfl, rfl, by rw [sizeLine_eq]; omega, ?_⟩
      refine k _ _ (((a1.app hy).app a3).mono (by omega)) (((D8.new hq1).new hq2).mono (by omega)) ((k08.trans (Kp.new hq1)).trans (Kp.new hq2))
    refine ⟨_, rfl, rfl, _, rfl, ?_⟩
    refine ite2 (fun _ => ?_) (fun _ => ?_)
    · refine ⟨⟨_, rfl⟩, _, rfl, _, rfl, kk, rfl, L, _, rfl, SqL.of L8, fun p1 hp1 => ?_⟩
      have L9 := new_same (o := .lst (cutV (ls.map V.str) none (some kk))) hp1 _ _ L8
      refine ⟨_, rfl, _, rfl, _, _, rfl, rfl, _, rfl, L, _, rfl, SqL.of L9, fun p2 hp2 => ?_⟩
      have c1 := cut_to ls kk0 (by omega)
      have c2 := cut_from ls (i := kk + 1) (by omega)
      have e2 : (kk + 1).toNat = kk.toNat + 1 := by omega
      rw [e2] at c2
      have m1 := cutV_length (ls.map V.str) none (some kk)
      have m2 := cutV_length (ls.map V.str) (some (kk + 1)) none
      rw [List.length_map] at m1 m2
      refine ⟨p1, p2, _, _, rfl, rfl, new_same hp2 _ _ upd_same, upd_same, by rw [sizeLine_eq]; omega, fun p3 hp3 => ?_⟩
      refine jn (ls.take kk.toNat ++ [] ++ ls.drop (kk.toNat + 1)) ((n + 1) + 0) _ p3 (pt.mid .nil _ _) (by omega) ?_ ((((D8.new hp1).new hp2).new hp3).mono (by omega)) (((k08.trans (Kp.new hp1)).trans (Kp.new hp2)).trans (Kp.new hp3))
      rw [upd_same, c1, c2, List.append_nil, List.map_append]
    refine ⟨_, rfl, rfl, _, rfl, ?_⟩
    refine ite2 (fun _ => ?_) (fun _ => ?_)
    · refine ⟨⟨_, rfl⟩, _, rfl, _, rfl, to, rfl, L, _, rfl, SqL.of L8, fun p1 hp1 => ?_⟩
      have L9 := new_same (o := .lst (cutV (ls.map V.str) none (some to))) hp1 _ _ L8
      refine ⟨_, rfl, _, rfl, kk, rfl, _, rfl, _, _, rfl, rfl, _, rfl, L, _, rfl, SqL.of L9, fun p2 hp2 => ?_⟩
      have c1 := cut_to ls t0 (by omega)
      obtain ⟨i2, j2, c2⟩ := cutV_map ls (some kk) (some (kk + 1))
      have c3 := cut_from ls t0
      have m1 := cutV_length (ls.map V.str) none (some to)
      have m2 := cutV_length (ls.map V.str) (some kk) (some (kk + 1))
      have m3 := cutV_length (ls.map V.str) (some to) none
      rw [List.length_map] at m1 m2 m3
      refine ⟨p1, p2, _, _, rfl, rfl, new_same hp2 _ _ upd_same, upd_same, by rw [sizeLine_eq]; omega, fun p3 hp3 => ?_⟩
      have L10 := new_same (o := .lst (cutV (ls.map V.str) none (some to) ++ cutV (ls.map V.str) (some kk) (some (kk + 1)))) hp3 _ _ (new_same (o := .lst (cutV (ls.map V.str) (some kk) (some (kk + 1)))) hp2 _ _ L9)
      refine ⟨_, rfl, _, rfl, to, rfl, L, _, rfl, SqL.of L10, fun p4 hp4 => ?_⟩
      refine ⟨p3, p4, _, _, rfl, rfl, new_same hp4 _ _ upd_same, upd_same, by rw [List.length_append, sizeLine_eq]; omega, fun p5 hp5 => ?_⟩
      refine jn (ls.take to.toNat ++ ((ls.drop i2).take j2) ++ ls.drop (to.toNat + 0)) ((n + 1) + (n + 1)) _ p5 (pt.mid (pt.part i2 j2) _ _) (by omega) ?_ ((((((D8.new hp1).new hp2).new hp3).new hp4).new hp5).mono (by omega)) (((((k08.trans (Kp.new hp1)).trans (Kp.new hp2)).trans (Kp.new hp3)).trans (Kp.new hp4)).trans (Kp.new hp5))
      rw [upd_same, c1, c2, c3, List.map_append, List.map_append]
      rfl
    refine ⟨_, rfl, rfl, _, rfl, ?_⟩
    refine ite2 (fun _ => ?_) (fun _ => ?_)
    · have lk1 : kk < (ls.map V.str).length := kk1
      have lt1 : to < (ls.map V.str).length := t1
      obtain ⟨tv, tv1, tv2⟩ := at_int (xs := ls.map V.str) t0 lt1
      obtain ⟨lo, hlo, rfl⟩ := List.mem_map.mp tv2
      have alo : Asc n lo := ⟨Nat.le_trans (pp.len hlo) hxl, fun c h => hx.2 c (pp.signs lo hlo c h)⟩
      refine ⟨_, rfl, _, rfl, L, _, to, _, rfl, rfl, SqL.of L8, tv1, _, rfl, _, rfl, L, _, kk, _, rfl, rfl, SqL.of L8, lv1, by show 2 ≤ sizeLine; decide, fun tp htp => ?_⟩
      have L9 := new_same (o := .tup [V.str lo, V.str ln]) htp _ _ L8
      have D9 := D8.new (o := .tup [V.str lo, V.str ln]) htp
      have k9 : Kp d g H (upd H8 tp (.tup [V.str lo, V.str ln])) := k08.trans (Kp.new htp)
      refine ⟨tp, _, rfl, SqT.of upd_same, rfl, _, _, rfl, ?_⟩
      generalize upd H8 tp (.tup [V.str lo, V.str ln]) = H9 at L9 D9 k9 ⊢
      have ix1 : ixN (ls.map V.str).length kk = some kk.toNat := by unfold ixN; rw [if_pos kk0, if_pos lk1]
      refine ⟨_, rfl, _, rfl, L, _, kk, _, rfl, rfl, L9, ix1, ?_⟩
      have e1 : (ls.map V.str).set kk.toNat (V.str lo) = (ls.set kk.toNat lo).map V.str := List.map_set.symm
      rw [e1]
      have L10 : (upd H9 L (.lst ((ls.set kk.toNat lo).map V.str))) L = some (.lst ((ls.set kk.toNat lo).map V.str)) := upd_same
      have D10 := D9.put (o := .lst ((ls.set kk.toNat lo).map V.str)) L9 nLd nLg nLc
      have k10 : Kp d g H (upd H9 L (.lst ((ls.set kk.toNat lo).map V.str))) := fun a o n1 n2 ha => by
        rw [upd_ne (ne_of_none ha hLH)]
        exact k9 a o n1 n2 ha
      generalize upd H9 L (.lst ((ls.set kk.toNat lo).map V.str)) = H10 at L10 D10 k10 ⊢
      have ix2 : ixN ((ls.set kk.toNat lo).map V.str).length to = some to.toNat := by
        have : to < (((ls.set kk.toNat lo).map V.str).length : Nat) := by rw [List.length_map, List.length_set]; rw [List.length_map] at lt1; exact lt1
        unfold ixN
        rw [if_pos t0, if_pos this]
      refine ⟨_, _, rfl, _, rfl, _, rfl, L, _, to, _, rfl, rfl, L10, ix2, rfl, ?_⟩
      have e2 : ((ls.set kk.toNat lo).map V.str).set to.toNat (V.str ln) = ((ls.set kk.toNat lo).set to.toNat ln).map V.str := List.map_set.symm
      rw [e2]
      have D11 := D10.put (o := .lst (((ls.set kk.toNat lo).set to.toNat ln).map V.str)) L10 nLd nLg nLc
      refine ⟨⟨_, rfl⟩, _, rfl, jn ((ls.set kk.toNat lo).set to.toNat ln) ((n + 1) + n + n) _ L ((pt.set alo _).set aln _) (by omega) upd_same (D11.mono (by omega)) fun a o n1 n2 ha => ?_⟩
      rw [upd_ne (ne_of_none ha hLH)]
      exact k10 a o n1 n2 ha
    refine ⟨_, rfl, rfl, _, rfl, ?_⟩
    refine ite2 (fun _ => ?A) (fun _ => ?BC)
    case' A =>
      refine ⟨_, rfl, _, rfl, sp, rfl, W, _, rfl, SqL.of W8, fun p1 hp1 => ?_⟩
      have W9 := new_same (o := .lst (cutV (ws.map V.str) none (some sp))) hp1 _ _ W8
      refine ⟨_, rfl, _, rfl, _, _, rfl, rfl, _, rfl, W, _, rfl, SqL.of W9, fun p2 hp2 => ?_⟩
      have c1 := cut_to ws s0 (by omega)
      have c2 := cut_from ws (i := sp + 1) (by omega)
      have e2 : (sp + 1).toNat = sp.toNat + 1 := by omega
      rw [e2] at c2
      have m1 := cutV_length (ws.map V.str) none (some sp)
      have m2 := cutV_length (ws.map V.str) (some (sp + 1)) none
      rw [List.length_map] at m1 m2
      refine ⟨p1, p2, _, _, rfl, rfl, new_same hp2 _ _ upd_same, upd_same, by rw [sizeLine_eq]; omega, fun WW hWW => ?_⟩
      have DW : Dw ns d g c (b + 10) _ := (((D8.new hp1).new hp2).new (o := .lst (cutV (ws.map V.str) none (some sp) ++ cutV (ws.map V.str) (some (sp + 1)) none)) hWW).mono (by omega)
      have kW : Kp d g H _ := ((k08.trans (Kp.new (o := .lst (cutV (ws.map V.str) none (some sp))) hp1)).trans (Kp.new (o := .lst (cutV (ws.map V.str) (some (sp + 1)) none)) hp2)).trans (Kp.new (o := .lst (cutV (ws.map V.str) none (some sp) ++ cutV (ws.map V.str) (some (sp + 1)) none)) hWW)
      have LW := new_same (o := .lst (cutV (ws.map V.str) none (some sp) ++ cutV (ws.map V.str) (some (sp + 1)) none)) hWW _ _ (new_same (o := .lst (cutV (ws.map V.str) (some (sp + 1)) none)) hp2 _ _ (new_same (o := .lst (cutV (ws.map V.str) none (some sp))) hp1 _ _ L8))
      obtain ⟨ww, eww, pw⟩ : ∃ ww, ww.map V.str = cutV (ws.map V.str) none (some sp) ++ cutV (ws.map V.str) (some (sp + 1)) none ∧ Pt (2 * n + 11) ww := ⟨ws.take sp.toNat ++ [] ++ ws.drop (sp.toNat + 1), by rw [c1, c2, List.append_nil, List.map_append], (wt.mid .nil _ _).mono (by omega)⟩
      have WW8 := upd_same (H := upd (upd H8 p1 (.lst (cutV (ws.map V.str) none (some sp)))) p2 (.lst (cutV (ws.map V.str) (some (sp + 1)) none))) (a := WW) (o := HO.lst (cutV (ws.map V.str) none (some sp) ++ cutV (ws.map V.str) (some (sp + 1)) none))
      generalize upd (upd (upd H8 p1 (.lst (cutV (ws.map V.str) none (some sp)))) p2 (.lst (cutV (ws.map V.str) (some (sp + 1)) none))) WW (.lst (cutV (ws.map V.str) none (some sp) ++ cutV (ws.map V.str) (some (sp + 1)) none)) = HW at DW kW LW WW8 ⊢
      rw [← eww] at WW8
    case' BC =>
      refine ⟨_, rfl, rfl, _, rfl, ?_⟩
      refine ite2 (fun _ => ?B) (fun _ => ?C)
    case' B =>
      obtain ⟨wv, wv1, wv2⟩ := at_int s0 s1
      obtain ⟨wo, hwo, rfl⟩ := List.mem_map.mp wv2
      have awo : Asc n wo := ⟨Nat.le_trans (wp.len hwo) alnl, fun c h => aln.2 c (wp.signs wo hwo c h)⟩
      refine ⟨_, rfl, .inl ⟨rfl, _, SqL.of W8⟩, _, rfl, _, rfl, _, rfl, W, _, sp, _, rfl, rfl, SqL.of W8, wv1, W, _, sp, _, rfl, rfl, W8, by rw [List.length_map, sizeLine_eq]; omega, s0, by omega, ?_⟩
      have DW : Dw ns d g c (b + 10) _ := (D8.put (o := .lst ((ws.map V.str).take sp.toNat ++ [V.str wo] ++ (ws.map V.str).drop sp.toNat)) W8 nWd nWg nWc).mono (by omega)
      have kW : Kp d g H (upd H8 W (.lst ((ws.map V.str).take sp.toNat ++ [V.str wo] ++ (ws.map V.str).drop sp.toNat))) := fun a o n1 n2 ha => by
        rw [upd_ne (ne_of_none ha hWH)]
        exact k08 a o n1 n2 ha
      have LW : (upd H8 W (.lst ((ws.map V.str).take sp.toNat ++ [V.str wo] ++ (ws.map V.str).drop sp.toNat))) L = some (.lst (ls.map V.str)) := by rw [upd_ne nWL.symm]; exact L8
      obtain ⟨ww, eww, pw⟩ : ∃ ww, ww.map V.str = (ws.map V.str).take sp.toNat ++ [V.str wo] ++ (ws.map V.str).drop sp.toNat ∧ Pt (2 * n + 11) ww := ⟨ws.take sp.toNat ++ [wo] ++ ws.drop (sp.toNat + 0), by rw [List.map_append, List.map_append, List.map_take, List.map_drop]; rfl, (wt.mid (.one awo) _ _).mono (by omega)⟩
      have WW8 : (upd H8 W (.lst ((ws.map V.str).take sp.toNat ++ [V.str wo] ++ (ws.map V.str).drop sp.toNat))) W = some (.lst ((ws.map V.str).take sp.toNat ++ [V.str wo] ++ (ws.map V.str).drop sp.toNat)) := upd_same
      generalize upd H8 W (.lst ((ws.map V.str).take sp.toNat ++ [V.str wo] ++ (ws.map V.str).drop sp.toNat)) = HW at DW kW LW WW8 ⊢
      rw [← eww] at WW8
    case' C =>
      refine ⟨_, rfl, _, rfl, sp, rfl, W, _, rfl, SqL.of W8, fun p1 hp1 => ?_⟩
      have W9 := new_same (o := .lst (cutV (ws.map V.str) none (some sp))) hp1 _ _ W8
      have L9 := new_same (o := .lst (cutV (ws.map V.str) none (some sp))) hp1 _ _ L8
      have D9 := D8.new (o := .lst (cutV (ws.map V.str) none (some sp))) hp1
      have k9 : Kp d g H (upd H8 p1 (.lst (cutV (ws.map V.str) none (some sp)))) := k08.trans (Kp.new hp1)
      have p19 : (upd H8 p1 (.lst (cutV (ws.map V.str) none (some sp)))) p1 = some (.lst (cutV (ws.map V.str) none (some sp))) := upd_same
      have np1d := D8.nd hp1
      have np1g := D8.ng hp1
      generalize upd H8 p1 (.lst (cutV (ws.map V.str) none (some sp))) = H9 at W9 L9 D9 k9 p19 ⊢
      refine ⟨_, rfl, by show 7 ≤ sizeLine; decide, fun q hq => ?_⟩
      refine ⟨d, g, c, _, D9.new hq, by omega, .inl ⟨q, _, rfl, upd_same, D9.nd hq, D9.ng hq, by show 0 < 7; decide, by show 7 ≤ 1000000; decide, fun nv H10 hnv D10 k10 => ?_⟩⟩
      obtain ⟨nw, rfl, hnw⟩ := words7 nv hnv
      have W10 := k10 _ _ nWd nWg (new_same hq _ _ W9)
      have L10 := k10 _ _ nLd nLg (new_same hq _ _ L9)
      have p110 := k10 _ _ np1d np1g (new_same hq _ _ p19)
      have k010 : Kp d g H H10 := (k9.trans (Kp.new hq)).trans k10
      refine ⟨by show 1 ≤ sizeLine; decide, fun p2 hp2 => ?_⟩
      have m1 := cutV_length (ws.map V.str) none (some sp)
      have m2 := cutV_length (ws.map V.str) (some (sp + 1)) none
      rw [List.length_map] at m1 m2
      refine ⟨p1, p2, _, _, rfl, rfl, new_same hp2 _ _ p110, upd_same, by show _ + 1 ≤ _; rw [sizeLine_eq]; omega, fun p3 hp3 => ?_⟩
      have W11 := new_same (o := .lst (cutV (ws.map V.str) none (some sp) ++ [V.str nw])) hp3 _ _ (new_same (o := .lst [V.str nw]) hp2 _ _ W10)
      have L11 := new_same (o := .lst (cutV (ws.map V.str) none (some sp) ++ [V.str nw])) hp3 _ _ (new_same (o := .lst [V.str nw]) hp2 _ _ L10)
      have D11 := (D10.new (o := .lst [V.str nw]) hp2).new (o := .lst (cutV (ws.map V.str) none (some sp) ++ [V.str nw])) hp3
      have k11 : Kp d g H (upd (upd H10 p2 (.lst [V.str nw])) p3 (.lst (cutV (ws.map V.str) none (some sp) ++ [V.str nw]))) := (k010.trans (Kp.new hp2)).trans (Kp.new hp3)
      have p311 : (upd (upd H10 p2 (.lst [V.str nw])) p3 (.lst (cutV (ws.map V.str) none (some sp) ++ [V.str nw]))) p3 = some (.lst (cutV (ws.map V.str) none (some sp) ++ [V.str nw])) := upd_same
      generalize upd (upd H10 p2 (.lst [V.str nw])) p3 (.lst (cutV (ws.map V.str) none (some sp) ++ [V.str nw])) = H11 at W11 L11 D11 k11 p311 ⊢
      refine ⟨_, rfl, _, rfl, _, _, rfl, rfl, _, rfl, W, _, rfl, SqL.of W11, fun p4 hp4 => ?_⟩
      have c1 := cut_to ws s0 (by omega)
      have c2 := cut_from ws (i := sp + 1) (by omega)
      have e2 : (sp + 1).toNat = sp.toNat + 1 := by omega
      rw [e2] at c2
      refine ⟨p3, p4, _, _, rfl, rfl, new_same hp4 _ _ p311, upd_same, by rw [List.length_append, sizeLine_eq]; show _ + 1 + _ ≤ _; omega, fun WW hWW => ?_⟩
      have DW : Dw ns d g c (b + 10) (upd (upd H11 p4 (.lst (cutV (ws.map V.str) (some (sp + 1)) none))) WW (.lst (cutV (ws.map V.str) none (some sp) ++ [V.str nw] ++ cutV (ws.map V.str) (some (sp + 1)) none))) := ((D11.new hp4).new hWW).mono (by omega)
      have kW : Kp d g H (upd (upd H11 p4 (.lst (cutV (ws.map V.str) (some (sp + 1)) none))) WW (.lst (cutV (ws.map V.str) none (some sp) ++ [V.str nw] ++ cutV (ws.map V.str) (some (sp + 1)) none))) := (k11.trans (Kp.new hp4)).trans (Kp.new hWW)
      have LW : (upd (upd H11 p4 (.lst (cutV (ws.map V.str) (some (sp + 1)) none))) WW (.lst (cutV (ws.map V.str) none (some sp) ++ [V.str nw] ++ cutV (ws.map V.str) (some (sp + 1)) none))) L = some (.lst (ls.map V.str)) := new_same hWW _ _ (new_same hp4 _ _ L11)
      obtain ⟨ww, eww, pw⟩ : ∃ ww, ww.map V.str = cutV (ws.map V.str) none (some sp) ++ [V.str nw] ++ cutV (ws.map V.str) (some (sp + 1)) none ∧ Pt (2 * n + 11) ww := ⟨ws.take sp.toNat ++ [nw] ++ ws.drop (sp.toNat + 1), by rw [c1, c2, List.map_append, List.map_append]; rfl, (wt.mid (.one hnw) _ _).mono (by omega)⟩
      have WW8 : (upd (upd H11 p4 (.lst (cutV (ws.map V.str) (some (sp + 1)) none))) WW (.lst (cutV (ws.map V.str) none (some sp) ++ [V.str nw] ++ cutV (ws.map V.str) (some (sp + 1)) none))) WW = some (.lst (cutV (ws.map V.str) none (some sp) ++ [V.str nw] ++ cutV (ws.map V.str) (some (sp + 1)) none)) := upd_same
      generalize upd (upd H11 p4 (.lst (cutV (ws.map V.str) (some (sp + 1)) none))) WW (.lst (cutV (ws.map V.str) none (some sp) ++ [V.str nw] ++ cutV (ws.map V.str) (some (sp + 1)) none)) = HW at DW kW LW WW8 ⊢
      rw [← eww] at WW8
    all_goals
      refine ⟨⟨_, rfl⟩, _, rfl, _, rfl, kk, rfl, L, _, rfl, SqL.of LW, fun r1 hr1 => ?_⟩
      have c1 := cut_to ls kk0 (by omega)
      have c2 := cut_from ls (i := kk + 1) (by omega)
      have e2 : (kk + 1).toNat = kk.toNat + 1 := by omega
      rw [e2] at c2
      have m1 := cutV_length (ls.map V.str) none (some kk)
      have m2 := cutV_length (ls.map V.str) (some (kk + 1)) none
      rw [List.length_map] at m1 m2
      have LW1 := new_same (o := .lst (cutV (ls.map V.str) none (some kk))) hr1 _ _ LW
      have WW1 := new_same (o := .lst (cutV (ls.map V.str) none (some kk))) hr1 _ _ WW8
      have pww := pw.wt
      refine ⟨⟨_, rfl⟩, _, rfl, " ", _, ww, rfl, rfl, .inl (SqL.of WW1), by rw [sp1]; omega, by show 1 ≤ sizeLine; decide, fun r2 hr2 => ?_⟩
      have jw : Asc (2 * n + 11) (Txt.join " " ww) := pw.join (.inl sp_tl)
      refine ⟨r1, r2, _, _, rfl, rfl, new_same hr2 _ _ upd_same, upd_same, by show _ + 1 ≤ _; rw [sizeLine_eq]; omega, fun r3 hr3 => ?_⟩
      have LW3 := new_same (o := .lst (cutV (ls.map V.str) none (some kk) ++ [V.str (Txt.join " " ww)])) hr3 _ _ (new_same (o := .lst [V.str (Txt.join " " ww)]) hr2 _ _ LW1)
      refine ⟨_, rfl, _, rfl, _, _, rfl, rfl, _, rfl, L, _, rfl, SqL.of LW3, fun r4 hr4 => ?_⟩
      refine ⟨r3, r4, _, _, rfl, rfl, new_same hr4 _ _ upd_same, upd_same, by rw [List.length_append, sizeLine_eq]; show _ + 1 + _ ≤ _; omega, fun r5 hr5 => ?_⟩
      refine jn (ls.take kk.toNat ++ [Txt.join " " ww] ++ ls.drop (kk.toNat + 1)) ((n + 1) + (2 * n + 11 + 1)) _ r5 (pt.mid (.one jw) _ _) (by omega) ?_ (((((DW.new hr1).new hr2).new hr3).new hr4).new hr5) (((((kW.trans (Kp.new hr1)).trans (Kp.new hr2)).trans (Kp.new hr3)).trans (Kp.new hr4)).trans (Kp.new hr5))
      rw [upd_same, c1, c2, List.map_append, List.map_append]
      rfl
end
end Lw

set_option Elab.async false
set_option linter.all false
set_option maxRecDepth 100000
set_option maxHeartbeats 8000000
namespace Lw
open L2 hiding Ext
open PySem PySem.Spec PyProof.Rows Gn Gr Gk Go Gt Gf Gx Gz
abbrev sTold : Stmt := top 25
abbrev nTold : List Str := ["_law_text", "_law_found", "_law_caught", "e", "_law_above", "_law_name", "_law_line"]
/-- more of the errors' classes -/
structure XD (K : PySem.W.Frag) (mg : Str → Option Value) (CF CT CP : Addr) : Prop where
  cF : ExcC K CF
  cT : ExcC K CT
  fT : XfC K CT
  nm : mg "PurseError" = some (.ref CP)
  eF : PySem.W.exmOne K (.ref CF) (.ref CP) = some true
  eT : PySem.W.exmOne K (.ref CT) (.ref CP) = some true
  sF : PySem.W.kitOne K (.ref CF) (.ref CF) = some true
  sT : PySem.W.kitOne K (.ref CT) (.ref CT) = some true
  dFT : PySem.W.kitOne K (.ref CF) (.ref CT) = some false
def spTold (K : PySem.W.Frag) : Sp := fun vs H Q _ => ∃ (v : V) (due : Due), vs = [v] ∧ ((∃ x : Str, v = .str x ∧ x.length ≤ 90000 ∧ due = dueOf x) ∨ (∃ T, TyT H v T ∧ kitB T "str" = some false ∧ due = .text 0)) ∧
  ∀ H' u, Ext H H' → Dp K H' u (dueD due) → Q u H'
theorem cut12 (a b : V) (r : List V) : cutV (a :: b :: r) (some 1) (some 2) = [b] := by
  unfold cutV
  have e1 : HT.sIx (a :: b :: r).length 0 (some 1) = min 1 (a :: b :: r).length := HT.sIx_nat _ _ 1
  have e2 : HT.sIx (a :: b :: r).length (a :: b :: r).length (some 2) = min 2 (a :: b :: r).length := HT.sIx_nat _ _ 2
  rw [e1, e2]
  have m1 : min 1 (a :: b :: r).length = 1 := by simp
  have m2 : min 2 (a :: b :: r).length = 2 := by simp
  rw [m1, m2]
  rfl
theorem cut11 (a : V) : cutV [a] (some 1) (some 2) = [] := by
  unfold cutV
  have e1 : HT.sIx [a].length 0 (some 1) = min 1 [a].length := HT.sIx_nat _ _ 1
  rw [e1]
  rfl
/-- the parent, in a list -/
def parL : Option Str → List V
  | none => []
  | some m => [.str m]
theorem cut_anc {rs : List FRow} (G : Good rs) {j : Nat} (hj : j < rs.length) : cutV ((ancF rs (j + 1) rs[j].1).map V.str) (some 1) (some 2) = parL rs[j].2 := by
  have hnd := (good_nodup G.2.2).1
  rw [ancF_s, parOf_at hnd (List.getElem_mem hj)]
  cases eq : rs[j].2 with
  | none => exact cut11 _
  | some m =>
    obtain ⟨j', r', j1, j2, rfl⟩ := par_idx G.2.2 (List.getElem?_eq_getElem hj) eq
    obtain ⟨jp, rfl⟩ : ∃ jp, j = jp + 1 := ⟨j - 1, by omega⟩
    show cutV (V.str rs[jp + 1].1 :: (ancF rs (jp + 1) r'.1).map V.str) (some 1) (some 2) = _
    rw [ancF_s, List.map_cons, cut12]
    rfl
theorem out_in {C CT CF : Addr} {H H1 : Hp} {Q : VK} {E : XK} {v : V} {due : Due} (hv : (∃ x : Str, v = .str x ∧ x.length ≤ 90000 ∧ due = dueOf x) ∨ (∃ T, TyT H v T ∧ kitB T "str" = some false ∧ due = .text 0)) (k : Ext H H1) (key : Out C CT CF H1 Q E due) :
    (∃ x : Str, v = .str x ∧ x.length ≤ 90000 ∧ Out C CT CF H1 Q E (dueOf x)) ∨ (∃ T, TyT H1 v T ∧ kitB T "str" = some false ∧ Out C CT CF H1 Q E (.text 0)) := by
  rcases hv with ⟨x, rfl, hx, rfl⟩ | ⟨U, h1, h2, rfl⟩
  · exact .inl ⟨x, rfl, hx, key⟩
  · exact .inr ⟨U, h1.ext k, h2, key⟩
section
variable {P : Program} {w : World} {K : PySem.W.Frag} {mg : Str → Option Value} {base : Heap} {C fI : Addr} {mc : Value}
theorem scTold : FnScope nTold ["_law_text"] (defScope sTold) := ⟨rfl, rfl, rfl, by decide +kernel, rfl, by decide +kernel, by decide +kernel⟩
theorem ok_told {f fNm fAn fPa pN pP CF CT CP fTI : Addr} {fd fdNm fdAn fdPa : FuncData} (F : Fun K "_law_told" "_law_told" sTold f fd) (T : Names mg) (mzip : mg "zip" = none) (Z : FC K mg C fI mc) (Y : XC K mg CF CT fTI) (W : XD K mg CF CT CP)
    (GN : FnOk P w K mg base CX0 1 fNm fdNm ["self"] (spNames C)) (bN : Binds K fdNm ["self"] []) (hpN : PropOf K C "names" pN fNm)
    (GA : FnOk P w K mg base CX0 3 fAn fdAn ["self", "name"] (spAnc C)) (bA : Binds K fdAn ["self", "name"] []) (hA : Meth K C "ancestors" fAn)
    (GP : FnOk P w K mg base (L2.CX P w) 6 fPa fdPa ["text"] (spParseO C CT CF)) (bP : Binds K fdPa ["text"] []) (kP : PySem.W.keepIn K (.ref fPa) = true) (sP : SMet K C mc "parse" pP fPa) :
    FnOk P w K mg base CX0 7 f fd ["_law_text"] (spTold K) := by
  refine F.ok scTold (fun vs H Q E h => ?_) (fun cdv A outer s H vs Q E hr h => ?_)
  · obtain ⟨v, due, rfl, _⟩ := h
    rfl
  · obtain ⟨v, due, rfl, hv, k⟩ := h
    have hu := hu_of hr
    have nd := scTold.nd
    have hr2 : Room 2 (A.deeper (envOfC "_law_told" (defScope sTold) s.heap.objs.size f cdv)) := hr.mono (by decide)
    have hr3 : Room 3 (A.deeper (envOfC "_law_told" (defScope sTold) s.heap.objs.size f cdv)) := hr.mono (by decide)
    refine ⟨_, pss_cons (ps_asg (pe_tup (pa_cons pe_non (pa_cons pe_non pa_nil))) (by exact (pg_tup rfl (pgs_cons (pg_name (i := 1) nd rfl (.inr rfl)) (pgs_cons (pg_name (i := 2) nd rfl (.inl rfl)) pgs_nil)))))
      (pss_cons (ps_try_keep (c := .ref CP) (i := 3) (j := 2) rfl rfl nd rfl rfl rfl rfl ⟨rfl, by decide, .inl W.nm⟩ rfl (by decide) (by decide) rfl fun W' pn xe tk _ => pss_one (ps_set (i := 1) nd rfl (.inr rfl) (pe_smethS (pe_glob (v := .ref C) rfl Z.g rfl) Z.cr sP kP GP hr bP (fun σ => passAt tk σ) (pa_cons (pv 0) pa_nil))))
      (pss_cons (ps_if (pt_cmpR op_isN (pv 2) pe_non (nomark _))
        (pss_cons (ps_setLc (i := 4) (own := [("_law_name", 5)]) (g := gName 5) (tt := tYes) rfl nd rfl rfl (sw_true rfl rfl rfl (by decide +kernel)) (pi_tup (pe_prop (pv 1) Z.cl hpN GN hr2 bN .nil pass0 rfl)) (blkOk_by (N := nTold) (sc := defScope sTold) (by decide +kernel))
          (fun _ _ _ _ _ => pg_name (i := 5) nd rfl (.inl rfl)) (fun _ _ _ _ _ => pts_nil) (fun _ _ _ _ _ => pe_slice (r := rSlL K) sl_list (pe_meth (pv 1) Z.cl hA GA hr3 bA .nil pass0 (pa_cons (pv 5) pa_nil)) (po_some pe_int) (po_some pe_int)))
        (pss_one (ps_ret (pe_tup (pa_cons pe_str (pa_cons (pe_lc (own := [("_law_name", 5), ("_law_line", 6)]) (g := gTup K 2 (gCons (gName 5) (gCons (gName 6) gNil))) (tt := tYes) rfl nd (pi_zipM rfl mzip (pa_cons (pe_prop (pv 1) Z.cl hpN GN hr2 bN .nil pass0 rfl) (pa_cons (pv 4) pa_nil))) (blkOk_by (N := nTold) (sc := defScope sTold) (by decide +kernel))
          (fun _ _ _ _ _ => by exact (pg_tup rfl (pgs_cons (pg_name (i := 5) nd rfl (.inl rfl)) (pgs_cons (pg_name (i := 6) nd rfl (.inl rfl)) pgs_nil)))) (fun _ _ _ _ _ => pts_nil) (fun _ _ _ _ _ => pe_tup (pa_cons (pv 5) (pa_cons (pe_ix (r := rIxL K) ix_list (pe_op op_cat (pv 6) (pe_lst (pa_cons pe_non pa_nil))) pe_int (fun _ _ => rfl)) pa_nil)))) pa_nil)))))) pss_nil)
      (pss_cons (ps_if (pt_val (pe_callB call_isX rfl T.isi (by decide +kernel) (pa_cons (pv 2) (pa_cons (pe_glob (v := .ref CT) rfl Y.gT rfl) pa_nil)))) (pss_one (ps_ret (pe_tup (pa_cons pe_str (pa_cons (pe_xk (pv 2)) pa_nil))))) pss_nil)
      (pss_one (ps_ret (pe_ifExp (pt_val (pe_callB call_isX rfl T.isi (by decide +kernel) (pa_cons (pv 2) (pa_cons (pe_glob (v := .ref CF) rfl Y.gF rfl) pa_nil)))) (pe_tup (pa_cons pe_str pa_nil)) (pe_tup (pa_cons pe_str pa_nil)))))))), ?_⟩
    refine ⟨by show 2 ≤ sizeLine; decide, fun t ht => ?_⟩
    have kt : Ext H (upd H t (.tup [.non, .non])) := Ext.new ht
    refine ⟨t, _, rfl, SqT.of upd_same, rfl, _, _, rfl, _, _, rfl, rfl, ?_⟩
    generalize upd H t (.tup [.non, .non]) = H1 at kt ⊢
    refine ⟨rfl, _, rfl, v, rfl, ?_⟩
    refine out_in hv kt ?_
    cases due with
    | text n =>
      intro H2 d k2 d0 d2
      refine ⟨W.eT, fun a ha => ?_⟩
      have nda : d ≠ a := ne_of_none d2 ha
      have d3 : (upd H2 a (ExK (.ref CT) (some d) a)) d = some (.xd [("line", .int (n : Nat))]) := by rw [upd_ne nda]; exact d2
      have a3 : (upd H2 a (ExK (.ref CT) (some d) a)) a = some (ExK (.ref CT) (some d) a) := upd_same
      have k3 : Ext H (upd H2 a (ExK (.ref CT) (some d) a)) := (kt.trans k2).trans (Ext.new ha)
      show tSeq _ _ _ _ (upd H2 a (ExK (.ref CT) (some d) a))
      generalize upd H2 a (ExK (.ref CT) (some d) a) = H3 at d3 a3 k3 ⊢
      refine ⟨_, rfl, rfl, _, rfl, iteN (by intro z; cases z) ?_⟩
      refine ⟨_, rfl, a, CT, some d, _, _, true, rfl, a3, ⟨_, d3⟩, W.cT, .own CT, W.sT, true, rfl, iteT ?_⟩
      refine ⟨_, rfl, a, CT, d, _, .int (n : Nat), rfl, a3, d3, W.fT, Y.nT, rfl, by show 2 ≤ sizeLine; decide, fun tt htt => ?_⟩
      exact k _ _ (k3.trans (Ext.new htt)) (.tup (SqT.of upd_same) (.cons (.str _) (.cons (.int _) .nil)))
    | forest =>
      intro H2 k2
      refine ⟨W.eF, fun a ha => ?_⟩
      have a3 : (upd H2 a (ExK (.ref CF) none a)) a = some (ExK (.ref CF) none a) := upd_same
      have k3 : Ext H (upd H2 a (ExK (.ref CF) none a)) := (kt.trans k2).trans (Ext.new ha)
      show tSeq _ _ _ _ (upd H2 a (ExK (.ref CF) none a))
      generalize upd H2 a (ExK (.ref CF) none a) = H3 at a3 k3 ⊢
      refine ⟨_, rfl, rfl, _, rfl, iteN (by intro z; cases z) ?_⟩
      refine ⟨_, rfl, a, CF, none, _, _, false, rfl, a3, trivial, W.cF, .own CT, W.dFT, false, rfl, iteF ?_⟩
      refine ⟨_, rfl, a, CF, none, _, _, true, rfl, a3, trivial, W.cF, .own CF, W.sF, true, rfl, iteT ?_⟩
      refine ⟨by show 1 ≤ sizeLine; decide, fun tt htt => ?_⟩
      exact k _ _ (k3.trans (Ext.new htt)) (.tup (SqT.of upd_same) (.cons (.str _) .nil))
    | rows rs =>
      intro G H2 a k2 a0 f2
      obtain ⟨dx, q, ia, iq⟩ := id f2
      have hlen := G.2.1
      have k02 : Ext H H2 := kt.trans k2
      refine ⟨_, rfl, rfl, _, rfl, iteS rfl ?_⟩
      refine ⟨_, rfl, a, dx, _, rfl, ia, a, rs, rfl, f2, fun H3 t1 k3 t10 t1e => ?_⟩
      refine ⟨t1, rfl, ⟨_, SqT.of t1e⟩, fun D hD => ?_⟩
      have nl : (fNames rs).length = rs.length := by rw [fNames, List.length_map]
      refine lc_it walk_tup (fun i H' => ∃ vs : List V, H' D = some (.lst vs) ∧ vs.length = i ∧ (∀ (j : Nat) (r : FRow), rs[j]? = some r → j < i → ∃ p, vs[j]? = some (V.ref p) ∧ p ≠ D ∧ H' p = some (.lst (parL r.2))) ∧ Ext H3 H') ⟨[], upd_same, rfl, fun j r _ h => by omega, Ext.new hD⟩ (fun i H' _ ⟨_, _, _, _, e⟩ => SqT.of (e _ _ t1e)) ?_ ?_
      · rintro i y H4 H5 hi ⟨vs, d4, vl, pv4, k4⟩ ⟨rfl, hy⟩
        rw [List.length_map, nl] at hi
        rw [List.getElem?_map, fNames, List.getElem?_map, List.getElem?_eq_getElem hi] at hy
        cases hy
        have k24 := k3.trans k4
        refine ⟨rfl, yes_of ?_⟩
        refine ⟨_, rfl, a, dx, _, rfl, k24 _ _ ia, rfl, _, rfl, a, rs, i, rs[i], rfl, f2.ext k24, G, List.getElem?_eq_getElem hi, fun H5 la k5 la0 lae => ?_⟩
        refine ⟨1, rfl, 2, rfl, la, _, rfl, SqL.of lae, fun p hp => ?_⟩
        rw [cut_anc G hi]
        have d5 := k5 _ _ d4
        have npD : p ≠ D := (ne_of_none d5 hp).symm
        refine ⟨vs, new_same hp _ _ d5, small1000 (by omega), vs ++ [.ref p], upd_same, by rw [List.length_append, vl]; rfl, fun j r hj hji => ?_, fun b o hb => ?_⟩
        · by_cases e : j < i
          · obtain ⟨p', b1, b2, b3⟩ := pv4 j r hj e
            refine ⟨p', by rw [List.getElem?_append_left (by omega)]; exact b1, b2, ?_⟩
            rw [upd_ne b2]
            exact new_same hp _ _ (k5 _ _ b3)
          · obtain rfl : j = i := by omega
            rw [List.getElem?_eq_getElem hi] at hj
            cases hj
            refine ⟨p, by rw [List.getElem?_append_right (by omega), vl]; simp, npD, ?_⟩
            rw [upd_ne npD, upd_same]
        · rw [upd_ne (ne_of_none hb hD)]
          exact new_same hp _ _ (k5 _ _ (k4 _ _ hb))
      rintro H4 ⟨vs, d4, vl, pv4, k4⟩
      rw [List.length_map, nl] at vl pv4
      have k24 := k3.trans k4
      refine ⟨_, rfl, a, dx, _, rfl, k24 _ _ ia, a, rs, rfl, f2.ext k24, fun H5 t2 k5 t20 t2e => ?_⟩
      refine ⟨_, rfl, t2, D, _, vs, rfl, SqT.of t2e, SqL.of (k5 _ _ d4), fun D2 hD2 => ?_⟩
      have k05 : Ext H H5 := k02.trans (k24.trans k5)
      refine lc_it (walk_zipM (n := rs.length) (by rw [List.length_map, nl]) vl) (fun i H' => ∃ ws : List V, H' D2 = some (.lst ws) ∧ RowsAt H' ws (rs.take i) ∧ Ext H5 H') ⟨[], upd_same, ⟨rfl, fun i r h => by simp at h⟩, Ext.new hD2⟩ (fun i H' _ ⟨_, _, _, e⟩ => ⟨SqT.of (e _ _ t2e), SqL.of (e _ _ (k5 _ _ d4))⟩) ?_ ?_
      · rintro i y H6 H7 hi ⟨ws, d6, r6, k6⟩ ⟨T', x1, x2, rfl, hT, rfl, e1, e2⟩
        have e1 : ((fNames rs).map V.str)[i]? = some x1 := e1
        have e2 : vs[i]? = some x2 := e2
        rw [List.getElem?_map, fNames, List.getElem?_map, List.getElem?_eq_getElem hi] at e1
        cases e1
        obtain ⟨p, b1, b2, b3⟩ := pv4 i rs[i] (List.getElem?_eq_getElem hi) hi
        rw [b1] at e2
        cases e2
        have kT : Ext H6 (upd H6 T' (.tup [V.str rs[i].1, V.ref p])) := Ext.new hT
        refine ⟨T', _, rfl, SqT.of upd_same, rfl, _, _, rfl, _, _, rfl, rfl, rfl, yes_of ?_⟩
        generalize upd H6 T' (.tup [V.str rs[i].1, V.ref p]) = H7 at kT ⊢
        have p7 := kT _ _ (k6 _ _ (k5 _ _ b3))
        refine ⟨_, rfl, _, rfl, by show 1 ≤ sizeLine; decide, fun q1 hq1 => ?_⟩
        have pl : (parL rs[i].2).length ≤ 1 := by cases rs[i].2 <;> simp [parL]
        refine ⟨p, q1, _, _, rfl, rfl, new_same hq1 _ _ p7, upd_same, by show _ + 1 ≤ _; rw [sizeLine_eq]; omega, fun q2 hq2 => ?_⟩
        have at0 : atI (parL rs[i].2 ++ [V.non]) ((0 : Nat) : Int) = some (parV rs[i].2) := by
          refine atI_nat ?_
          cases rs[i].2 <;> rfl
        refine ⟨q2, _, 0, _, rfl, rfl, SqL.of upd_same, at0, by show 2 ≤ sizeLine; decide, fun tr htr => ?_⟩
        have k67 : Ext H6 (upd (upd (upd H7 q1 (.lst [V.non])) q2 (.lst (parL rs[i].2 ++ [V.non]))) tr (.tup [V.str rs[i].1, parV rs[i].2])) := kT.trans ((Ext.new hq1).trans ((Ext.new hq2).trans (Ext.new htr)))
        have tr8 : (upd (upd (upd H7 q1 (.lst [V.non])) q2 (.lst (parL rs[i].2 ++ [V.non]))) tr (.tup [V.str rs[i].1, parV rs[i].2])) tr = some (.tup [V.str rs[i].1, parV rs[i].2]) := upd_same
        generalize upd (upd (upd H7 q1 (.lst [V.non])) q2 (.lst (parL rs[i].2 ++ [V.non]))) tr (.tup [V.str rs[i].1, parV rs[i].2]) = H8 at k67 tr8 ⊢
        have e4 := RowsAt.snoc (r6.ext k67) tr8
        have wl : ws.length = (rs.take i).length := r6.1
        rw [List.length_take] at wl
        refine ⟨ws, k67 _ _ d6, small1000 (by omega), ws ++ [.ref tr], upd_same, ?_, fun b o hb => ?_⟩
        · rw [List.take_add_one, List.getElem?_eq_getElem hi]
          refine ⟨e4.1, fun j x hx => ?_⟩
          obtain ⟨q, a1, a2⟩ := e4.2 j x hx
          refine ⟨q, a1, ?_⟩
          rw [upd_ne (ne_of a2 (k67 _ _ d6) (by intro z; cases z))]
          exact a2
        · rw [upd_ne (ne_of_none hb hD2)]
          exact k67 _ _ (k6 _ _ hb)
      · rintro H6 ⟨ws, d6, r6, k6⟩
        rw [List.take_length] at r6
        refine ⟨by show 2 ≤ sizeLine; decide, fun tt htt => ?_⟩
        exact k _ _ ((k05.trans k6).trans (Ext.new htt)) (.tup (SqT.of upd_same) (.cons (.str _) (.cons (.lst (SqL.of (new_same htt _ _ d6)) (dp_rows (r6.ext (Ext.new htt)))) .nil)))
end
end Lw

set_option Elab.async false
set_option linter.all false
set_option maxRecDepth 100000
set_option maxHeartbeats 8000000
namespace Lw
open L2 hiding Ext
open PySem PySem.Spec PyProof.Rows Gn Gr Gk Go Gt Gf Gx Gz Ge
abbrev sLaw : Stmt := top 27
abbrev nLaw : List Str := ["_law_script", "_law_state", "_law_turn", "_law_text", "_law_name", "_law_parent", "_law_k", "_law_odd"]
theorem row_lay {r : FRow} (h : RowOk E r ∨ (nameOk r.1 = true ∧ ∀ m, r.2 = some m → nameOk m = true)) (h' : nameOk r.1 = true ∧ ∀ m, r.2 = some m → nameOk m = true) : (rowD r).canLay0 = true ∧ (rowD r).depth ≤ 2 := by
  have h1 := (name_asc19 h'.1).ok
  obtain ⟨n, q⟩ := r
  have h1 : PyData.strOk n = true := h1
  cases q with
  | none => constructor <;> simp [rowD, parD, PyData.canLay0, PyData.canLayAll0, PyData.depth, PyData.depthAll, h1]
  | some m =>
    have h2 := (name_asc19 (h'.2 m rfl)).ok
    constructor <;> simp [rowD, parD, PyData.canLay0, PyData.canLayAll0, PyData.depth, PyData.depthAll, h1, h2]
theorem lay_rows : ∀ {rs : List FRow}, (∀ r ∈ rs, nameOk r.1 = true ∧ ∀ m, r.2 = some m → nameOk m = true) → PyData.canLayAll0 (rs.map rowD) = true ∧ PyData.depthAll (rs.map rowD) ≤ 2
  | [], _ => by constructor <;> simp [PyData.canLayAll0, PyData.depthAll]
  | r :: rs, h => by
    obtain ⟨a1, a2⟩ := row_lay (E := []) (.inr (h r (List.mem_cons_self ..))) (h r (List.mem_cons_self ..))
    obtain ⟨b1, b2⟩ := lay_rows (rs := rs) fun y hy => h y (List.mem_cons_of_mem _ hy)
    constructor
    · simp [PyData.canLayAll0, a1, b1]
    · simp only [List.map_cons, PyData.depthAll]
      omega
theorem tx_ok {s : Str} (h : ∀ c ∈ s.cps.toList, c < 128) : PyData.strOk s = true := (show Asc s.length s from ⟨Nat.le_refl _, h⟩).ok
theorem tup_ext {K : PySem.W.Frag} {H H' : Hp} {a : Addr} {xs : List V} (k : Ext H H') (h : SqT K H a xs) : SqT K H' a xs := by
  rcases h with (h | ⟨o, h⟩) | h
  · exact .inl (.inl (k _ _ h))
  · exact .inl (.inr ⟨o, k _ _ h⟩)
  · exact .inr h
theorem shaped_due (x : Str) : SeqAt.shaped (dueD (dueOf x)) = true := by
  have t1 : PyData.strOk "text" = true := by decide +kernel
  have t2 : PyData.strOk "forest" = true := by decide +kernel
  have t3 : PyData.strOk "rows" = true := by decide +kernel
  unfold dueOf dueL
  dsimp only
  generalize hos : (bodyOf (Txt.split x "\n")).map rd = os
  split
  · simp [SeqAt.shaped, dueD, PyData.canLay0, PyData.canLayAll0, PyData.depth, PyData.depthAll, t1]
  · rename_i h
    split
    · have ew : wrongAt os [] = os.length := by
        have := wrong_le os []
        have h1 : ¬ wrongAt os [] < os.length := fun z => h (.inl z)
        omega
      obtain ⟨rs, ers, grs⟩ := wrong_all ew
      rw [ers, filter_some]
      obtain ⟨b1, b2⟩ := lay_rows (rs := rs) fun r hr => ⟨(good_mem grs hr).1, fun m hm => ((good_mem grs hr).2 m hm).2⟩
      have e1 : PyData.depth (.list (rs.map rowD)) ≤ 3 := by simp only [PyData.depth]; omega
      have e2 : PyData.depth (.str ("rows" : Str)) = 0 := by simp only [PyData.depth]
      unfold SeqAt.shaped dueD
      rw [Bool.and_eq_true]
      constructor
      · simp [PyData.canLay0, PyData.canLayAll0, t3, b1]
      · refine decide_eq_true ?_
        have e3 : PyData.depth (.tuple [.str ("rows" : Str), .list (rs.map rowD)]) = PyData.depthAll [.str ("rows" : Str), .list (rs.map rowD)] + 1 := by simp only [PyData.depth]
        rw [e3]
        simp only [PyData.depthAll]
        omega
    · simp [SeqAt.shaped, dueD, PyData.canLay0, PyData.canLayAll0, PyData.depth, PyData.depthAll, t2]
theorem shaped_text0 : SeqAt.shaped (dueD (.text 0)) = true := by
  have t1 : PyData.strOk "text" = true := by decide +kernel
  simp [SeqAt.shaped, dueD, PyData.canLay0, PyData.canLayAll0, PyData.depth, PyData.depthAll, t1]
theorem eqv_same {d : PyData} (h : SeqAt.shaped d = true) : PyData.eqv d d = true := by
  rw [SeqAt.eqv_refl]
  exact SeqAt.canLay_of_shaped h
theorem due_empty : dueOf "" = .forest := by
  have h : (match dueOf "" with | .forest => true | _ => false) = true := by decide +kernel
  cases e : dueOf "" with
  | forest => rfl
  | rows rs => rw [e] at h; cases h
  | text n => rw [e] at h; cases h
mutual
theorem dp_ext {K : PySem.W.Frag} {H H' : Hp} (k : Ext H H') : ∀ (v : V) (x : PyData), Dp K H v x → Dp K H' v x
  | _, _, .non => .non
  | _, _, .bl b => .bl b
  | _, _, .int i => .int i
  | _, _, .str s => .str s
  | _, _, .lst e r => .lst (Same.seq k e) (dp_extAll k _ _ r)
  | _, _, .tup e r => .tup (tup_ext k e) (dp_extAll k _ _ r)
theorem dp_extAll {K : PySem.W.Frag} {H H' : Hp} (k : Ext H H') : ∀ (vs : List V) (xs : List PyData), DpAll K H vs xs → DpAll K H' vs xs
  | _, _, .nil => .nil
  | _, _, .cons e r => .cons (dp_ext k _ _ e) (dp_extAll k _ _ r)
end
section
variable {P : Program} {w : World} {K : PySem.W.Frag} {mg : Str → Option Value} {base : Heap}
theorem scLaw : FnScope nLaw ["_law_script"] (defScope sLaw) := ⟨rfl, rfl, rfl, by decide +kernel, rfl, by decide +kernel, by decide +kernel⟩
theorem ok_law {fB fF fT fP fW fD fU f : Addr} {fdB fdF fdT fdP fdW fdD fdU : FuncData} {ns : List Int} {a : Addr} {A : Around} {s : Shared} {H : Hp} {cdv : Value} (hl : ns.length ≤ 63) (hr : Room 7 (A.deeper (envOfC "law" (defScope sLaw) s.heap.objs.size f cdv))) (hS : SqL K H a (ns.map V.int))
    (mr : mg "range" = none) (R : Draw P w K mg base ns fT fP fdT fdP)
    (GB : FnOk P w K mg base CX0 1 fB fdB ["_law_script"] (spBegun K ns)) (bB : Binds K fdB ["_law_script"] []) (kB : PySem.W.keepIn K (.ref fB) = true) (mB : mg "_law_begun" = some (.ref fB))
    (GF : FnOk P w K mg base CX0 5 fF fdF ["_law_state", "_law_most"] (spForest ns)) (bF : Binds K fdF ["_law_state", "_law_most"] []) (kF : PySem.W.keepIn K (.ref fF) = true) (mF : mg "_law_forest" = some (.ref fF))
    (GW : FnOk P w K mg base CX0 4 fW fdW ["_law_state", "_law_text"] (spBent ns)) (bW : Binds K fdW ["_law_state", "_law_text"] []) (kW : PySem.W.keepIn K (.ref fW) = true) (mW : mg "_law_bent" = some (.ref fW))
    (GD : FnOk P w K mg base CX0 2 fD fdD ["_law_text"] (spDue K)) (bD : Binds K fdD ["_law_text"] []) (kD : PySem.W.keepIn K (.ref fD) = true) (mD : mg "_law_due" = some (.ref fD))
    (GU : FnOk P w K mg base CX0 7 fU fdU ["_law_text"] (spTold K)) (bU : Binds K fdU ["_law_text"] []) (kU : PySem.W.keepIn K (.ref fU) = true) (mU : mg "_law_told" = some (.ref fU)) :
    ∃ t, PSs (cxOf CX0 P w K mg base nLaw "law" (defScope sLaw) f cdv A [] s H E0).nox (defBody sLaw) t ∧ t { nx := fun _ _ => False, rt := fun v _ => v = .bl true } (L2.start nLaw [.ref a]) H := by
  have nd := scLaw.nd
  have hu := hu_of hr
  have hr1 : Room 1 (A.deeper (envOfC "law" (defScope sLaw) s.heap.objs.size f cdv)) := hr.mono (by decide)
  have hr2 : Room 2 (A.deeper (envOfC "law" (defScope sLaw) s.heap.objs.size f cdv)) := hr.mono (by decide)
  have hr3 : Room 3 (A.deeper (envOfC "law" (defScope sLaw) s.heap.objs.size f cdv)) := hr.mono (by decide)
  have hr4 : Room 4 (A.deeper (envOfC "law" (defScope sLaw) s.heap.objs.size f cdv)) := hr.mono (by decide)
  have hr5 : Room 5 (A.deeper (envOfC "law" (defScope sLaw) s.heap.objs.size f cdv)) := hr.mono (by decide)
  refine ⟨_, pss_cons (ps_set (i := 1) nd rfl (.inl rfl) (pe_call GB hr1 rfl mB kB bB .nil pass0 (pa_cons (pv 0) pa_nil)))
    (pss_cons (ps_for PassesOwn.never rfl (pi_range1 rfl mr (pa_cons pe_int pa_nil)) (pg_name (i := 2) nd rfl (.inl rfl))
      (pss_cons (ps_set (i := 3) nd rfl (.inl rfl) pe_str)
      (pss_cons (ps_for PassesOwn.never rfl (pi_list (pe_call GF hr5 rfl mF kF bF .nil pass0 (pa_cons (pv 1) (pa_cons pe_int pa_nil)))) (by exact (pg_tup rfl (pgs_cons (pg_name (i := 4) nd rfl (.inl rfl)) (pgs_cons (pg_name (i := 5) nd rfl (.inl rfl)) pgs_nil))))
        (pss_one (ps_set (i := 3) nd rfl (.inl rfl) (pe_op op_add_str (pe_op op_add_str (pe_op op_add_str (pe_op op_add_str (pv 3) pe_str) (pv 4)) (pe_ifExp (pt_cmpR op_isN (pv 5) pe_non (nomark _)) pe_str (pe_op op_add_str pe_str (pv 5)))) pe_str))))
      (pss_cons (ps_for PassesOwn.never rfl (pi_range1 rfl mr (pa_cons (pe_op op_add pe_int (pe_call R.GT hr2 rfl R.mT R.kT R.bT .nil pass0 (pa_cons (pv 1) (pa_cons pe_int pa_nil)))) pa_nil)) (pg_name (i := 6) nd rfl (.inl rfl))
        (pss_one (ps_set (i := 3) nd rfl (.inl rfl) (pe_call GW hr4 rfl mW kW bW .nil pass0 (pa_cons (pv 1) (pa_cons (pv 3) pa_nil))))))
      (pss_cons (ps_if (pt_cmpR (op_neD hr.units) (pe_call GU hr rfl mU kU bU .nil pass0 (pa_cons (pv 3) pa_nil)) (pe_call GD hr2 rfl mD kD bD .nil pass0 (pa_cons (pv 3) pa_nil)) (nomark _)) (pss_one (ps_ret pe_bl)) pss_nil)
      (pss_cons (ps_set (i := 7) nd rfl (.inl rfl) (pe_call R.GP hr3 rfl R.mP R.kP R.bP .nil pass0 (pa_cons (pv 1) (pa_cons (pe_lst (pa_cons pe_non (pa_cons pe_int (pa_cons pe_bl (pa_cons (pe_lst pa_nil) (pa_cons (pe_tup pa_nil) (pa_cons pe_dnewK (pa_cons (pe_tup (pa_cons pe_str pa_nil)) (pa_cons (pe_lst (pa_cons (pv 3) pa_nil)) pa_nil))))))))) pa_nil))))
      (pss_one (ps_if (pt_cmpR (op_neD hr.units) (pe_call GU hr rfl mU kU bU .nil pass0 (pa_cons (pv 7) pa_nil)) (pe_tup (pa_cons pe_str (pa_cons pe_int pa_nil))) (nomark _)) (pss_one (ps_ret pe_bl)) pss_nil))))))))
    (pss_one (ps_ret (pe_cmpR (op_eqD hr.units) (pe_call GU hr rfl mU kU bU .nil pass0 (pa_cons pe_str pa_nil)) (pe_tup (pa_cons pe_str pa_nil)) (nomark _))))), ?_⟩
  refine ⟨_, rfl, a, rfl, hS, hl, fun d g c H1 D1 x1 fd fg fc => ?_⟩
  refine ⟨5, rfl, by decide, by decide, for_range (lo := 0) (n := 5) (fun i σ H' => ∃ (v2 v3 v4 v5 v6 v7 : Option V), σ = [some (.ref a), some (.ref d), v2, v3, v4, v5, v6, v7] ∧ Dw ns d g c (i * 400) H') ⟨none, none, none, none, none, none, rfl, D1.mono (by omega)⟩ ?_ ?_⟩
  · rintro i σ H2 hi ⟨v2, v3, v4, v5, v6, v7, rfl, D2⟩
    refine ⟨_, rfl, d, g, c, _, 9, rfl, D2, by omega, by decide, by decide, fun l xs rs H3 l0 nld nlg hl3 R3 G D3 k3 => ?_⟩
    obtain ⟨g1, g9, gg⟩ := G
    have xl : xs.length = rs.length := R3.1
    refine ⟨l, rfl, ⟨_, SqL.of hl3⟩, for_it walk_list (fun j σ H' => H' = H3 ∧ ∃ (x : Str) (v4 v5 : Option V), σ = [some (.ref a), some (.ref d), some (.int (0 + (i : Int))), some (.str x), v4, v5, v6, v7] ∧ Asc (31 * j) x) ⟨rfl, _, v4, v5, rfl, ?_⟩ (fun j σ H' _ ⟨e, _⟩ => by rw [e]; exact SqL.of hl3) ?_ ?_⟩
    · exact ⟨by decide +kernel, by decide +kernel⟩
    · rintro j yv σ H4 H5 hj ⟨rfl, x, v4, v5, rfl, hx⟩ ⟨rfl, hy⟩
      have hjr : j < rs.length := by omega
      obtain ⟨p, h1, h2⟩ := R3.2 j _ (List.getElem?_eq_getElem hjr)
      rw [h1] at hy
      cases hy
      have hm := good_mem gg (List.getElem_mem hjr)
      obtain ⟨n, q, erq⟩ : ∃ n q, rs[j] = (n, q) := ⟨_, _, rfl⟩
      rw [erq] at h2 hm
      have an : Asc 8 n := name_asc hm.1
      have aa : Asc 8 ("account " : Str) := ⟨by decide +kernel, by decide +kernel⟩
      have ai : Asc 4 (" in " : Str) := ⟨by decide +kernel, by decide +kernel⟩
      have anl : Asc 1 ("\n" : Str) := ⟨by decide +kernel, by decide +kernel⟩
      have a0 : Asc 0 ("" : Str) := ⟨by decide +kernel, by decide +kernel⟩
      have hx1 := hx.1
      have s1 := (hx.app aa).1
      have s2 := ((hx.app aa).app an).1
      refine ⟨p, _, rfl, SqT.of h2, rfl, _, _, rfl, _, _, rfl, rfl, ?_⟩
      refine ⟨_, rfl, _, _, rfl, rfl, by first | (rw [← strlen, sizeLine_eq]; omega) | (rw [← strlen, sizeLine_eq]; dsimp only; omega), _, rfl, _, _, rfl, rfl, by first | (rw [← strlen, sizeLine_eq]; omega) | (rw [← strlen, sizeLine_eq]; dsimp only; omega), _, rfl, rfl, _, rfl, ?_⟩
      cases q with
      | none =>
        have s3 := (((hx.app aa).app an).app a0).1
        have s4 := ((((hx.app aa).app an).app a0).app anl).1
        refine iteS rfl ?_
        refine ⟨_, _, rfl, rfl, by first | (rw [← strlen, sizeLine_eq]; omega) | (rw [← strlen, sizeLine_eq]; dsimp only; omega), _, _, rfl, rfl, by first | (rw [← strlen, sizeLine_eq]; omega) | (rw [← strlen, sizeLine_eq]; dsimp only; omega), rfl, _, some (.str n), some .non, rfl, ((((hx.app aa).app an).app a0).app anl).mono (by omega)⟩
      | some mm =>
        have am : Asc 8 mm := name_asc ((hm.2 mm rfl).2)
        have s3 := (ai.app am).1
        have s4 := (((hx.app aa).app an).app (ai.app am)).1
        have s5 := ((((hx.app aa).app an).app (ai.app am)).app anl).1
        refine iteN (by intro z; cases z) ?_
        refine ⟨_, rfl, _, _, rfl, rfl, by first | (rw [← strlen, sizeLine_eq]; omega) | (rw [← strlen, sizeLine_eq]; dsimp only; omega), _, _, rfl, rfl, by first | (rw [← strlen, sizeLine_eq]; omega) | (rw [← strlen, sizeLine_eq]; dsimp only; omega), _, _, rfl, rfl, by first | (rw [← strlen, sizeLine_eq]; omega) | (rw [← strlen, sizeLine_eq]; dsimp only; omega), rfl, _, some (.str n), some (.str mm), rfl, ((((hx.app aa).app an).app (ai.app am)).app anl).mono (by omega)⟩
    · rintro σ H4 ⟨rfl, x0, v4, v5, rfl, hx0⟩
      have hx0 : Asc 279 x0 := hx0.mono (by omega)
      refine ⟨_, rfl, d, g, c, _, 3, rfl, D3, by omega, by decide, by decide, fun r H5 r0 r1 D5 k5 => ?_⟩
      refine ⟨_, _, rfl, rfl, 1 + r, rfl, by omega, by omega, for_range (lo := 0) (n := (1 + r).toNat) (fun j σ H' => ∃ (x : Str) (n : Nat) (v6 : Option V), σ = [some (.ref a), some (.ref d), some (.int (0 + (i : Int))), some (.str x), v4, v5, v6, v7] ∧ Asc n x ∧ (j = 0 → n ≤ 279) ∧ (j = 1 → n ≤ 1136) ∧ (j = 2 → n ≤ 4564) ∧ n ≤ 18276 ∧ Dw ns d g c (i * 400 + 300 + 1 + j * 10) H') ⟨x0, 279, v6, rfl, hx0, by omega, by omega, by omega, by omega, D5.mono (by omega)⟩ ?_ ?_⟩
      · rintro j σ H6 hj ⟨x, n, v6, rfl, hx, n0, n1, n2, n3, D6⟩
        have hj2 : j < 3 := by omega
        have nb : n ≤ 4564 := by
          have : j = 0 ∨ j = 1 ∨ j = 2 := by omega
          rcases this with rfl | rfl | rfl
          · have := n0 rfl; omega
          · have := n1 rfl; omega
          · exact n2 rfl
        refine ⟨_, rfl, _, rfl, d, g, c, _, n, x, rfl, D6, by omega, hx, by omega, fun y H7 hy D7 k7 => ?_⟩
        refine ⟨y, 4 * n + 20, _, rfl, hy, by omega, fun e => ?_, fun e => ?_, by omega, D7.mono (by omega)⟩
        · have := n0 (by omega); omega
        · have := n1 (by omega); omega
      · rintro σ H6 ⟨x, n, v6, rfl, hx, _, _, _, n3, D6⟩
        have hxl := hx.1
        have D6 : Dw ns d g c (i * 400 + 340) H6 := D6.mono (by omega)
        refine ⟨_, rfl, .str x, dueOf x, rfl, .inl ⟨x, rfl, by omega, rfl⟩, fun H7 u1 k7 p7 => ?_⟩
        refine ⟨_, rfl, x, rfl, by omega, hx.2, fun H8 u2 k8 p8 => ?_⟩
        have p78 : Dp K H8 u1 (dueD (dueOf x)) := dp_ext k8 _ _ p7
        refine ⟨_, _, p78, p8, shaped_due x, shaped_due x, _, rfl, ?_⟩
        rw [eqv_same (shaped_due x)]
        refine iteF ?_
        have D8 : Dw ns d g c (i * 400 + 340) H8 := (D6.keep k7).keep k8
        refine ⟨_, rfl, Nat.zero_le _, fun q1 hq1 => ⟨Nat.zero_le _, fun q2 hq2 => ?_⟩⟩
        intro q3 hq3
        refine ⟨by show 1 ≤ sizeLine; decide, fun q4 hq4 => ⟨_, rfl, by show 1 ≤ sizeLine; decide, fun q5 hq5 => ⟨by show 8 ≤ sizeLine; decide, fun q hq => ?_⟩⟩⟩
        have Da := D8.new (o := .lst []) hq1
        have Db := Da.new (o := .tup []) hq2
        have Dc := Db.new (o := .dK []) hq3
        have Dd := Dc.new (o := .tup [.str "account a\n"]) hq4
        have De := Dd.new (o := .lst [.str x]) hq5
        refine ⟨d, g, c, _, De.new hq, by omega, .inl ⟨q, _, rfl, upd_same, De.nd hq, De.ng hq, by show 0 < 8; decide, by show 8 ≤ 1000000; decide, fun y H9 hy D9 k9 => ?_⟩⟩
        have k9' := (Kp.new (d := d) (g := g) hq).trans k9
        have e5 := k9' q5 _ (Dd.nd hq5) (Dd.ng hq5) upd_same
        have e4 := k9' q4 _ (Dc.nd hq4) (Dc.ng hq4) (new_same hq5 _ _ upd_same)
        have e3 := k9' q3 _ (Db.nd hq3) (Db.ng hq3) (new_same hq5 _ _ (new_same hq4 _ _ upd_same))
        have e2 := k9' q2 _ (Da.nd hq2) (Da.ng hq2) (new_same hq5 _ _ (new_same hq4 _ _ (new_same hq3 _ _ upd_same)))
        have e1 := k9' q1 _ (D8.nd hq1) (D8.ng hq1) (new_same hq5 _ _ (new_same hq4 _ _ (new_same hq3 _ _ (new_same hq2 _ _ upd_same))))
        have ty : ∃ T, TyT H9 y T ∧ kitB T "str" = some false := by
          simp only [List.mem_cons, List.not_mem_nil, or_false] at hy
          rcases hy with rfl | rfl | rfl | rfl | rfl | rfl | rfl | rfl
          · exact ⟨"NoneType", .non, by decide +kernel⟩
          · exact ⟨"int", .int _, by decide +kernel⟩
          · exact ⟨"bool", .bl _, by decide +kernel⟩
          · exact ⟨"list", .lst e1, by decide +kernel⟩
          · exact ⟨"tuple", .tup e2, by decide +kernel⟩
          · exact ⟨"dict", .dct e3, by decide +kernel⟩
          · exact ⟨"tuple", .tup e4, by decide +kernel⟩
          · exact ⟨"list", .lst e5, by decide +kernel⟩
        obtain ⟨T, ht, hk⟩ := ty
        refine ⟨_, rfl, y, .text 0, rfl, .inr ⟨T, ht, hk, rfl⟩, fun H10 u3 k10 p10 => ?_⟩
        refine ⟨by show 2 ≤ sizeLine; decide, fun t ht => ?_⟩
        refine ⟨_, dueD (.text 0), dp_ext (Ext.new ht) _ _ p10, .tup (SqT.of upd_same) (.cons (.str _) (.cons (.int _) .nil)), shaped_text0, shaped_text0, _, rfl, ?_⟩
        rw [eqv_same shaped_text0]
        refine iteF ?_
        exact ⟨_, _, _, _, _, _, rfl, ((D9.keep k10).new ht).mono (by omega)⟩
  · rintro σ H2 ⟨v2, v3, v4, v5, v6, v7, rfl, D2⟩
    refine ⟨.str "", dueOf "", rfl, .inl ⟨"", rfl, by decide +kernel, rfl⟩, fun H3 u k3 p3 => ?_⟩
    refine ⟨by show 1 ≤ sizeLine; decide, fun t ht => ?_⟩
    rw [due_empty] at p3
    have sf : SeqAt.shaped (dueD .forest) = true := by rw [← due_empty]; exact shaped_due ""
    refine ⟨_, dueD .forest, dp_ext (Ext.new ht) _ _ p3, .tup (SqT.of upd_same) (.cons (.str _) .nil), sf, sf, ?_⟩
    rw [eqv_same sf]
end
end Lw

set_option Elab.async false
set_option linter.all false
set_option maxRecDepth 100000
set_option maxHeartbeats 8000000
namespace Lw
open L2 hiding Ext
open PySem PySem.Spec PyProof.Rows Gn Gr Gk Go Gt Gf Gx Gz Ge
theorem kit_self {K : PySem.W.Frag} {C : Addr} : PySem.W.kitOne K (.ref C) (.ref C) = some true := by
  unfold PySem.W.kitOne
  rw [if_pos (by simp)]
theorem ns_ok {K : PySem.W.Frag} {N nQQ : Nat} {oc : Value} {od : Option Addr} {es : Array DictEntry} {sl : Array (Option Value)} (l : K.lookup N = some ⟨oc, od, .dict es nQQ, sl⟩) (e : (es.all fun e => match e.key with | .str _ _ => true | _ => false) = true) : PySem.W.nsOkIn K N = true := by
  unfold PySem.W.nsOkIn
  rw [l]
  exact e
/-- what the top has left, def by def -/
theorem all_mk {P : Program} {w : World} {K : PySem.W.Frag} {h : Heap} {mg : Str → Option Value} {fa : Addr} (X : K.In h) (G : h.Ns mainGlobals mg) (hfa : mg "law" = some (.ref fa))
    {fB : Addr} {odB anB : Option Addr} {slB : Array (Option Value)} {ocB kVB dcB pmB cdB ctB : Value}
    (aB : PySem.W.nsIn K mainGlobals "_law_begun" = some (some (.ref fB))) (lB : K.lookup fB = some ⟨ocB, odB, .func (PySem.W.fnOf "_law_begun" "_law_begun" (defArgs sBegun) (defBody sBegun) (defScope sBegun) .none kVB dcB pmB anB cdB ctB), slB⟩) (cB : PySem.W.codeIn K cdB "_law_begun" = true) (kB : PySem.W.keepIn K (.ref fB) = true)
    {fM : Addr} {odM anM : Option Addr} {slM : Array (Option Value)} {ocM kVM dcM pmM cdM ctM : Value}
    (aM : PySem.W.nsIn K mainGlobals "_law_mixed" = some (some (.ref fM))) (lM : K.lookup fM = some ⟨ocM, odM, .func (PySem.W.fnOf "_law_mixed" "_law_mixed" (defArgs sMixed) (defBody sMixed) (defScope sMixed) .none kVM dcM pmM anM cdM ctM), slM⟩) (cM : PySem.W.codeIn K cdM "_law_mixed" = true) (kM : PySem.W.keepIn K (.ref fM) = true)
    {fT : Addr} {odT anT : Option Addr} {slT : Array (Option Value)} {ocT kVT dcT pmT cdT ctT : Value}
    (aT : PySem.W.nsIn K mainGlobals "_law_take" = some (some (.ref fT))) (lT : K.lookup fT = some ⟨ocT, odT, .func (PySem.W.fnOf "_law_take" "_law_take" (defArgs sTake) (defBody sTake) (defScope sTake) .none kVT dcT pmT anT cdT ctT), slT⟩) (cT : PySem.W.codeIn K cdT "_law_take" = true) (kT : PySem.W.keepIn K (.ref fT) = true)
    {fP : Addr} {odP anP : Option Addr} {slP : Array (Option Value)} {ocP kVP dcP pmP cdP ctP : Value}
    (aP : PySem.W.nsIn K mainGlobals "_law_pick" = some (some (.ref fP))) (lP : K.lookup fP = some ⟨ocP, odP, .func (PySem.W.fnOf "_law_pick" "_law_pick" (defArgs sPick) (defBody sPick) (defScope sPick) .none kVP dcP pmP anP cdP ctP), slP⟩) (cP : PySem.W.codeIn K cdP "_law_pick" = true) (kP : PySem.W.keepIn K (.ref fP) = true)
    {fW : Addr} {odW anW : Option Addr} {slW : Array (Option Value)} {ocW kVW dcW pmW cdW ctW : Value}
    (aW : PySem.W.nsIn K mainGlobals "_law_words" = some (some (.ref fW))) (lW : K.lookup fW = some ⟨ocW, odW, .func (PySem.W.fnOf "_law_words" "_law_words" (defArgs sWords) (defBody sWords) (defScope sWords) .none kVW dcW pmW anW cdW ctW), slW⟩) (cW : PySem.W.codeIn K cdW "_law_words" = true) (kW : PySem.W.keepIn K (.ref fW) = true)
    {fF : Addr} {odF anF : Option Addr} {slF : Array (Option Value)} {ocF kVF dcF pmF cdF ctF : Value}
    (aF : PySem.W.nsIn K mainGlobals "_law_forest" = some (some (.ref fF))) (lF : K.lookup fF = some ⟨ocF, odF, .func (PySem.W.fnOf "_law_forest" "_law_forest" (defArgs sForest) (defBody sForest) (defScope sForest) .none kVF dcF pmF anF cdF ctF), slF⟩) (cF : PySem.W.codeIn K cdF "_law_forest" = true) (kF : PySem.W.keepIn K (.ref fF) = true)
    {fU : Addr} {odU anU : Option Addr} {slU : Array (Option Value)} {ocU kVU dcU pmU cdU ctU : Value}
    (aU : PySem.W.nsIn K mainGlobals "_law_is_name" = some (some (.ref fU))) (lU : K.lookup fU = some ⟨ocU, odU, .func (PySem.W.fnOf "_law_is_name" "_law_is_name" (defArgs sLName) (defBody sLName) (defScope sLName) .none kVU dcU pmU anU cdU ctU), slU⟩) (cU : PySem.W.codeIn K cdU "_law_is_name" = true) (kU : PySem.W.keepIn K (.ref fU) = true)
    {fV : Addr} {odV anV : Option Addr} {slV : Array (Option Value)} {ocV kVV dcV pmV cdV ctV : Value}
    (aV : PySem.W.nsIn K mainGlobals "_law_due" = some (some (.ref fV))) (lV : K.lookup fV = some ⟨ocV, odV, .func (PySem.W.fnOf "_law_due" "_law_due" (defArgs sDue) (defBody sDue) (defScope sDue) .none kVV dcV pmV anV cdV ctV), slV⟩) (cV : PySem.W.codeIn K cdV "_law_due" = true) (kV : PySem.W.keepIn K (.ref fV) = true)
    {fY : Addr} {odY anY : Option Addr} {slY : Array (Option Value)} {ocY kVY dcY pmY cdY ctY : Value}
    (aY : PySem.W.nsIn K mainGlobals "_law_told" = some (some (.ref fY))) (lY : K.lookup fY = some ⟨ocY, odY, .func (PySem.W.fnOf "_law_told" "_law_told" (defArgs sTold) (defBody sTold) (defScope sTold) .none kVY dcY pmY anY cdY ctY), slY⟩) (cY : PySem.W.codeIn K cdY "_law_told" = true) (kY : PySem.W.keepIn K (.ref fY) = true)
    {fK0 : Addr} {odK0 anK0 : Option Addr} {slK0 : Array (Option Value)} {ocK0 kVK0 dcK0 pmK0 cdK0 ctK0 : Value}
    (aK0 : PySem.W.nsIn K mainGlobals "_law_bent" = some (some (.ref fK0))) (lK0 : K.lookup fK0 = some ⟨ocK0, odK0, .func (PySem.W.fnOf "_law_bent" "_law_bent" (defArgs sBent) (defBody sBent) (defScope sBent) .none kVK0 dcK0 pmK0 anK0 cdK0 ctK0), slK0⟩) (cK0 : PySem.W.codeIn K cdK0 "_law_bent" = true) (kK0 : PySem.W.keepIn K (.ref fK0) = true)
    {fN : Addr} {odN anN : Option Addr} {slN : Array (Option Value)} {ocN kVN dcN pmN cdN ctN : Value}
    (aN : PySem.W.nsIn K mainGlobals "is_name" = some (some (.ref fN))) (lN : K.lookup fN = some ⟨ocN, odN, .func (PySem.W.fnOf "is_name" "is_name" (defArgs sName) (defBody sName) (defScope sName) .none kVN dcN pmN anN cdN ctN), slN⟩) (cN : PySem.W.codeIn K cdN "is_name" = true) (kN : PySem.W.keepIn K (.ref fN) = true)
    {fO : Addr} {odO anO : Option Addr} {slO : Array (Option Value)} {ocO kVO dcO pmO cdO ctO : Value}
    (aO : PySem.W.nsIn K mainGlobals "is_row" = some (some (.ref fO))) (lO : K.lookup fO = some ⟨ocO, odO, .func (PySem.W.fnOf "is_row" "is_row" (defArgs sRow) (defBody sRow) (defScope sRow) .none kVO dcO pmO anO cdO ctO), slO⟩) (cO : PySem.W.codeIn K cdO "is_row" = true) (kO : PySem.W.keepIn K (.ref fO) = true)
    {fX : Addr} {odX anX : Option Addr} {slX : Array (Option Value)} {ocX kVX dcX pmX cdX ctX : Value}
    (aX : PySem.W.nsIn K mainGlobals "first_wrong" = some (some (.ref fX))) (lX : K.lookup fX = some ⟨ocX, odX, .func (PySem.W.fnOf "first_wrong" "first_wrong" (defArgs sWrong) (defBody sWrong) (defScope sWrong) .none kVX dcX pmX anX cdX ctX), slX⟩) (cX : PySem.W.codeIn K cdX "first_wrong" = true) (kX : PySem.W.keepIn K (.ref fX) = true)
    {fD : Addr} {odD anD : Option Addr} {slD : Array (Option Value)} {ocD kVD dcD pmD cdD ctD : Value}
    (aD : PySem.W.nsIn K mainGlobals "read_row" = some (some (.ref fD))) (lD : K.lookup fD = some ⟨ocD, odD, .func (PySem.W.fnOf "read_row" "read_row" (defArgs sRead) (defBody sRead) (defScope sRead) .none kVD dcD pmD anD cdD ctD), slD⟩) (cD : PySem.W.codeIn K cdD "read_row" = true) (kD : PySem.W.keepIn K (.ref fD) = true)
    {fL : Addr} {odL anL : Option Addr} {slL : Array (Option Value)} {ocL kVL dcL pmL cdL ctL : Value}
    (aL : PySem.W.nsIn K mainGlobals "law" = some (some (.ref fL))) (lL : K.lookup fL = some ⟨ocL, odL, .func (PySem.W.fnOf "law" "law" (defArgs sLaw) (defBody sLaw) (defScope sLaw) .none kVL dcL pmL anL cdL ctL), slL⟩) (cL : PySem.W.codeIn K cdL "law" = true) (kL : PySem.W.keepIn K (.ref fL) = true)
    {C : Addr} (aC : PySem.W.nsIn K mainGlobals "Forest" = some (some (.ref C)))
    {fI : Addr} {odI anI : Option Addr} {slI : Array (Option Value)} {ocI kVI dcI pmI cdI ctI : Value}
    (aI : PySem.W.findIn K (.ref C) "__init__" = some (some (.ref fI))) (iI : PySem.W.isFn K (.ref fI) = true)
    (lI : K.lookup fI = some ⟨ocI, odI, .func (PySem.W.fnOf "__init__" "Forest.__init__" (defArgs sInit) (defBody sInit) (defScope sInit) .none kVI dcI pmI anI cdI ctI), slI⟩) (cI : PySem.W.codeIn K cdI "Forest.__init__" = true) (kI : PySem.W.keepIn K (.ref fI) = true)
    {fS : Addr} {odS anS : Option Addr} {slS : Array (Option Value)} {ocS kVS dcS pmS cdS ctS : Value}
    {pS : Addr} {rrS : List Value} (aS : PySem.W.findIn K (.ref C) "names" = some (some (.ref pS))) (gS : PySem.W.specialIn K (.ref pS) "__get__" = some (some (.builtin "property.__get__"))) (tS : PySem.W.takesIn K (.ref pS) = some true) (rS : PySem.W.recIn K pS "property" = some (.ref fS :: rrS))
    (lS : K.lookup fS = some ⟨ocS, odS, .func (PySem.W.fnOf "names" "Forest.names" (defArgs sNames) (defBody sNames) (defScope sNames) .none kVS dcS pmS anS cdS ctS), slS⟩) (cS : PySem.W.codeIn K cdS "Forest.names" = true) (kS : PySem.W.keepIn K (.ref fS) = true)
    {fA : Addr} {odA anA : Option Addr} {slA : Array (Option Value)} {ocA kVA dcA pmA cdA ctA : Value}
    (aA : PySem.W.findIn K (.ref C) "ancestors" = some (some (.ref fA))) (iA : PySem.W.isFn K (.ref fA) = true)
    (lA : K.lookup fA = some ⟨ocA, odA, .func (PySem.W.fnOf "ancestors" "Forest.ancestors" (defArgs sAnc) (defBody sAnc) (defScope sAnc) .none kVA dcA pmA anA cdA ctA), slA⟩) (cA : PySem.W.codeIn K cdA "Forest.ancestors" = true) (kA : PySem.W.keepIn K (.ref fA) = true)
    {fG : Addr} {odG anG : Option Addr} {slG : Array (Option Value)} {ocG kVG dcG pmG cdG ctG : Value}
    {pG : Addr} {rrG : List Value} (aG : PySem.W.findCls K (.ref C) (.type "type") "parse" = some (.get (.builtin "staticmethod.__get__") (.ref pG) .none (.ref C))) (rG : PySem.W.recIn K pG "staticmethod" = some (.ref fG :: rrG))
    (lG : K.lookup fG = some ⟨ocG, odG, .func (PySem.W.fnOf "parse" "Forest.parse" (defArgs sParse) (defBody sParse) (defScope sParse) .none kVG dcG pmG anG cdG ctG), slG⟩) (cG : PySem.W.codeIn K cdG "Forest.parse" = true) (kG : PySem.W.keepIn K (.ref fG) = true)
    {tM : Tok}
    {nm q : Str} {N : Addr} {bs bmT : List Value} {sn : List Str} {sub : List Value} {ab : Bool} {col : Option Bool} {dd : Option Addr} {k0 k1 k2 k3 k5 : Option Value} {CF CT CP : Addr}
    {fTI : Addr} {odTI anTI : Option Addr} {slTI : Array (Option Value)} {ocTI kVTI dcTI pmTI cdTI ctTI : Value}
    (pg : PySem.W.plainGet K C Str.empty = true)
    (hd : PySem.W.hasDictIn K C = true)
    (po : PySem.W.plainOver K C = true)
    (sa : PySem.W.findIn K (.ref C) "__setattr__" = some (some (.builtin "object.__setattr__")))
    (mk : PySem.W.makesIn K C = true)
    (kc : PySem.W.keepIn K (.ref C) = true)
    (nP : PySem.W.findIn K (.ref C) "_parents" = some none)
    (rd : PySem.W.readsIn K C (.type "type") = true)
    (ga : PySem.W.specialIn K (.ref C) "__getattribute__" = some (some (.builtin "type.__getattribute__")))
    (mo : PySem.W.findCls K (.ref C) (.type "type") "MOST" = some (.val (.int 8 tM)))
    (ha : PySem.W.findIn K (.ref C) "__class__" = some (some (.builtin "object.__class__")))
    (hn : PySem.W.specialIn K (.builtin "object.__class__") "__get__" = some (some (.builtin "getset_descriptor.__get__")))
    (ht : PySem.W.takesIn K (.builtin "object.__class__") = some true)
    (hm : PySem.W.mroIn K C (.type "object") = some true)
    (CF_a : PySem.W.nsIn K mainGlobals "InvalidForest" = some (some (.ref CF)))
    (CT_a : PySem.W.nsIn K mainGlobals "InvalidText" = some (some (.ref CT)))
    (CP_a : PySem.W.nsIn K mainGlobals "PurseError" = some (some (.ref CP)))
    (gF0 : PySem.W.findIn K (.ref CF) "__getattribute__" = some (some (.builtin "BaseException.__getattribute__")))
    (hF0 : PySem.W.findIn K (.ref CF) "__getattr__" = some none)
    (sF : PySem.W.subIn K (.ref CF) (.type "BaseException") = some true)
    (dF : PySem.W.hasDictIn K CF = true)
    (xF : PySem.W.findIn K (.ref CF) "__class__" = some (some (.builtin "object.__class__")))
    (yF : PySem.W.mroIn K CF (.type "object") = some true)
    (qF : PySem.W.keepIn K (.ref CF) = true)
    (uF : PySem.W.typeIn K (.ref CF) = some (.type "type"))
    (gT0 : PySem.W.findIn K (.ref CT) "__getattribute__" = some (some (.builtin "BaseException.__getattribute__")))
    (hT0 : PySem.W.findIn K (.ref CT) "__getattr__" = some none)
    (sT : PySem.W.subIn K (.ref CT) (.type "BaseException") = some true)
    (dT : PySem.W.hasDictIn K CT = true)
    (xT : PySem.W.findIn K (.ref CT) "__class__" = some (some (.builtin "object.__class__")))
    (yT : PySem.W.mroIn K CT (.type "object") = some true)
    (qT : PySem.W.keepIn K (.ref CT) = true)
    (uT : PySem.W.typeIn K (.ref CT) = some (.type "type"))
    (sP : PySem.W.subIn K (.ref CP) (.type "BaseException") = some true)
    (dP : PySem.W.hasDictIn K CP = true)
    (uP : PySem.W.typeIn K (.ref CP) = some (.type "type"))
    (sFP : PySem.W.subIn K (.ref CF) (.ref CP) = some true)
    (sTP : PySem.W.subIn K (.ref CT) (.ref CP) = some true)
    (sFT : PySem.W.subIn K (.ref CF) (.ref CT) = some false)
    (nFT : ((Value.ref CF) == (Value.ref CT)) = false)
    (xF_ : PySem.W.excIn K CF [.type "ValueError", .type "Exception", .type "BaseException", .type "object"] "ValueError.__new__" = true)
    (lCT : K.lookup CT = some (excClassObj nm q CT N bs bmT true sn sub ab col dd k0 k1 k2 k3 k5 "ValueError.__new__"))
    (rbT : PySem.HandSPX.refsVE bmT = true)
    (saT : PySem.W.findIn K (.ref CT) "__setattr__" = some (some (.builtin "object.__setattr__")))
    (nT_ : PySem.W.findIn K (.ref CT) "line" = some none)
    (aTI : PySem.W.findIn K (.ref CT) "__init__" = some (some (.ref fTI)))
    (tTI : PySem.W.typeIn K (.ref fTI) = some (.type "function"))
    (lTI : K.lookup fTI = some ⟨ocTI, odTI, .func (PySem.W.fnOf "__init__" "InvalidText.__init__" (defArgs sTI) (defBody sTI) (defScope sTI) .none kVTI dcTI pmTI anTI cdTI ctTI), slTI⟩)
    (cTI : PySem.W.codeIn K cdTI "InvalidText.__init__" = true)
    (kTI : PySem.W.keepIn K (.ref fTI) = true)
    {t1 t2 : Tok} (g1 : PySem.W.nsIn K mainGlobals "LETTERS" = some (some (.str letters t1))) (g2 : PySem.W.nsIn K mainGlobals "LONGEST" = some (some (.int 8 t2)))
    (z0 : PySem.W.nsIn K mainGlobals "isinstance" = some none)
    (z1 : PySem.W.nsIn K mainGlobals "str" = some none)
    (z2 : PySem.W.nsIn K mainGlobals "list" = some none)
    (z3 : PySem.W.nsIn K mainGlobals "tuple" = some none)
    (z4 : PySem.W.nsIn K mainGlobals "len" = some none)
    (z5 : PySem.W.nsIn K mainGlobals "all" = some none)
    (z6 : PySem.W.nsIn K mainGlobals "enumerate" = some none)
    (z7 : PySem.W.nsIn K mainGlobals "range" = some none)
    (z8 : PySem.W.nsIn K mainGlobals "zip" = some none)
    (z9 : PySem.W.nsIn K mainGlobals "int" = some none)
    : ∃ fd : FuncData, Fun K "law" "law" sLaw fa fd ∧ (∀ (s : Shared) (u : Value), BindsTo s fd ⟨[u], []⟩ [("_law_script", u)]) ∧
      ∀ (base : Heap) (A : Around) (s : Shared) (H : Hp) (cdv : Value) (a : Addr) (ns : List Int), ns.length ≤ 63 → Bed K mg base A → Room 7 (A.deeper (envOfC "law" (defScope sLaw) s.heap.objs.size fa cdv)) → SqL K H a (ns.map V.int) →
        ∃ t, PSs (cxOf CX0 P w K mg base nLaw "law" (defScope sLaw) fa cdv A [] s H E0).nox (defBody sLaw) t ∧ t { nx := fun _ _ => False, rt := fun v _ => v = .bl true } (L2.start nLaw [.ref a]) H := by
  have e := hfa.symm.trans (PySem.W.mg_of X G aL)
  cases e
  have FB := fun_mk (st := sBegun) lB cB kB
  have mB := PySem.W.mg_of X G aB
  have bB := FB.binds (ps := ["_law_script"]) fun _ _ _ _ _ _ us hl => match us, hl with | [_], _ => rfl
  have FM := fun_mk (st := sMixed) lM cM kM
  have mM := PySem.W.mg_of X G aM
  have bM := FM.binds (ps := ["_law_state"]) fun _ _ _ _ _ _ us hl => match us, hl with | [_], _ => rfl
  have FT := fun_mk (st := sTake) lT cT kT
  have mT := PySem.W.mg_of X G aT
  have bT := FT.binds (ps := ["_law_state", "_law_size"]) fun _ _ _ _ _ _ us hl => match us, hl with | [_, _], _ => rfl
  have FP := fun_mk (st := sPick) lP cP kP
  have mP := PySem.W.mg_of X G aP
  have bP := FP.binds (ps := ["_law_state", "_law_some"]) fun _ _ _ _ _ _ us hl => match us, hl with | [_, _], _ => rfl
  have FW := fun_mk (st := sWords) lW cW kW
  have mW := PySem.W.mg_of X G aW
  have bW := FW.binds (ps := ["_law_state", "_law_size"]) fun _ _ _ _ _ _ us hl => match us, hl with | [_, _], _ => rfl
  have FF := fun_mk (st := sForest) lF cF kF
  have mF := PySem.W.mg_of X G aF
  have bF := FF.binds (ps := ["_law_state", "_law_most"]) fun _ _ _ _ _ _ us hl => match us, hl with | [_, _], _ => rfl
  have FU := fun_mk (st := sLName) lU cU kU
  have mU := PySem.W.mg_of X G aU
  have bU := FU.binds (ps := ["_law_word"]) fun _ _ _ _ _ _ us hl => match us, hl with | [_], _ => rfl
  have FV := fun_mk (st := sDue) lV cV kV
  have mV := PySem.W.mg_of X G aV
  have bV := FV.binds (ps := ["_law_text"]) fun _ _ _ _ _ _ us hl => match us, hl with | [_], _ => rfl
  have FY := fun_mk (st := sTold) lY cY kY
  have mY := PySem.W.mg_of X G aY
  have bY := FY.binds (ps := ["_law_text"]) fun _ _ _ _ _ _ us hl => match us, hl with | [_], _ => rfl
  have FK0 := fun_mk (st := sBent) lK0 cK0 kK0
  have mK0 := PySem.W.mg_of X G aK0
  have bK0 := FK0.binds (ps := ["_law_state", "_law_text"]) fun _ _ _ _ _ _ us hl => match us, hl with | [_, _], _ => rfl
  have FN := fun_mk (st := sName) lN cN kN
  have mN := PySem.W.mg_of X G aN
  have bN := FN.binds (ps := ["value"]) fun _ _ _ _ _ _ us hl => match us, hl with | [_], _ => rfl
  have FO := fun_mk (st := sRow) lO cO kO
  have mO := PySem.W.mg_of X G aO
  have bO := FO.binds (ps := ["value", "earlier"]) fun _ _ _ _ _ _ us hl => match us, hl with | [_, _], _ => rfl
  have FX := fun_mk (st := sWrong) lX cX kX
  have mX := PySem.W.mg_of X G aX
  have bX := FX.binds (ps := ["rows"]) fun _ _ _ _ _ _ us hl => match us, hl with | [_], _ => rfl
  have FD := fun_mk (st := sRead) lD cD kD
  have mD := PySem.W.mg_of X G aD
  have bD := FD.binds (ps := ["line"]) fun _ _ _ _ _ _ us hl => match us, hl with | [_], _ => rfl
  have FL := fun_mk (st := sLaw) lL cL kL
  have mL := PySem.W.mg_of X G aL
  have bL := FL.binds (ps := ["_law_script"]) fun _ _ _ _ _ _ us hl => match us, hl with | [_], _ => rfl
  have FI := fun_mk (st := sInit) lI cI kI
  have bI := FI.binds (ps := ["self", "rows"]) fun _ _ _ _ _ _ us hl => match us, hl with | [_, _], _ => rfl
  have FS := fun_mk (st := sNames) lS cS kS
  have bS := FS.binds (ps := ["self"]) fun _ _ _ _ _ _ us hl => match us, hl with | [_], _ => rfl
  have FA := fun_mk (st := sAnc) lA cA kA
  have bA := FA.binds (ps := ["self", "name"]) fun _ _ _ _ _ _ us hl => match us, hl with | [_, _], _ => rfl
  have FG := fun_mk (st := sParse) lG cG kG
  have bG := FG.binds (ps := ["text"]) fun _ _ _ _ _ _ us hl => match us, hl with | [_], _ => rfl
  have T : Names mg := ⟨PySem.W.mg_none_of X G z0, PySem.W.mg_none_of X G z1, PySem.W.mg_none_of X G z2, PySem.W.mg_none_of X G z3, PySem.W.mg_none_of X G z4, PySem.W.mg_none_of X G z5, PySem.W.mg_none_of X G z6, ⟨_, PySem.W.mg_of X G g1⟩, ⟨_, PySem.W.mg_of X G g2⟩⟩
  have Z : FC K mg C fI (.type "type") := ⟨⟨pg, hd, po, sa⟩, ⟨mk, aI, iI, kc⟩, nP, ⟨rd, ga⟩, ⟨_, mo, ⟨_, rfl⟩⟩, ha, hn, ht, hm, kit_self, PySem.W.mg_of X G aC⟩
  have FTI := fun_mk (st := sTI) lTI cTI kTI
  have bTI := FTI.binds (ps := ["self", "line"]) fun _ _ _ _ _ _ us hl => match us, hl with | [_, _], _ => rfl
  have Y : XC K mg CF CT fTI := ⟨xF_, PySem.W.mg_of X G CF_a, qF, sF, uF, ⟨⟨_, _, _, _, _, _, _, _, _, _, _, _, _, _, _, lCT, rbT⟩, saT, sT, uT, qT⟩, PySem.W.mg_of X G CT_a, aTI, tTI, nT_⟩
  have kFT : PySem.W.kitOne K (.ref CF) (.ref CT) = some false := by
    obtain ⟨cd, hc, _⟩ := PySem.W.any_some dT
    have e2 : ((PySem.W.clsIn K CT).isSome && PySem.W.typeIn K (.ref CT) == some (.type "type")) = true := by rw [hc, uT] <;> rfl
    show (if ((Value.ref CF) == (Value.ref CT)) = true then some true else (if ((PySem.W.clsIn K CT).isSome && PySem.W.typeIn K (.ref CT) == some (.type "type")) = true then PySem.W.subIn K (.ref CF) (.ref CT) else none)) = some false
    rw [nFT, if_pos e2]
    exact sFT
  have W : XD K mg CF CT CP := ⟨⟨gF0, hF0, sF, dF, xF, hn, ht, yF⟩, ⟨gT0, hT0, sT, dT, xT, hn, ht, yT⟩, ⟨gT0, hT0, sT, dT⟩, PySem.W.mg_of X G CP_a, PySem.W.exm_ref sP dP uP sFP, PySem.W.exm_ref sP dP uP sTP, kit_self, kit_self, kFT⟩
  refine ⟨_, FL, fun s v => .of_eq rfl, fun base A s H cdv a ns hl B hr hS => ?_⟩
  have GM : FnOk P w K mg base CX0 1 _ _ ["_law_state"] (spMixed ns) := ok_mixed ns FM
  have GT : FnOk P w K mg base CX0 2 _ _ ["_law_state", "_law_size"] (spTake ns) := ok_take ns FT GM bM kM mM
  have GP : FnOk P w K mg base CX0 3 _ _ ["_law_state", "_law_some"] (spPick K ns) := ok_pick ns FP GT bT kT mT T.len
  have RR : Draw P w K mg base ns fT fP _ _ := ⟨GT, bT, kT, mT, GP, bP, kP, mP, T.len, PySem.W.mg_none_of X G z7⟩
  have GW := ok_words (P := P) (w := w) (base := base) ns FW RR
  have GF := ok_forest (P := P) (w := w) (base := base) ns FF RR GW bW kW mW
  have GN := ok_name (P := P) (w := w) (base := base) FN T
  have GO := ok_row (P := P) (w := w) (base := base) FO T GN bN kN mN
  have GX := ok_wrong (P := P) (w := w) (base := base) FX T GO bO kO mO
  have GD := ok_read (P := P) (w := w) (base := base) FD T
  have GTI := ok_ti (P := P) (w := w) (mg := mg) (base := base) FTI Y
  have GI := ok_init (P := P) (w := w) (base := base) FI T Z Y GX bX kX mX
  have GS := ok_names (P := P) (w := w) (base := base) FS T Z
  have hS' : PropOf K C "names" pS fS := ⟨aS, gS, tS, ⟨_, rS⟩⟩
  have GA := ok_anc (P := P) (w := w) (base := base) FA T Z hS' GS bS
  have GG := ok_parse (P := P) (w := w) (base := base) FG T Z Y GD bD kD mD GX bX kX mX GI bI GTI bTI
  have GU := ok_lname (P := P) (w := w) (base := base) FU T
  have GV := ok_due (P := P) (w := w) (base := base) FV T (PySem.W.mg_none_of X G z9) GU bU kU mU
  have GK := ok_bent (P := P) (w := w) (base := base) ns FK0 RR
  have GY := ok_told (P := P) (w := w) (base := base) FY T (PySem.W.mg_none_of X G z8) Z Y W GS bS hS' GA bA ⟨aA, iA, kA⟩ GG bG kG ⟨aG, ⟨_, rG⟩⟩
  exact ok_law hl hr hS (PySem.W.mg_none_of X G z7) RR (ok_begun ns FB T.list) bB kB mB GF bF kF mF GK bK0 kK0 mK0 GV bV kV mV GY bY kY mY
end Lw
open PySem PySem.W PyProof.Rows
set_option maxRecDepth 100000 in
set_option maxHeartbeats 0 in
theorem PySem.Challenge.cw_hearpurse_k04_texts_spoilt_holds : PySem.Challenge.rw_hearpurse_k04_texts_spoilt.Holds := by
  w_on; o_law; k_head; (case hw => w_witness2)
  k_fill
  refine Ge.walk_law (l := PySem.Challenge.rw_hearpurse_k04_texts_spoilt) (n := 63) (k := 7) (x := "_law_script") (st := Lw.sLaw) (N := Lw.nLaw) rfl (by decide) rfl ⟨rfl, by decide, by decide⟩ (by decide +kernel) Lw.scLaw (fun w h Y => PySem.W.kIn_of Y) ?F
  case F =>
    intro w mg fa h KX G hmg
    refine' Lw.all_mk KX G hmg ?aB ?lB ?cB ?kB ?aM ?lM ?cM ?kM ?aT ?lT ?cT ?kT ?aP ?lP ?cP ?kP ?aW ?lW ?cW ?kW ?aF ?lF ?cF ?kF ?aU ?lU ?cU ?kU ?aV ?lV ?cV ?kV ?aY ?lY ?cY ?kY ?aK0 ?lK0 ?cK0 ?kK0 ?aN ?lN ?cN ?kN ?aO ?lO ?cO ?kO ?aX ?lX ?cX ?kX ?aD ?lD ?cD ?kD ?aL ?lL ?cL ?kL ?aC ?aI ?iI ?lI ?cI ?kI ?aS ?gS ?tS ?rS ?lS ?cS ?kS ?aA ?iA ?lA ?cA ?kA ?aG ?rG ?lG ?cG ?kG ?pg ?hd ?po ?sa ?mk ?kc ?nP ?rd ?ga ?mo ?ha ?hn ?ht ?hm ?CF_a ?CT_a ?CP_a ?gF0 ?hF0 ?sF ?dF ?xF ?yF ?qF ?uF ?gT0 ?hT0 ?sT ?dT ?xT ?yT ?qT ?uT ?sP ?dP ?uP ?sFP ?sTP ?sFT ?nFT ?xF_ ?lCT ?rbT ?saT ?nT_ ?aTI ?tTI ?lTI ?cTI ?kTI ?g1 ?g2 ?z0 ?z1 ?z2 ?z3 ?z4 ?z5 ?z6 ?z7 ?z8 ?z9
    (case aB => k_is)
    (case lB => k_is)
    (case cB => k_is)
    (case kB => k_is)
    (case aM => k_is)
    (case lM => k_is)
    (case cM => k_is)
    (case kM => k_is)
    (case aT => k_is)
    (case lT => k_is)
    (case cT => k_is)
    (case kT => k_is)
    (case aP => k_is)
    (case lP => k_is)
    (case cP => k_is)
    (case kP => k_is)
    (case aW => k_is)
    (case lW => k_is)
    (case cW => k_is)
    (case kW => k_is)
    (case aF => k_is)
    (case lF => k_is)
    (case cF => k_is)
    (case kF => k_is)
    (case aU => k_is)
    (case lU => k_is)
    (case cU => k_is)
    (case kU => k_is)
    (case aV => k_is)
    (case lV => k_is)
    (case cV => k_is)
    (case kV => k_is)
    (case aY => k_is)
    (case lY => k_is)
    (case cY => k_is)
    (case kY => k_is)
    (case aK0 => k_is)
    (case lK0 => k_is)
    (case cK0 => k_is)
    (case kK0 => k_is)
    (case aN => k_is)
    (case lN => k_is)
    (case cN => k_is)
    (case kN => k_is)
    (case aO => k_is)
    (case lO => k_is)
    (case cO => k_is)
    (case kO => k_is)
    (case aX => k_is)
    (case lX => k_is)
    (case cX => k_is)
    (case kX => k_is)
    (case aD => k_is)
    (case lD => k_is)
    (case cD => k_is)
    (case kD => k_is)
    (case aL => k_is)
    (case lL => k_is)
    (case cL => k_is)
    (case kL => k_is)
    (case aC => k_is)
    (case aI => k_is)
    (case iI => k_is)
    (case lI => k_is)
    (case cI => k_is)
    (case kI => k_is)
    (case aS => k_is)
    (case gS => k_is)
    (case tS => k_is)
    (case rS => k_is)
    (case lS => k_is)
    (case cS => k_is)
    (case kS => k_is)
    (case aA => k_is)
    (case iA => k_is)
    (case lA => k_is)
    (case cA => k_is)
    (case kA => k_is)
    (case aG => k_is)
    (case rG => k_is)
    (case lG => k_is)
    (case cG => k_is)
    (case kG => k_is)
    (case pg => k_is)
    (case hd => k_is)
    (case po => k_is)
    (case sa => k_is)
    (case mk => k_is)
    (case kc => k_is)
    (case nP => k_is)
    (case rd => k_is)
    (case ga => k_is)
    (case mo => k_is)
    (case ha => k_is)
    (case hn => k_is)
    (case ht => k_is)
    (case hm => k_is)
    (case CF_a => k_is)
    (case CT_a => k_is)
    (case CP_a => k_is)
    (case gF0 => k_is)
    (case hF0 => k_is)
    (case sF => k_is)
    (case dF => k_is)
    (case xF => k_is)
    (case yF => k_is)
    (case qF => k_is)
    (case uF => k_is)
    (case gT0 => k_is)
    (case hT0 => k_is)
    (case sT => k_is)
    (case dT => k_is)
    (case xT => k_is)
    (case yT => k_is)
    (case qT => k_is)
    (case uT => k_is)
    (case sP => k_is)
    (case dP => k_is)
    (case uP => k_is)
    (case sFP => k_is)
    (case sTP => k_is)
    (case sFT => k_is)
    (case nFT => with_unfolding_all rfl)
    (case xF_ => k_exc)
    (case lCT => k_is)
    (case rbT => with_unfolding_all rfl)
    (case saT => k_is)
    (case nT_ => k_is)
    (case aTI => k_is)
    (case tTI => k_is)
    (case lTI => k_is)
    (case cTI => k_is)
    (case kTI => k_is)
    (case g1 => k_is)
    (case g2 => k_is)
    (case z0 => k_is)
    (case z1 => k_is)
    (case z2 => k_is)
    (case z3 => k_is)
    (case z4 => k_is)
    (case z5 => k_is)
    (case z6 => k_is)
    (case z7 => k_is)
    (case z8 => k_is)
    (case z9 => k_is)

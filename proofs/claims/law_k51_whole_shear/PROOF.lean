import PyProof.Rows.All
import Wide.All
import OpenK.AllK
import Wide.FinOn
import HandS.ForMost
import HandS.Strs
import HandS.SortInts
import HandS.Conv
import HandS.Walk
import HandS.IsInst
import HandS.Defaults
import HandS.Wide
import HandS.RaiseMore
import PyProof.ReprRoads
import PyProof.ReprLen
import HandS.Lambda
import HandS.Nested
import KE.SortKeyHeap
import KE.KSortKey
import HandS.SetFor
import HandS.SetBool
import HandS.Style
import HandS.SortRule
import KE.LtSeq
import PyProof.SumWalkG
import HandS.Iter
import HandS.WideBits
import HandS.RevRange
import PySem.Challenge.RW_keptsorted_k51_whole_shear
set_option autoImplicit true
set_option Elab.async false
set_option linter.all false
set_option maxRecDepth 100000
set_option maxHeartbeats 4000000
/-! A layer of my own over the hand layer: repr of data (with the guards told), calls whose promise wants the guards, calls by keywords alone, list(range) with a step, great powers. -/
namespace Kt
open PySem L2 PyProof.Rows

/-! ### promises that want to know that no repr is under way -/
structure FnG (P : Program) (w : World) (K : PySem.W.Frag) (mg : Str → Option Value) (base : Heap) (k : Nat) (f : Addr) (fd : FuncData) (ps : List Str) (sp : Sp) : Prop where
  arity : ∀ vs H Q, sp vs H Q E0 → vs.length = ps.length
  go : ∀ (A : Around) (below : List Env) (s : Shared) (H : Hp) (args : Args) (us : List Value) (vs : List V) (Q : VK), Room k A → A.guards = some [] → Env0 P w K mg base A below s H →
    BindsTo s fd args (ps.zip us) → Vals vs us → sp vs H Q E0 → codeAny (model P w) A (.call (.ref f) args) (CR CX0 below P w H s Q E0) s

theorem FnG.up {P : Program} {w : World} {K : PySem.W.Frag} {mg : Str → Option Value} {base : Heap} {j k : Nat} {f : Addr} {fd : FuncData} {ps : List Str} {sp : Sp} (F : FnG P w K mg base j f fd ps sp) (h : j ≤ k) : FnG P w K mg base k f fd ps sp :=
  ⟨F.arity, fun A below s H args us vs Q hr => F.go A below s H args us vs Q (hr.mono h)⟩

/-- a def's promise, shown where no repr is under way -/
theorem fnG_of {P : Program} {w : World} {K : PySem.W.Frag} {mg : Str → Option Value} {base : Heap} {x qual : Str} {st : Stmt} {f : Addr} {fd : FuncData} {N ps : List Str} {k : Nat} {sp : Sp} (F : Fun K x qual st f fd) (S : FnScope N ps (defScope st))
    (arity : ∀ vs H Q, sp vs H Q E0 → vs.length = ps.length)
    (body : ∀ (cdv : Value) (A : Around) (below : List Env) (s : Shared) (H : Hp) (vs : List V) (Q : VK), Room k (A.deeper (envOfC qual (defScope st) s.heap.objs.size f cdv)) → A.guards = some [] → sp vs H Q E0 →
      ∃ t, PSs (cxOf CX0 P w K mg base N qual (defScope st) f cdv A below s H E0).nox (defBody st) t ∧ t { nx := fun _ H' => Q .non H', rt := Q } (start N vs) H) :
    FnG P w K mg base (k + 1) f fd ps sp := by
  obtain ⟨oc, od, kV, doc, pm, an, cdv, ct, osl, rfl, lk, hcd⟩ := F.ex
  refine ⟨arity, fun A below s H args us vs Q hr hg e0 hb r hsp => ?_⟩
  have hl := arity _ _ _ hsp
  have old : ∀ b o, base.get? b = some o → s.heap.get? b = some o := fun b o e => (e0.bs b o e).1
  have places : ∀ y ∈ ps.zip us, (defScope st).names.lookup y.1 = some .local ∨ ((defScope st).names.lookup y.1 = some .cell ∧ ((cellsFrom (s.heap.objs.size + 1) (defScope st).names []).lookup y.1).isSome = true) := by
    rintro ⟨n, v⟩ hy
    cases S.par n (List.of_mem_zip hy).1 with
    | inl q => exact .inl q
    | inr q => exact .inr ⟨q, PySem.W.cellsFrom_some _ _ _ (.inl q)⟩
  refine codeAny_call_function hr.depth (e0.mod.kin.keeps old _ _ lk) rfl S.co S.gen rfl (PySem.W.codeRec_of (e0.mod.kin.keeps old) hcd) (hb _ _ _ _ ?_)
  refine wpAny_newFunctionEnv_cells S.kind places fun env he s1 y => ?_
  subst he
  refine ⟨(e0.mod.nolimit.keeps old).keeps y.toInCall.keep, codeAny_func ?_⟩
  obtain ⟨t, ht, hq⟩ := body cdv A below s H vs Q (hr.deeper _) hg hsp
  have I : Inv (cxOf CX0 P w K mg base N qual (defScope st) f cdv A below s H E0) [] (start N vs) H s1 := inv_start S hr.hd e0 hl r y
  refine wpAny_mono (ht.nox.run [] s1 (start N vs) H _ I hq) ?_ fun e s' hs => hs
  intro fl s' hs
  have done : ∀ {τ : L2.St} {H' : Hp} {v : V} {u : Value}, Inv (cxOf CX0 P w K mg base N qual (defScope st) f cdv A below s H E0) [] τ H' s' → RelV v u → Q v H' → CE below P w H s Q u s' :=
    fun {τ H' v u} J rv q => ⟨v, H', J.os, J.bare, J.base, J.hok, rv, q⟩
  match fl, hs with
  | .ret u, hs =>
    obtain ⟨v, τ, H', J, rv, q⟩ := hs
    exact done J rv q
  | .next, hs =>
    obtain ⟨τ, H', J, q⟩ := hs
    exact done (v := V.non) (u := Value.none) J rfl q
  | .brk, hs => exact False.elim hs.choose_spec.choose_spec.2
  | .cont, hs => exact False.elim hs.choose_spec.choose_spec.2

section
variable {X : Cx} {k : Nat} {f : Addr} {fd : FuncData} {ps ks : List Str} {sp : Sp} {x : Str} {p pos : Pos} {e : Expr} {es : List Expr} {kws : List Keyword} {t tk : TA} {g : List Value → List Value → List Value} {gV : List V → List V → List V}
/-- a call of such a def -/
theorem pe_callG (F : FnG X.prog X.w X.K X.mg X.base k f fd ps sp) (hr : Room k X.A) (gu : X.A.guards = some []) (gl : Gl X x) (hm : X.mg x = some (.ref f)) (hk : PySem.W.keepIn X.K (.ref f) = true) (hb : Binds X.K fd ps []) (ha : PA X (e :: es) t)
    (hdb : (x == ("__debug__" : Str)) = false := by decide) (he : starEach (e :: es) X.env = (false, eval e X.env) :: starEach es X.env := by rfl) (hpl : (backTo pos (starEach es X.env)).any (·.1) = false := by rfl) :
    PE X (.Call (.Name x p) (e :: es) [] pos) (tCall sp [] E0 t) := by
  refine ⟨fun pins s σ H Q I h => wpAny_Call_Name_kw (ld_glob I gl hm ?_ hdb)⟩
  refine PySem.W.callWith_K (h₀ := X.base) I.ok.mod.kin hk (thn (ha.run pos pins s σ H _ I h) fun us s1 ⟨vs, H1, I1, r, q⟩ => ⟨I1.kIn, ?_⟩) he hpl
  have q' : sp vs H1 Q E0 := by
    have z : sp (vs ++ []) H1 Q E0 := q
    rw [List.append_nil] at z
    exact z
  have hl : us.length = ps.length := r.length.symm.trans (F.arity _ _ _ q')
  have bd : BindsTo s1 fd ⟨us, []⟩ (ps.zip us) := by
    have z := hb s1 us I1.kIn (by rw [List.append_nil]; exact hl)
    rw [List.append_nil] at z
    exact z
  refine wpAny_call (codeAny_mono (F.go X.A X.stack s1 H1 ⟨us, []⟩ us vs Q hr gu I1.env0 bd r q') fun res s2 hq => ?_)
  match res, hq with
  | .ok (.ret u), hq => exact I1.after hq
  | .ok .next, hq => exact False.elim hq
  | .ok .brk, hq => exact False.elim hq
  | .ok .cont, hq => exact False.elim hq
  | .error _, hq => exact False.elim hq
/-- f(k = v, ..), no value by its place -/
theorem pe_callK0 (F : FnOk X.prog X.w X.K X.mg X.base CX0 k f fd ps sp) (hr : Room k X.A) (hg : Gl X x) (hm : X.mg x = some (.ref f)) (hk : PySem.W.keepIn X.K (.ref f) = true) (hb : KBinds X.K fd ps ks g gV)
    (hkw : PK X kws tk) (hall : (backToKw pos (keywordEach kws X.env)).all (·.1.isSome) = true := by rfl) (hks : (backToKw pos (keywordEach kws X.env)).filterMap (·.1) = ks := by rfl) (hdb : (x == ("__debug__" : Str)) = false := by decide)
    (hpl : ((backTo pos (starEach [] X.env)).any (·.1) || (backToKw pos (keywordEach kws X.env)).any (·.1.isNone)) = false := by rfl) :
    PE X (.Call (.Name x p) [] kws pos) (tCallK sp gV E0 tNil tk) := by
  refine ⟨fun pins s σ H Q I h => wpAny_Call_Name_kw (ld_glob I hg hm ?_ hdb)⟩
  refine PySem.W.callWith_KW0 (h₀ := X.base) I.ok.mod.kin hk hall (thn (hkw.run pos pins s σ H _ I h) fun ws s2 ⟨zs, H2, I2, rz, q2⟩ => ⟨I2.kIn, ?_⟩) hpl
  rw [hks]
  exact run_fnk (us := []) F hr hb pass0 I2 .nil rz q2
end

/-! ### repr of data -/
section
variable {X : Cx}
@[irreducible] def rReprD (K : PySem.W.Frag) : List V → Hp → VK → Prop := fun vs H Q => ∃ (a : Addr) (ds : List PyData), vs = [V.ref a] ∧ Dp K H (.ref a) (.list ds) ∧ PyData.showable (.list ds) = true ∧ PyData.hasDict (.list ds) = false ∧ PyData.depth (.list ds) ≤ 60 ∧
  (PyData.shown (.list ds)).length ≤ sizeLine ∧ Q (.str (PyData.shown (.list ds))) H
theorem call_reprD (gu : X.A.guards = some []) (hu : X.A.units + 64 < cLine) : CallR X (.builtin "repr") (rReprD X.K) := by
  intro pins s σ H vs us Q I r h
  unfold rReprD at h
  obtain ⟨a, ds, rfl, hd, h1, h2, h3, h4, q⟩ := h
  rw [Vals.ref1 r]
  obtain ⟨as, rd⟩ := Dp.reads I _ _ _ hd (show RelV (.ref a) (Value.ref a) from rfl)
  refine repr_of_reads' rd h1 (fun z => by rw [h2] at z; cases z) gu (by omega) (fun _ _ e => e) (fun h' u tk keep => ?_) h4
  exact ⟨.str _, H, I.kept (t' := tk) keep, ⟨u, rfl⟩, q⟩
end

/-! ### great powers; list(range(a, b, c)) -/
section
variable {X : Cx}
def CPowW (i j : Int) : Prop := 0 ≤ j ∧ (Builtin.Int.intBits i : Int) * j ≤ 2 ^ 27
theorem op_powW : OpR X (binaryOp .Pow) (rI CPowW fun i j => .int (i ^ j.toNat)) := opI fun _ _ _ _ _ _ _ hc q => PyProof.Rows.pow_int hc.1 hc.2 q

/-- the ints a, a + c, .. (n of them) -/
def stepV (a c : Int) (n : Nat) : List V := (List.range n).map fun i => V.int (a + (i : Nat) * c)
theorem stepV_length (a c : Int) (n : Nat) : (stepV a c n).length = n := by unfold stepV; rw [List.length_map, List.length_range]
def tLstRg3 (ta : TA) : TE := fun σ H Q => ta σ H fun vs H1 => ∃ (a b c : Int) (n : Nat), vs = [.int a, .int b, .int c] ∧ RgC a b c n ∧ n ≤ 1000 ∧ ∀ q, H1 q = none → Q (.ref q) (upd H1 q (.lst (stepV a c n)))
theorem pe_listRg3 {ta : TA} {a b c : Expr} {p p2 pos pos2 : Pos} (hc : X.calm = true) (hg : Gl X "list") (hm : X.mg "list" = none) (hg2 : Gl X "range") (hm2 : X.mg "range" = none) (ha : PA X [a, b, c] ta)
    (hs : starEach [a, b, c] X.env = (false, eval a X.env) :: starEach [b, c] X.env := by rfl) (hpl : (backTo pos2 (starEach [b, c] X.env)).any (·.1) = false := by rfl)
    (na : starEach [(.Call (.Name "range" p2) [a, b, c] [] pos2)] X.env = (false, eval (.Call (.Name "range" p2) [a, b, c] [] pos2) X.env) :: starEach [] X.env := by rfl) :
    PE X (.Call (.Name "list" p) [.Call (.Name "range" p2) [a, b, c] [] pos2] [] pos) (tLstRg3 ta) := by
  refine ⟨fun pins s σ H Q I h => ?_⟩
  refine Call_ (ld_blt I hg hm boot_list (PyProof.Rows.callWith_type1 (args_cons ?_ na) na))
  refine Call_ (ld_blt I hg2 hm2 boot_range (PyProof.Rows.callWith_type1 (thn (ha.run pos2 pins s σ H _ I h) fun us s1 ⟨vs, H1, I1, r1, q1⟩ => ?_) hs hpl))
  obtain ⟨i, j, k, n, rfl, ⟨c0, c1, c2, c3⟩, hn, q⟩ := q1
  cases r1 with
  | cons ra r1 =>
    cases r1 with
    | cons rb r1 =>
      cases r1 with
      | cons rc r1 =>
        cases r1
        obtain ⟨t1, rfl⟩ := ra
        obtain ⟨t2, rfl⟩ := rb
        obtain ⟨t3, rfl⟩ := rc
        refine call_range_3 c0 (args_nil ?_) (.inl (PyProof.noPylong_small c1))
        have I2 := I1.kept (t' := s1.toks) (h' := s1.heap.push { cls := .type "range", data := .fields #[.int i t1, .int j t2, .int k t3] }) fun b o e => Heap.get?_push_of_some _ e
        have z : n ≤ 2 ^ 24 := Nat.le_trans hn (by decide)
        refine call_list_range (n := n) (I2.ok.hd hc) (IsRange.new ..) c2 c3 z fun h' tk acc cap hk e' hi => ?_
        have el : acc.toList.length = n := by rw [Array.length_toList]; exact hi.1
        have rv : Vals (stepV i k n) acc.toList := by
          unfold stepV
          rw [← el]
          refine vals_of_get acc.toList _ fun m u hm => ?_
          obtain ⟨tt, rfl⟩ := hi.2 m u (by rw [← hm, Array.getElem?_toList])
          exact ⟨tt, rfl⟩
        refine ⟨.ref _, _, I2.laid (t' := tk) (o := .lst (stepV i k n)) hk (Nat.le_refl _) ⟨?_, acc.toList, cap, rv, ?_⟩, rfl, q _ (I2.hok.fresh (Nat.le_refl _))⟩
        · rw [stepV_length, sizeLine_eq]
          omega
        · rw [Array.toArray_toList]
          exact e'
end
end Kt


set_option autoImplicit true
set_option Elab.async false
set_option linter.all false
set_option maxRecDepth 100000
set_option maxHeartbeats 4000000
/-! The mathematics of sorting along chains, and how lists of ints, families and rows lie in the heap. -/
namespace Kt
open PySem L2 PyProof.Rows

/-! ### sorting along chains -/
def le? (a b : Int) : Bool := decide (a ≤ b)
def srt (xs : List Int) : List Int := xs.mergeSort le?
theorem srt_perm (xs : List Int) : (srt xs).Perm xs := List.mergeSort_perm _ _
theorem srt_up (xs : List Int) : (srt xs).Pairwise (· ≤ ·) := by
  have h := List.pairwise_mergeSort (le := le?) (fun a b c h1 h2 => by unfold le? at *; simp at *; omega) (fun a b => by unfold le?; simp; omega) xs
  refine h.imp fun {a b} q => ?_
  unfold le? at q
  simpa using q
theorem srt_of {xs ys : List Int} (p : ys.Perm xs) (s : ys.Pairwise (· ≤ ·)) : ys = srt xs := PySem.W.ksm_same (p.trans (srt_perm xs).symm) s (srt_up xs)
theorem srt_len (xs : List Int) : (srt xs).length = xs.length := (srt_perm xs).length_eq

/-- the value at a place, from 1 -/
def at1 (load : List Int) (p : Int) : Int := load.getD (p - 1).toNat 0
def put1 (r : List Int) (q : Int × Int) : List Int := r.set (q.1 - 1).toNat q.2
def put (r : List Int) (c vs : List Int) : List Int := (c.zip vs).foldl put1 r
def along1 (load r c : List Int) : List Int := put r c (srt (c.map (at1 load)))
def sortAlong (load : List Int) (f : List (List Int)) : List Int := f.foldl (along1 load) load
def afterRow (load : List Int) (r : List (List (List Int))) : List Int := r.foldl sortAlong load
/-- no value of a chain is greater than the next -/
def ascends (load : List Int) (c : List Int) : Bool := (c.zip c.tail).all fun q => decide (at1 load q.1 ≤ at1 load q.2)
def isSorted (load : List Int) (f : List (List Int)) : Bool := f.all (ascends load)

structure Valid (n : Nat) (f : List (List Int)) : Prop where
  nd : f.flatten.Nodup
  rg : ∀ x ∈ f.flatten, 1 ≤ x ∧ x ≤ (n : Int)

theorem put1_len (r : List Int) (q : Int × Int) : (put1 r q).length = r.length := by unfold put1; rw [List.length_set]
theorem fold_put1_len (l : List (Int × Int)) : ∀ r : List Int, (l.foldl put1 r).length = r.length := by
  induction l with
  | nil => intro r; rfl
  | cons q l ih => intro r; rw [List.foldl_cons, ih, put1_len]
theorem put_len (r c vs : List Int) : (put r c vs).length = r.length := fold_put1_len _ _
theorem along1_len (load r c : List Int) : (along1 load r c).length = r.length := put_len _ _ _
theorem fold_along_len (load : List Int) (f : List (List Int)) : ∀ r : List Int, (f.foldl (along1 load) r).length = r.length := by
  induction f with
  | nil => intro r; rfl
  | cons c f ih => intro r; rw [List.foldl_cons, ih, along1_len]
theorem sortAlong_len (load : List Int) (f : List (List Int)) : (sortAlong load f).length = load.length := fold_along_len _ _ _
theorem afterRow_len (r : List (List (List Int))) : ∀ load : List Int, (afterRow load r).length = load.length := by
  induction r with
  | nil => intro load; rfl
  | cons f r ih => intro load; show (afterRow (sortAlong load f) r).length = _; rw [ih, sortAlong_len]

theorem at1_put1_ne {r : List Int} {q : Int × Int} {p : Int} (hp : 1 ≤ p) (hq : 1 ≤ q.1) (h : p ≠ q.1) : at1 (put1 r q) p = at1 r p := by
  unfold at1 put1
  rw [List.getD_eq_getElem?_getD, List.getD_eq_getElem?_getD, List.getElem?_set_ne (by omega)]
theorem at1_put1_self {r : List Int} {q : Int × Int} (hq : 1 ≤ q.1) (hl : q.1 ≤ (r.length : Int)) : at1 (put1 r q) q.1 = q.2 := by
  unfold at1 put1
  rw [List.getD_eq_getElem?_getD, List.getElem?_set_self (by omega)]
  rfl
theorem fold_put1_other {p : Int} (hp : 1 ≤ p) (l : List (Int × Int)) : ∀ r : List Int, (∀ q ∈ l, 1 ≤ q.1 ∧ q.1 ≠ p) → at1 (l.foldl put1 r) p = at1 r p := by
  induction l with
  | nil => intro r _; rfl
  | cons q l ih =>
    intro r h
    obtain ⟨h1, h2⟩ := h q List.mem_cons_self
    rw [List.foldl_cons, ih _ fun x hx => h x (List.mem_cons_of_mem _ hx), at1_put1_ne hp h1 (Ne.symm h2)]
theorem put_other {p : Int} (hp : 1 ≤ p) {r c vs : List Int} (h : ∀ x ∈ c, 1 ≤ x ∧ x ≠ p) : at1 (put r c vs) p = at1 r p :=
  fold_put1_other hp _ _ fun q hq => h q.1 (List.of_mem_zip hq).1
theorem put_own {n : Int} (c : List Int) : ∀ (vs r : List Int), c.Nodup → (∀ x ∈ c, 1 ≤ x ∧ x ≤ n) → n ≤ (r.length : Int) → vs.length = c.length → c.map (at1 (put r c vs)) = vs := by
  induction c with
  | nil =>
    intro vs r _ _ _ hl
    have e : vs = [] := List.eq_nil_of_length_eq_zero (by simpa using hl)
    rw [e]
    rfl
  | cons x c ih =>
    intro vs r nd rg hn hl
    match vs, hl with
    | v :: vs, hl =>
      obtain ⟨nx, nd'⟩ := List.nodup_cons.mp nd
      obtain ⟨x1, x2⟩ := rg x List.mem_cons_self
      have rg' : ∀ y ∈ c, 1 ≤ y ∧ y ≤ n := fun y hy => rg y (List.mem_cons_of_mem _ hy)
      have e : put r (x :: c) (v :: vs) = put (put1 r (x, v)) c vs := rfl
      rw [e, List.map_cons, ih vs _ nd' rg' (by rw [put1_len]; exact hn) (by simpa using hl)]
      congr 1
      rw [put_other x1 fun y hy => ⟨(rg' y hy).1, fun z => nx (z ▸ hy)⟩]
      exact at1_put1_self (q := (x, v)) x1 (by omega)
theorem fold_along_other {load : List Int} {p : Int} (hp : 1 ≤ p) (f : List (List Int)) : ∀ r : List Int, (∀ x ∈ f.flatten, 1 ≤ x ∧ x ≠ p) → at1 (f.foldl (along1 load) r) p = at1 r p := by
  induction f with
  | nil => intro r _; rfl
  | cons c f ih =>
    intro r h
    rw [List.flatten_cons] at h
    rw [List.foldl_cons, ih _ fun x hx => h x (List.mem_append_right _ hx)]
    exact put_other hp fun x hx => h x (List.mem_append_left _ hx)
theorem fold_along_own {load : List Int} {n : Int} (f : List (List Int)) : ∀ r : List Int, f.flatten.Nodup → (∀ x ∈ f.flatten, 1 ≤ x ∧ x ≤ n) → n ≤ (r.length : Int) → ∀ c ∈ f, c.map (at1 (f.foldl (along1 load) r)) = srt (c.map (at1 load)) := by
  induction f with
  | nil => intro r _ _ _ c hc; cases hc
  | cons d f ih =>
    intro r nd rg hn c hc
    rw [List.flatten_cons] at nd rg
    obtain ⟨n1, n2, n3⟩ := List.nodup_append.mp nd
    rw [List.foldl_cons]
    rcases List.mem_cons.mp hc with hc | hc
    · subst hc
      have e : c.map (at1 (f.foldl (along1 load) (along1 load r c))) = c.map (at1 (along1 load r c)) := by
        refine List.map_congr_left fun x hx => ?_
        exact fold_along_other (rg x (List.mem_append_left _ hx)).1 f _ fun y hy => ⟨(rg y (List.mem_append_right _ hy)).1, fun z => n3 x hx y hy z.symm⟩
      rw [e]
      exact put_own c _ r n1 (fun x hx => rg x (List.mem_append_left _ hx)) hn (by rw [srt_len, List.length_map])
    · exact ih _ n2 (fun x hx => rg x (List.mem_append_right _ hx)) (by rw [along1_len]; exact hn) c hc
theorem sortAlong_own {load : List Int} {f : List (List Int)} (v : Valid load.length f) {c : List Int} (hc : c ∈ f) : c.map (at1 (sortAlong load f)) = srt (c.map (at1 load)) :=
  fold_along_own (n := (load.length : Int)) f load v.nd v.rg (Int.le_refl _) c hc
theorem ascends_of_up {load : List Int} (c : List Int) (h : (c.map (at1 load)).Pairwise (· ≤ ·)) : ascends load c = true := by
  unfold ascends
  induction c with
  | nil => rfl
  | cons x c ih =>
    cases c with
    | nil => rfl
    | cons y c =>
      rw [List.map_cons] at h
      obtain ⟨h1, h2⟩ := List.pairwise_cons.mp h
      have e := ih h2
      have z : at1 load x ≤ at1 load y := h1 _ (by rw [List.map_cons]; exact List.mem_cons_self)
      show (((x, y) :: ((y :: c).zip (y :: c).tail)).all _) = true
      rw [List.all_cons, e]
      simpa using z
theorem sorted_after {load : List Int} {f : List (List Int)} (v : Valid load.length f) : isSorted (sortAlong load f) f = true := by
  unfold isSorted
  refine List.all_eq_true.mpr fun c hc => ascends_of_up c ?_
  rw [sortAlong_own v hc]
  exact srt_up _

theorem nodup_le : ∀ (n : Nat) (l : List Int), l.Nodup → (∀ x ∈ l, 1 ≤ x ∧ x ≤ (n : Int)) → l.length ≤ n
  | 0, l, _, h => by
    cases l with
    | nil => exact Nat.le_refl _
    | cons x l =>
      have := h x List.mem_cons_self
      omega
  | n + 1, l, nd, h => by
    have nd' : (l.erase ((n : Int) + 1)).Nodup := nd.erase _
    have e := nodup_le n (l.erase ((n : Int) + 1)) nd' fun x hx => by
      obtain ⟨h1, h2⟩ := nd.mem_erase_iff.mp hx
      have h3 := h x h2
      omega
    have z : l.length ≤ (l.erase ((n : Int) + 1)).length + 1 := by
      rw [List.length_erase]
      split <;> omega
    omega
theorem Valid.len {n : Nat} {f : List (List Int)} (v : Valid n f) : f.flatten.length ≤ n := nodup_le n _ v.nd v.rg
theorem flatten_mem {f : List (List Int)} {c : List Int} {x : Int} (hc : c ∈ f) (hx : x ∈ c) : x ∈ f.flatten := List.mem_flatten.mpr ⟨c, hc, hx⟩

/-! ### turns of loops -/
theorem put_step {r c vs : List Int} {i : Nat} {p v : Int} (hc : c[i]? = some p) (hv : vs[i]? = some v) : put r (c.take (i + 1)) (vs.take (i + 1)) = put1 (put r (c.take i) (vs.take i)) (p, v) := by
  unfold put
  have tz : ∀ j, (c.take j).zip (vs.take j) = (c.zip vs).take j := fun j => by
    rw [List.zip_eq_zipWith, List.zip_eq_zipWith, List.take_zipWith]
  rw [tz, tz]
  have e : (c.zip vs)[i]? = some (p, v) := by rw [List.getElem?_zip_eq_some]; exact ⟨hc, hv⟩
  rw [List.take_add_one, e, Option.toList_some, List.foldl_append]
  rfl
theorem fold_step {α β : Type} {g : β → α → β} {r : β} {l : List α} {i : Nat} {x : α} (h : l[i]? = some x) : (l.take (i + 1)).foldl g r = g ((l.take i).foldl g r) x := by
  rw [List.take_add_one, h, Option.toList_some, List.foldl_append]
  rfl
theorem at1_get {load : List Int} {p : Int} (h1 : 1 ≤ p) (h2 : p ≤ (load.length : Int)) : load[(p - 1).toNat]? = some (at1 load p) := by
  unfold at1
  have h : (p - 1).toNat < load.length := by omega
  rw [List.getD_eq_getElem?_getD, List.getElem?_eq_getElem h]
  rfl

/-! ### in the heap -/
def LI (H : Hp) (a : Addr) (xs : List Int) : Prop := H a = some (.lst (xs.map V.int))
def Refs (H : Hp) (a : Addr) (as : List Addr) : Prop := H a = some (.lst (as.map V.ref))
def Fam (H : Hp) (a : Addr) (f : List (List Int)) : Prop := ∃ as, Refs H a as ∧ Paired (LI H) as f
def RowA (H : Hp) (a : Addr) (r : List (List (List Int))) : Prop := ∃ as, Refs H a as ∧ Paired (Fam H) as r
/-- the law's draws -/
def DrO (n k : Int) (c : Bool) : HO := .lst [.int n, .int k, .bl c]
/-- all stands but d -/
def But (d : Addr) (H H' : Hp) : Prop := ∀ b o, b ≠ d → H b = some o → H' b = some o
theorem But.refl (d : Addr) (H : Hp) : But d H H := fun _ _ _ e => e
theorem But.trans {d : Addr} {H H1 H2 : Hp} (a : But d H H1) (b : But d H1 H2) : But d H H2 := fun c o n e => b c o n (a c o n e)
theorem But.same {d : Addr} {H H' : Hp} (s : Same H H') : But d H H' := fun b o _ e => s b o e
theorem But.upd {d : Addr} {H : Hp} {o : HO} : But d H (upd H d o) := fun b u n e => (upd_ne n).trans e
theorem but_free {d : Addr} {H H' : Hp} (s : But d H H') {p : Addr} (h : H' p = none) (n : p ≠ d) : H p = none := by
  cases q : H p with
  | none => rfl
  | some o =>
    rw [s p o n q] at h
    cases h
theorem same_upd {H : Hp} {p : Addr} {o : HO} (h : H p = none) : Same H (upd H p o) := fun b u e => (upd_ne (ne_of_none e h)).trans e
theorem dr_ne_ints {n k : Int} {c : Bool} {xs : List Int} : DrO n k c ≠ .lst (xs.map V.int) := by
  intro z
  unfold DrO at z
  injection z with z
  match xs, z with
  | [_, _, _], z =>
    rw [List.map_cons, List.map_cons, List.map_cons] at z
    injection z with _ z
    injection z with _ z
    injection z with z _
    cases z
theorem dr_ne_refs {n k : Int} {c : Bool} {as : List Addr} : DrO n k c ≠ .lst (as.map V.ref) := by
  intro z
  unfold DrO at z
  injection z with z
  match as, z with
  | a :: _, z =>
    rw [List.map_cons] at z
    injection z with z _
    cases z
section
variable {H H' : Hp} {d a : Addr} {n k : Int} {c : Bool}
theorem LI.but {xs : List Int} (h : LI H a xs) (hd : H d = some (DrO n k c)) (s : But d H H') : LI H' a xs := s a _ (fun z => dr_ne_ints (Option.some.inj (hd.symm.trans (z ▸ h)))) h
theorem Refs.but {as : List Addr} (h : Refs H a as) (hd : H d = some (DrO n k c)) (s : But d H H') : Refs H' a as := s a _ (fun z => dr_ne_refs (Option.some.inj (hd.symm.trans (z ▸ h)))) h
theorem Fam.but {f : List (List Int)} (h : Fam H a f) (hd : H d = some (DrO n k c)) (s : But d H H') : Fam H' a f := let ⟨as, h1, h2⟩ := h; ⟨as, h1.but hd s, Paired.mapP h2 fun _ _ q => q.but hd s⟩
theorem RowA.but {r : List (List (List Int))} (h : RowA H a r) (hd : H d = some (DrO n k c)) (s : But d H H') : RowA H' a r := let ⟨as, h1, h2⟩ := h; ⟨as, h1.but hd s, Paired.mapP h2 fun _ _ q => q.but hd s⟩
theorem LI.same {xs : List Int} (h : LI H a xs) (s : Same H H') : LI H' a xs := s a _ h
theorem Refs.same {as : List Addr} (h : Refs H a as) (s : Same H H') : Refs H' a as := s a _ h
theorem Fam.same {f : List (List Int)} (h : Fam H a f) (s : Same H H') : Fam H' a f := let ⟨as, h1, h2⟩ := h; ⟨as, h1.same s, Paired.mapP h2 fun _ _ q => q.same s⟩
theorem RowA.same {r : List (List (List Int))} (h : RowA H a r) (s : Same H H') : RowA H' a r := let ⟨as, h1, h2⟩ := h; ⟨as, h1.same s, Paired.mapP h2 fun _ _ q => q.same s⟩
end
theorem pget {α β : Type} {R : α → β → Prop} : ∀ {l : List α} {m : List β} {i : Nat} {x : α}, Paired R l m → l[i]? = some x → ∃ y, m[i]? = some y ∧ R x y
  | _, _, _, _, .nil, e => by simp at e
  | _, _, 0, _, .cons r _, e => by simp at e; subst e; exact ⟨_, rfl, r⟩
  | _, _, i + 1, _, .cons _ t, e => by
    obtain ⟨y, h1, h2⟩ := pget (i := i) t (by simpa using e)
    exact ⟨y, by simpa using h1, h2⟩
theorem map_get {α β : Type} {g : α → β} {l : List α} {i : Nat} {y : β} (h : (l.map g)[i]? = some y) : ∃ x, l[i]? = some x ∧ y = g x := by
  rw [List.getElem?_map] at h
  cases e : l[i]? with
  | none => rw [e] at h; cases h
  | some x => rw [e] at h; exact ⟨x, rfl, (Option.some.inj h).symm⟩
theorem get_map {α β : Type} {g : α → β} {l : List α} {i : Nat} {x : α} (h : l[i]? = some x) : (l.map g)[i]? = some (g x) := by rw [List.getElem?_map, h]; rfl

/-! ### as data -/
def dL (xs : List Int) : PyData := .list (xs.map PyData.int)
def dF (f : List (List Int)) : PyData := .list (f.map dL)
def dR (r : List (List (List Int))) : PyData := .list (r.map dF)
section
variable {K : PySem.W.Frag} {H : Hp}
theorem dp_ints : ∀ xs : List Int, DpAll K H (xs.map V.int) (xs.map PyData.int)
  | [] => .nil
  | x :: xs => .cons (.int x) (dp_ints xs)
theorem LI.dp {a : Addr} {xs : List Int} (h : LI H a xs) : Dp K H (.ref a) (dL xs) := .lst (SqL.of h) (dp_ints xs)
theorem dp_all {α : Type} {R : Addr → α → Prop} {dv : α → PyData} (g : ∀ a x, R a x → Dp K H (.ref a) (dv x)) : ∀ {as : List Addr} {xs : List α}, Paired R as xs → DpAll K H (as.map V.ref) (xs.map dv)
  | _, _, .nil => .nil
  | _, _, .cons r t => .cons (g _ _ r) (dp_all g t)
theorem Fam.dp {a : Addr} {f : List (List Int)} (h : Fam H a f) : Dp K H (.ref a) (dF f) := let ⟨_, h1, h2⟩ := h; .lst (SqL.of h1) (dp_all (fun _ _ q => q.dp) h2)
theorem RowA.dp {a : Addr} {r : List (List (List Int))} (h : RowA H a r) : Dp K H (.ref a) (dR r) := let ⟨_, h1, h2⟩ := h; .lst (SqL.of h1) (dp_all (fun _ _ q => q.dp) h2)
end
end Kt


set_option autoImplicit true
set_option Elab.async false
set_option linter.all false
set_option maxRecDepth 100000
set_option maxHeartbeats 4000000
/-! Data of a bounded depth and text: for repr and == . -/
namespace Kt
open PySem L2 PyProof.Rows
structure Ok (D m : Nat) (d : PyData) : Prop where
  lay : PyData.canLay0 d = true
  shw : PyData.showable d = true
  nod : PyData.hasDict d = false
  dep : PyData.depth d ≤ D
  len : (PyData.shown d).length ≤ m
theorem Ok.mono {D D' m m' : Nat} {d : PyData} (h : Ok D m d) (h1 : D ≤ D') (h2 : m ≤ m') : Ok D' m' d := ⟨h.lay, h.shw, h.nod, Nat.le_trans h.dep h1, Nat.le_trans h.len h2⟩
theorem ok_all {D m : Nat} : ∀ ds : List PyData, (∀ d ∈ ds, Ok D m d) → PyData.canLayAll0 ds = true ∧ PyData.showableAll ds = true ∧ PyData.hasDictAll ds = false ∧ PyData.depthAll ds ≤ D ∧ ((PyData.shownAll ds).map (·.length)).sum ≤ ds.length * m ∧ (PyData.shownAll ds).length = ds.length
  | [], _ => by simp [PyData.canLayAll0, PyData.showableAll, PyData.hasDictAll, PyData.depthAll, PyData.shownAll]
  | d :: ds, h => by
    have a := h d List.mem_cons_self
    obtain ⟨h1, h2, h3, h4, h5, h6⟩ := ok_all ds fun x hx => h x (List.mem_cons_of_mem _ hx)
    refine ⟨?_, ?_, ?_, ?_, ?_, ?_⟩
    · rw [PyData.canLayAll0, a.lay, h1]; rfl
    · rw [PyData.showableAll, a.shw, h2]; rfl
    · rw [PyData.hasDictAll, a.nod, h3]; rfl
    · rw [PyData.depthAll]
      exact Nat.max_le.mpr ⟨a.dep, h4⟩
    · rw [PyData.shownAll, List.map_cons, List.sum_cons, List.length_cons, Nat.succ_mul]
      have := a.len
      omega
    · rw [PyData.shownAll, List.length_cons, List.length_cons, h6]
theorem ok_list {D m : Nat} {ds : List PyData} (h : ∀ d ∈ ds, Ok D m d) : Ok (D + 1) (ds.length * (m + 2) + 3) (.list ds) := by
  obtain ⟨h1, h2, h3, h4, h5, h6⟩ := ok_all ds h
  refine ⟨?_, ?_, ?_, ?_, ?_⟩
  · rw [PyData.canLay0]; exact h1
  · rw [PyData.showable]; exact h2
  · rw [PyData.hasDict]; exact h3
  · rw [PyData.depth]; omega
  · rw [PyData.shown]
    have := listText_len_le (PyData.shownAll ds)
    rw [h6] at this
    rw [Nat.mul_add]
    omega
def Small (x : Int) : Prop := x.natAbs < 10 ^ 61
theorem ok_int {x : Int} (h : Small x) : Ok 0 62 (.int x) := by
  refine ⟨by rw [PyData.canLay0], ?_, by rw [PyData.hasDict], by rw [PyData.depth]; exact Nat.le_refl _, ?_⟩
  · rw [PyData.showable]
    refine decide_eq_true ?_
    by_cases z : x.natAbs = 0
    · rw [z]; decide
    · refine (Nat.log2_lt z).mpr (Nat.lt_trans h (by decide +kernel))
  · rw [PyData.shown]
    have := int_text_length_le10 (k := 61) (by decide) h
    show (Str.ofString (toString x)).length ≤ 62
    rw [PySem.ofString_length]
    exact this
theorem ok_dL {xs : List Int} {n : Nat} (hl : xs.length ≤ n) (h : ∀ x ∈ xs, Small x) : Ok 1 (n * 64 + 3) (dL xs) := by
  have z := ok_list (D := 0) (m := 62) (ds := xs.map PyData.int) fun d hd => by
    obtain ⟨x, hx, rfl⟩ := List.mem_map.mp hd
    exact ok_int (h x hx)
  refine z.mono (Nat.le_refl _) ?_
  rw [List.length_map]
  have := Nat.mul_le_mul_right 64 hl
  omega
theorem small_of {x : Int} {n : Nat} (h1 : 1 ≤ x) (h2 : x ≤ (n : Int)) (hn : n ≤ 40) : Small x := by
  unfold Small
  have : x.natAbs ≤ 40 := by omega
  exact Nat.lt_of_le_of_lt this (by decide +kernel)
theorem chain_len {n : Nat} {f : List (List Int)} (v : Valid n f) {c : List Int} (hc : c ∈ f) : c.length ≤ n := by
  refine nodup_le n c ?_ fun x hx => v.rg x (flatten_mem hc hx)
  have nd := v.nd
  clear v
  induction f with
  | nil => cases hc
  | cons d f ih =>
    rw [List.flatten_cons] at nd
    obtain ⟨n1, n2, _⟩ := List.nodup_append.mp nd
    rcases List.mem_cons.mp hc with e | e
    · rw [e]; exact n1
    · exact ih e n2
theorem ok_dF {n : Nat} {f : List (List Int)} (v : Valid n f) (hn : n ≤ 40) {m : Nat} (hl : f.length ≤ m) : Ok 2 (m * 2565 + 3) (dF f) := by
  have z := ok_list (D := 1) (m := 2563) (ds := f.map dL) fun d hd => by
    obtain ⟨c, hc, rfl⟩ := List.mem_map.mp hd
    exact ok_dL (n := 40) (Nat.le_trans (chain_len v hc) hn) fun x hx => by
      obtain ⟨h1, h2⟩ := v.rg x (flatten_mem hc hx)
      exact small_of h1 h2 hn
  refine z.mono (Nat.le_refl _) ?_
  rw [List.length_map]
  have := Nat.mul_le_mul_right 2565 hl
  omega
theorem ok_dR {n : Nat} {r : List (List (List Int))} (v : ∀ f ∈ r, Valid n f) (hn : n ≤ 40) (hm : ∀ f ∈ r, f.length ≤ 80) (hl : r.length ≤ 10) : Ok 3 2052063 (dR r) := by
  have z := ok_list (D := 2) (m := 205203) (ds := r.map dF) fun d hd => by
    obtain ⟨f, hf, rfl⟩ := List.mem_map.mp hd
    exact ok_dF (v f hf) hn (hm f hf)
  have e : (r.map dF).length * (205203 + 2) + 3 ≤ 2052063 := by
    rw [List.length_map]
    omega
  exact z.mono (by decide) e
theorem ok_two {D m : Nat} {d e : PyData} (h : Ok D m d) (h' : Ok D m e) : Ok (D + 1) (2 * (m + 2) + 3) (.list [d, e]) := ok_list (ds := [d, e]) fun x hx => by
  rcases List.mem_cons.mp hx with rfl | hx
  · exact h
  · rcases List.mem_cons.mp hx with rfl | hx
    · exact h'
    · cases hx
theorem shaped_of {D m : Nat} {d : PyData} (h : Ok D m d) (hD : D ≤ 60) : SeqAt.shaped d = true := by
  unfold SeqAt.shaped
  rw [h.lay, Bool.true_and]
  exact decide_eq_true (by have := h.dep; omega)
theorem shaped_dL (xs : List Int) : SeqAt.shaped (dL xs) = true := by
  have a : ∀ l : List Int, PyData.canLayAll0 (l.map PyData.int) = true ∧ PyData.depthAll (l.map PyData.int) = 0 := by
    intro l
    induction l with
    | nil => exact ⟨by rw [List.map_nil, PyData.canLayAll0], by rw [List.map_nil, PyData.depthAll]⟩
    | cons x l ih =>
      obtain ⟨h1, h2⟩ := ih
      exact ⟨by rw [List.map_cons, PyData.canLayAll0, h1, PyData.canLay0]; rfl, by rw [List.map_cons, PyData.depthAll, h2, PyData.depth]; rfl⟩
  obtain ⟨h1, h2⟩ := a xs
  unfold SeqAt.shaped dL
  rw [PyData.canLay0, h1, PyData.depth, h2]
  rfl
theorem eqv_dL (xs ys : List Int) : PyData.eqv (dL xs) (dL ys) = decide (xs = ys) := by
  unfold dL
  rw [PyData.eqv]
  induction xs generalizing ys with
  | nil =>
    cases ys with
    | nil => rw [List.map_nil, PyData.eqvAll]; rfl
    | cons y ys => rw [List.map_nil, List.map_cons, PyData.eqvAll]; rfl
  | cons x xs ih =>
    cases ys with
    | nil => rw [List.map_nil, List.map_cons, PyData.eqvAll]; rfl
    | cons y ys =>
      rw [List.map_cons, List.map_cons, PyData.eqvAll, ih, PyData.eqv]
      by_cases h : x = y
      · subst h
        by_cases h2 : xs = ys
        · subst h2; simp
        · simp [h2]
      · simp [h]
theorem seqIndex_of {n : Nat} {i : Int} (h0 : 0 ≤ i) (h1 : i < (n : Int)) : seqIndex? i n = some i.toNat := by
  have h2 : ¬ i < 0 := by omega
  unfold seqIndex?
  simp [h2, h0, h1]
end Kt


set_option autoImplicit true
set_option Elab.async false
set_option linter.all false
set_option maxRecDepth 100000
set_option maxHeartbeats 4000000
/-! What the laws' draws need: what stands but some, how far the draws went, small tables, popping. -/
namespace Kt
open PySem L2 PyProof.Rows
def ButL (ds : List Addr) (H H' : Hp) : Prop := ∀ b o, b ∉ ds → H b = some o → H' b = some o
theorem ButL.refl (ds : List Addr) (H : Hp) : ButL ds H H := fun _ _ _ e => e
theorem ButL.trans {ds : List Addr} {H H1 H2 : Hp} (a : ButL ds H H1) (b : ButL ds H1 H2) : ButL ds H H2 := fun c o n e => b c o n (a c o n e)
theorem ButL.same {ds : List Addr} {H H' : Hp} (s : Same H H') : ButL ds H H' := fun b o _ e => s b o e
theorem ButL.upd {ds : List Addr} {d : Addr} {H : Hp} {o : HO} (h : d ∈ ds) : ButL ds H (L2.upd H d o) := fun b u n e => (upd_ne (fun z => n (by rw [z]; exact h))).trans e
theorem ButL.new {ds : List Addr} {d : Addr} {H : Hp} {o : HO} (h : H d = none) : ButL ds H (L2.upd H d o) := fun b u n e => (upd_ne (ne_of_none e h)).trans e
theorem ButL.mono {ds es : List Addr} {H H' : Hp} (a : ButL ds H H') (h : ∀ x ∈ ds, x ∈ es) : ButL es H H' := fun b o n e => a b o (fun z => n (h b z)) e
theorem But.list {d : Addr} {H H' : Hp} (a : But d H H') : ButL [d] H H' := fun b o n e => a b o (fun z => n (by simp [z])) e
/-- behind H0, all but d stands; d holds the draws, as many more as told -/
def DrAt (H0 H : Hp) (d : Addr) (c : Bool) (lo hi : Int) : Prop := But d H0 H ∧ ∃ n k, H d = some (DrO n k c) ∧ lo ≤ k ∧ k ≤ hi
theorem DrAt.start {H : Hp} {d : Addr} {c : Bool} {n k : Int} (h : H d = some (DrO n k c)) : DrAt H H d c k k := ⟨But.refl _ _, n, k, h, Int.le_refl _, Int.le_refl _⟩
theorem DrAt.mono {H0 H : Hp} {d : Addr} {c : Bool} {lo lo' hi hi' : Int} (a : DrAt H0 H d c lo hi) (h1 : lo' ≤ lo) (h2 : hi ≤ hi') : DrAt H0 H d c lo' hi' := let ⟨b, n, k, e, x, y⟩ := a; ⟨b, n, k, e, by omega, by omega⟩
/-- a draw -/
theorem But.draw {H0 H : Hp} {d : Addr} {o : HO} (b : But d H0 H) : But d H0 (L2.upd H d o) := b.trans But.upd
/-- a new object -/
theorem But.new {H0 H : Hp} {d p : Addr} {o : HO} (b : But d H0 H) (h : H p = none) : But d H0 (L2.upd H p o) := b.trans (But.same (same_upd h))
/-- what was new is written -/
theorem But.own {H0 H : Hp} {d p : Addr} {o : HO} (b : But d H0 H) (h : H0 p = none) : But d H0 (L2.upd H p o) := fun x u n e => (upd_ne (ne_of_none e h)).trans (b x u n e)

theorem tab3 {x y z : Int} {i : Int} (h0 : 0 ≤ i) (h1 : i < 3) : ∃ m, atI [V.int x, V.int y, V.int z] i = some (.int m) ∧ (m = x ∨ m = y ∨ m = z) := by
  have e : i = 0 ∨ i = 1 ∨ i = 2 := by omega
  rcases e with rfl | rfl | rfl
  · exact ⟨x, rfl, .inl rfl⟩
  · exact ⟨y, rfl, .inr (.inl rfl)⟩
  · exact ⟨z, rfl, .inr (.inr rfl)⟩
theorem tab2 {x y : Int} {i : Int} (h0 : 0 ≤ i) (h1 : i < 2) : ∃ m, atI [V.int x, V.int y] i = some (.int m) ∧ (m = x ∨ m = y) := by
  have e : i = 0 ∨ i = 1 := by omega
  rcases e with rfl | rfl
  · exact ⟨x, rfl, .inl rfl⟩
  · exact ⟨y, rfl, .inr rfl⟩
theorem small_mul {u s : Int} (hu : u.natAbs ≤ 1000003) (hs : s = 1 ∨ s = (10 : Int) ^ (53 : Int).toNat) : Small (u * s) := by
  unfold Small
  rw [Int.natAbs_mul]
  have hs' : s.natAbs ≤ 10 ^ 53 := by
    rcases hs with rfl | rfl
    · decide +kernel
    · decide +kernel
  exact Nat.lt_of_le_of_lt (Nat.mul_le_mul hu hs') (by decide +kernel)
/-- the ints from a on, below b -/
def upto (a b : Int) : List Int := (List.range (b - a).toNat).map fun i => a + (i : Nat)
theorem rgV_upto (a b : Int) : rgV a b = (upto a b).map V.int := by
  unfold rgV upto
  rw [List.map_map]
  rfl
theorem upto_len (a b : Int) : (upto a b).length = (b - a).toNat := by unfold upto; rw [List.length_map, List.length_range]
theorem upto_mem {a b x : Int} (h : x ∈ upto a b) : a ≤ x ∧ x < b := by
  unfold upto at h
  obtain ⟨i, hi, rfl⟩ := List.mem_map.mp h
  rw [List.mem_range] at hi
  omega
theorem upto_nodup (a b : Int) : (upto a b).Nodup := by
  unfold upto
  rw [List.Nodup, List.pairwise_map]
  exact List.pairwise_lt_range.imp fun {i j} h => by omega
theorem pop_perm : ∀ {L : List Int} {i : Nat} {x : Int}, L[i]? = some x → (x :: L.eraseIdx i).Perm L
  | [], _, _, h => by simp at h
  | y :: L, 0, x, h => by
    simp at h
    subst h
    exact .refl _
  | y :: L, i + 1, x, h => by
    rw [List.eraseIdx_cons_succ]
    exact (List.Perm.swap y x _).trans ((pop_perm (L := L) (i := i) (by simpa using h)).cons y)
theorem map_erase : ∀ {L : List Int} {i : Nat}, (L.map V.int).eraseIdx i = (L.eraseIdx i).map V.int
  | [], _ => rfl
  | _ :: _, 0 => rfl
  | y :: L, i + 1 => by
    rw [List.map_cons, List.eraseIdx_cons_succ, List.eraseIdx_cons_succ, List.map_cons, map_erase]
/-- the length of the list that a slot names -/
def lenAt (H : Hp) : Option V → Nat
  | some (.ref a) => match H a with
    | some (.lst xs) => xs.length
    | _ => 0
  | _ => 0
theorem lenAt_of {H : Hp} {a : Addr} {L : List Int} (h : LI H a L) : lenAt H (some (.ref a)) = L.length := by
  have h' : H a = some (.lst (L.map V.int)) := h
  unfold lenAt
  simp only [h', List.length_map]
theorem empty_eqv (L : List Int) : PyData.eqv (dL L) (.list []) = decide (L = []) := eqv_dL L []
theorem dp_empty {K : PySem.W.Frag} {H : Hp} {q : Addr} (h : H q = some (.lst [])) : Dp K H (.ref q) (.list []) := .lst (SqL.of h) .nil
/-- left != [] asked -/
theorem mono_ne {K : PySem.W.Frag} {i : Nat} (σ : L2.St) (H : Hp) (Q Q' : Bool → Hp → Prop) (hq : ∀ b H1, Q b H1 → Q' b H1) (h : tTest (tOp (rNeD K) (tVar i) (tLst tNil)) σ H Q) : tTest (tOp (rNeD K) (tVar i) (tLst tNil)) σ H Q' := by
  obtain ⟨v, e, z, f⟩ := h
  refine ⟨v, e, z, fun p hp => ?_⟩
  obtain ⟨d1, d2, a1, a2, a3, a4, k, ek, q⟩ := f p hp
  exact ⟨d1, d2, a1, a2, a3, a4, k, ek, hq _ _ q⟩
theorem ask_ne {K : PySem.W.Frag} {i : Nat} {σ : L2.St} {H : Hp} {Q : Bool → Hp → Prop} {l : Addr} {L : List Int} (hs : σ[i]? = some (some (.ref l))) (hL : LI H l L) (h : ∀ q, H q = none → Q (!decide (L = [])) (upd H q (.lst []))) :
    tTest (tOp (rNeD K) (tVar i) (tLst tNil)) σ H Q := by
  refine ⟨_, hs, Nat.zero_le _, fun q hq => ?_⟩
  refine ⟨dL L, .list [], (hL.same (same_upd hq)).dp, dp_empty upd_same, shaped_dL L, rfl, ?_⟩
  rw [empty_eqv]
  exact ⟨_, rfl, h q hq⟩
end Kt


set_option autoImplicit true
set_option Elab.async false
set_option linter.all false
set_option maxRecDepth 100000
set_option maxHeartbeats 4000000
/-! Families of gaps and of stretches are families. -/
namespace Kt
open PySem L2 PyProof.Rows
def stepI (a c : Int) (m : Nat) : List Int := (List.range m).map fun i => a + (i : Nat) * c
theorem stepV_eq (a c : Int) (m : Nat) : stepV a c m = (stepI a c m).map V.int := by
  unfold stepV stepI
  rw [List.map_map]
  rfl
/-- how many of a, a + c, .. lie below b -/
def cnt (a b c : Int) : Nat := (if a < b then (b - a - 1) / c + 1 else 0).toNat
theorem rgC_of {a b c : Int} (ha : -1000 ≤ a) (ha' : a ≤ 1000) (hb : -1000 ≤ b) (hb' : b ≤ 1000) (hc : 1 ≤ c) (hc' : c ≤ 1000) : RgC a b c (cnt a b c) := by
  have e : Builtin.Range.rangeSize a b c = if a < b then (b - a - 1) / c + 1 else 0 := by
    unfold Builtin.Range.rangeSize
    rw [if_pos (show c > 0 by omega)]
  have q0 : a < b → 0 ≤ (b - a - 1) / c := fun h => Int.ediv_nonneg (by omega) (by omega)
  have q1 : a < b → (b - a - 1) / c ≤ b - a - 1 := fun h => Int.ediv_le_self _ (by omega)
  refine ⟨by omega, by omega, ?_, ?_⟩
  · unfold Builtin.Range.small
    rw [e]
    simp only [Builtin.Range.rangeFitsLong, Bool.and_eq_true, Bool.or_eq_true, decide_eq_true_eq, beq_iff_eq, show c > 0 by omega, if_true]
    split
    · rename_i h
      have := q0 h
      have := q1 h
      omega
    · omega
  · rw [e]
    unfold cnt
    split
    · rename_i h
      have := q0 h
      omega
    · rfl
theorem cnt_le {a b c : Int} (hc : 1 ≤ c) : cnt a b c ≤ (b - a).toNat := by
  unfold cnt
  split
  · rename_i h
    have : (b - a - 1) / c ≤ b - a - 1 := Int.ediv_le_self _ (by omega)
    omega
  · exact Nat.zero_le _
theorem step_lt {a b c : Int} (hc : 1 ≤ c) {i : Nat} (hi : i < cnt a b c) : a + (i : Int) * c < b := by
  unfold cnt at hi
  split at hi
  · rename_i h
    have h1 : (i : Int) ≤ (b - a - 1) / c := by omega
    have h2 : (i : Int) * c ≤ b - a - 1 := by
      have := Int.mul_le_mul_of_nonneg_right h1 (show 0 ≤ c by omega)
      have h3 := Int.ediv_mul_le (b - a - 1) (show c ≠ 0 by omega)
      omega
    omega
  · exact absurd hi (Nat.not_lt_zero _)
theorem step_mem {a b c x : Int} (hc : 1 ≤ c) (h : x ∈ stepI a c (cnt a b c)) : a ≤ x ∧ x < b ∧ ∃ i : Nat, x = a + (i : Int) * c := by
  unfold stepI at h
  obtain ⟨i, hi, rfl⟩ := List.mem_map.mp h
  rw [List.mem_range] at hi
  have : 0 ≤ (i : Int) * c := Int.mul_nonneg (by omega) (by omega)
  exact ⟨by omega, step_lt hc hi, i, rfl⟩
theorem step_nodup {a c : Int} (hc : 1 ≤ c) (m : Nat) : (stepI a c m).Nodup := by
  unfold stepI
  rw [List.Nodup, List.pairwise_map]
  refine List.pairwise_lt_range.imp fun {i j} h => ?_
  intro e
  have h1 : (i : Int) * c = (j : Int) * c := by omega
  have h2 : (i : Int) = (j : Int) := Int.eq_of_mul_eq_mul_right (by omega) h1
  omega
/-- the family of a gap -/
def gapFam (n : Nat) (g : Int) : List (List Int) := (List.range g.toNat).map fun i => stepI (1 + (i : Nat)) g (cnt (1 + (i : Nat)) ((n : Int) + 1) g)
theorem valid_gap {n : Nat} {g : Int} (h1 : 1 ≤ g) : Valid n (gapFam n g) := by
  refine ⟨?_, fun x hx => ?_⟩
  · unfold gapFam
    rw [List.Nodup, List.pairwise_flatten]
    refine ⟨fun l hl => ?_, ?_⟩
    · obtain ⟨i, hi, rfl⟩ := List.mem_map.mp hl
      exact step_nodup h1 _
    · rw [List.pairwise_map]
      refine (List.Pairwise.and_mem.mp List.pairwise_lt_range).imp ?_
      rintro i j ⟨hi, hj, hij⟩ x hx y hy rfl
      rw [List.mem_range] at hi hj
      obtain ⟨_, _, p, e1⟩ := step_mem h1 hx
      obtain ⟨_, _, q, e2⟩ := step_mem h1 hy
      have m1 : ((i : Int) + (p : Int) * g) % g = (i : Int) := by rw [Int.add_mul_emod_self_right]; exact Int.emod_eq_of_lt (by omega) (by omega)
      have m2 : ((j : Int) + (q : Int) * g) % g = (j : Int) := by rw [Int.add_mul_emod_self_right]; exact Int.emod_eq_of_lt (by omega) (by omega)
      have e3 : (i : Int) + (p : Int) * g = (j : Int) + (q : Int) * g := by omega
      rw [e3, m2] at m1
      omega
  · obtain ⟨l, hl, hx⟩ := List.mem_flatten.mp hx
    obtain ⟨i, hi, rfl⟩ := List.mem_map.mp hl
    obtain ⟨a, b, _⟩ := step_mem h1 hx
    omega
/-- the stretches of a width -/
def wideFam (n : Nat) (w : Int) : List (List Int) := (List.range (cnt 1 ((n : Int) + 1) w)).map fun i => upto (1 + (i : Nat) * w) ((if 1 + (i : Nat) * w + w - 1 < (n : Int) then 1 + (i : Nat) * w + w - 1 else (n : Int)) + 1)
theorem valid_wide {n : Nat} {w : Int} (h1 : 1 ≤ w) : Valid n (wideFam n w) := by
  refine ⟨?_, fun x hx => ?_⟩
  · unfold wideFam
    rw [List.Nodup, List.pairwise_flatten]
    refine ⟨fun l hl => ?_, ?_⟩
    · obtain ⟨i, hi, rfl⟩ := List.mem_map.mp hl
      exact upto_nodup _ _
    · rw [List.pairwise_map]
      refine List.pairwise_lt_range.imp ?_
      rintro i j hij x hx y hy rfl
      obtain ⟨a1, a2⟩ := upto_mem hx
      obtain ⟨b1, b2⟩ := upto_mem hy
      have h3 : ((i : Int) + 1) * w ≤ (j : Int) * w := Int.mul_le_mul_of_nonneg_right (by omega) (by omega)
      rw [Int.add_mul, Int.one_mul] at h3
      split at a2 <;> omega
  · obtain ⟨l, hl, hx⟩ := List.mem_flatten.mp hx
    obtain ⟨i, hi, rfl⟩ := List.mem_map.mp hl
    obtain ⟨a, b⟩ := upto_mem hx
    have : 0 ≤ (i : Int) * w := Int.mul_nonneg (by omega) (by omega)
    split at b <;> omega
theorem gap_len {n : Nat} {g : Int} : (gapFam n g).length = g.toNat := by unfold gapFam; rw [List.length_map, List.length_range]
theorem wide_len {n : Nat} {w : Int} (h1 : 1 ≤ w) : (wideFam n w).length ≤ n := by
  unfold wideFam
  rw [List.length_map, List.length_range]
  have := cnt_le (a := 1) (b := (n : Int) + 1) h1
  omega
theorem paired_snoc {R : Addr → List Int → Prop} {as : List Addr} {f : List (List Int)} {a : Addr} {c : List Int} (p : Paired R as f) (h : R a c) : Paired R (as ++ [a]) (f ++ [c]) := p.snoc h
end Kt


set_option autoImplicit true
set_option Elab.async false
set_option linter.all false
set_option maxRecDepth 100000
set_option maxHeartbeats 4000000
/-! More of the layer: places of lists, tails, keywords, texts, displays. -/
namespace Kt
open PySem L2 PyProof.Rows
theorem tyes {σ : L2.St} {H : Hp} {A B : Hp → Prop} (h : A H) : tYes σ H (fun b H3 => if b = true then A H3 else B H3) := by
  show if true = true then A H else B H
  exact iteT h
theorem ixN_of {n : Nat} {i : Int} (h0 : 0 ≤ i) (h1 : i < (n : Int)) : ixN n i = some i.toNat := by
  unfold ixN
  rw [if_pos h0, if_pos h1]
theorem atI_of {α : Type} {xs : List α} {i : Int} {v : α} (h0 : 0 ≤ i) (h : xs[i.toNat]? = some v) : atI xs i = some v := by
  have := atI_nat h
  rw [Int.toNat_of_nonneg h0] at this
  exact this
/-- a list at r, made behind H0 -/
def RAt (H0 H : Hp) (r : Addr) (xs : List Int) : Prop := Same H0 H ∧ H0 r = none ∧ LI H r xs
theorem same_but {r : Addr} {H0 H1 H2 : Hp} (s : Same H0 H1) (h : H0 r = none) (b : But r H1 H2) : Same H0 H2 := fun c o e => b c o (ne_of_none e h) (s c o e)
theorem li_set {H : Hp} {r : Addr} {xs : List Int} {j : Nat} {v : Int} : LI (upd H r (.lst ((xs.map V.int).set j (V.int v)))) r (xs.set j v) := by
  unfold LI
  rw [upd_same, List.map_set]
theorem li_len {xs : List Int} : (xs.map V.int).length = xs.length := List.length_map _
theorem valid_chain {n : Nat} {f : List (List Int)} (v : Valid n f) {i : Nat} {c : List Int} (h : f[i]? = some c) : ∀ x ∈ c, 1 ≤ x ∧ x ≤ (n : Int) := fun x hx => v.rg x (flatten_mem (List.mem_of_getElem? h) hx)
end Kt

namespace Kt
open PySem L2 PyProof.Rows
theorem cut_tail (xs : List Int) : cutV (xs.map V.int) (some 1) none = xs.tail.map V.int := by
  unfold cutV
  have e1 : HT.sIx (xs.map V.int).length 0 (some 1) = min 1 xs.length := by
    have := HT.sIx_nat (xs.map V.int).length 0 1
    rw [List.length_map] at this
    rw [List.length_map]
    exact this
  have e2 : HT.sIx (xs.map V.int).length (xs.map V.int).length none = xs.length := by
    rw [List.length_map]
    rfl
  rw [e1, e2]
  cases xs with
  | nil => rfl
  | cons x xs =>
    have z : min 1 (x :: xs).length = 1 := by rw [List.length_cons]; omega
    rw [z, List.map_cons, List.drop_succ_cons, List.drop_zero, List.take_of_length_le (by rw [List.length_map, List.length_cons]; omega)]
    rfl
/-- the i-th pair of neighbours -/
theorem pair_at {c : List Int} {i : Nat} {p q : Int} (hp : c[i]? = some p) (hq : c.tail[i]? = some q) : (c.zip c.tail)[i]? = some (p, q) := by
  rw [List.getElem?_zip_eq_some]
  exact ⟨hp, hq⟩
theorem all_step {α : Type} {g : α → Bool} {l : List α} {i : Nat} {x : α} (h : l[i]? = some x) : (l.take (i + 1)).all g = ((l.take i).all g && g x) := by
  rw [List.take_add_one, h, Option.toList_some, List.all_append]
  simp
theorem all_false {α : Type} {g : α → Bool} {l : List α} {x : α} (h : x ∈ l) (hx : g x = false) : l.all g = false := by
  cases e : l.all g with
  | false => rfl
  | true => rw [List.all_eq_true.mp e x h] at hx; cases hx
theorem tail_mem {c : List Int} {i : Nat} {q : Int} (h : c.tail[i]? = some q) : q ∈ c := List.mem_of_mem_tail (List.mem_of_getElem? h)
end Kt

namespace Kt
open PySem L2 PyProof.Rows
/-! two arguments by keywords, the other way round -/
def sw {α : Type} : List α → List α → List α
  | [], [x, y] => [y, x]
  | _, _ => []
theorem sw_rel {vs : List V} {us : List Value} {zs : List V} {ws : List Value} (r : Vals vs us) (q : Vals zs ws) : Vals (sw vs zs) (sw us ws) := by
  cases r with
  | cons _ _ => exact .nil
  | nil =>
    cases q with
    | nil => exact .nil
    | cons q1 q =>
      cases q with
      | nil => exact .nil
      | cons q2 q =>
        cases q with
        | nil => exact .cons q2 (.cons q1 .nil)
        | cons _ _ => exact .nil
theorem kb_sw {K : PySem.W.Frag} {x qual : Str} {st : Stmt} {f : Addr} {fd : FuncData} {a b : Str} (F : Fun K x qual st f fd)
    (h : ∀ (kV doc pm : Value) (an : Option Addr) (cdv ct : Value) (u v : Value), bindArgs (PySem.W.fnOf x qual (defArgs st) (defBody st) (defScope st) .none kV doc pm an cdv ct) ⟨[], [(b, u), (a, v)]⟩ = pure [(a, v), (b, u)]) :
    KBinds K fd [a, b] [b, a] sw sw := by
  obtain ⟨oc, od, kV, doc, pm, an, cdv, ct, osl, rfl, lk, hcd⟩ := F.ex
  refine ⟨fun s us ws hK hl => ?_, fun r q => sw_rel r q⟩
  match us, ws, hl with
  | [], [u, v], _ => exact .of_eq (h kV doc pm an cdv ct u v)
/-! data of truth values -/
theorem ok_bl (b : Bool) : Ok 0 5 (.bool b) := by
  refine ⟨by rw [PyData.canLay0], by rw [PyData.showable], by rw [PyData.hasDict], by rw [PyData.depth]; exact Nat.le_refl _, ?_⟩
  rw [PyData.shown]
  cases b <;> decide +kernel
theorem ok_three {D m : Nat} {d e f : PyData} (h : Ok D m d) (h' : Ok D m e) (h2 : Ok D m f) : Ok (D + 1) (3 * (m + 2) + 3) (.list [d, e, f]) := ok_list (ds := [d, e, f]) fun x hx => by
  rcases List.mem_cons.mp hx with rfl | hx
  · exact h
  · rcases List.mem_cons.mp hx with rfl | hx
    · exact h'
    · rcases List.mem_cons.mp hx with rfl | hx
      · exact h2
      · cases hx
/-- the text of a list of things -/
def txt (ds : List PyData) : Str := PyData.shown (.list ds)
/-- repr(x), x a list that stands -/
theorem repr_of {K : PySem.W.Frag} {H : Hp} {p : Addr} {ds : List PyData} {D m : Nat} {Q : VK} (h : Dp K H (.ref p) (.list ds)) (ok : Ok D m (.list ds)) (hD : D ≤ 60) (hm : m ≤ 16000000) (q : Q (.str (txt ds)) H) : rReprD K [.ref p] H Q := by
  unfold rReprD
  exact ⟨p, ds, rfl, h, ok.shw, ok.nod, Nat.le_trans ok.dep hD, Nat.le_trans ok.len (by rw [sizeLine_eq]; omega), q⟩
theorem dp_two {K : PySem.W.Frag} {H : Hp} {p : Addr} {x y : V} {d e : PyData} (h : H p = some (.lst [x, y])) (h1 : Dp K H x d) (h2 : Dp K H y e) : Dp K H (.ref p) (.list [d, e]) := .lst (SqL.of h) (.cons h1 (.cons h2 .nil))
theorem dp_three {K : PySem.W.Frag} {H : Hp} {p : Addr} {x y z : V} {d e f : PyData} (h : H p = some (.lst [x, y, z])) (h1 : Dp K H x d) (h2 : Dp K H y e) (h3 : Dp K H z f) : Dp K H (.ref p) (.list [d, e, f]) := .lst (SqL.of h) (.cons h1 (.cons h2 (.cons h3 .nil)))
theorem iteSS {A B : Prop} {x : V} (h : B) : if (!decide (x = x)) = true then A else B := iteNS rfl h
/-- all ints small -/
def Smalls (xs : List Int) : Prop := ∀ x ∈ xs, Small x
theorem at1_mem {load : List Int} {p : Int} (h1 : 1 ≤ p) (h2 : p ≤ (load.length : Int)) : at1 load p ∈ load := List.mem_of_getElem? (at1_get h1 h2)
theorem put_small (l : List (Int × Int)) : ∀ r : List Int, Smalls r → (∀ q ∈ l, Small q.2) → Smalls (l.foldl put1 r) := by
  induction l with
  | nil => intro r h _; exact h
  | cons q l ih =>
    intro r h hq
    refine ih _ (fun x hx => ?_) fun y hy => hq y (List.mem_cons_of_mem _ hy)
    rcases List.mem_or_eq_of_mem_set hx with h1 | h1
    · exact h x h1
    · rw [h1]
      exact hq q List.mem_cons_self
theorem along_small {load : List Int} (hs : Smalls load) (c : List Int) (hc : ∀ x ∈ c, 1 ≤ x ∧ x ≤ (load.length : Int)) (r : List Int) (hr : Smalls r) : Smalls (along1 load r c) := by
  refine put_small _ _ hr fun q hq => ?_
  have h2 := (List.of_mem_zip hq).2
  have h3 := (srt_perm _).mem_iff.mp h2
  obtain ⟨p, hp, e⟩ := List.mem_map.mp h3
  rw [← e]
  exact hs _ (at1_mem (hc p hp).1 (hc p hp).2)
theorem sortAlong_small {load : List Int} (hs : Smalls load) {f : List (List Int)} (v : Valid load.length f) : Smalls (sortAlong load f) := by
  unfold sortAlong
  have rg := v.rg
  clear v
  have : ∀ r : List Int, Smalls r → Smalls (f.foldl (along1 load) r) := by
    induction f with
    | nil => intro r h; exact h
    | cons c f ih =>
      intro r h
      rw [List.flatten_cons] at rg
      exact ih (fun x hx => rg x (List.mem_append_right _ hx)) _ (along_small hs c (fun x hx => rg x (List.mem_append_left _ hx)) r h)
  exact this load hs
theorem afterRow_small : ∀ (r : List (List (List Int))) (load : List Int), Smalls load → (∀ f ∈ r, Valid load.length f) → Smalls (afterRow load r)
  | [], _, h, _ => h
  | f :: r, load, h, v => by
    have e : afterRow load (f :: r) = afterRow (sortAlong load f) r := rfl
    rw [e]
    exact afterRow_small r _ (sortAlong_small h (v f List.mem_cons_self)) fun g hg => by rw [sortAlong_len]; exact v g (List.mem_cons_of_mem _ hg)
end Kt

namespace Kt
open PySem L2 PyProof.Rows
theorem cut_take (xs : List V) (k : Nat) : cutV xs none (some (k : Int)) = xs.take k := by
  unfold cutV
  have e1 : HT.sIx xs.length 0 none = 0 := rfl
  have e2 : HT.sIx xs.length xs.length (some (k : Int)) = min k xs.length := HT.sIx_nat ..
  rw [e1, e2, List.drop_zero, Nat.sub_zero]
  rw [Nat.min_def]
  split
  · rfl
  · rw [List.take_length]
    exact (List.take_of_length_le (by omega)).symm
theorem srt2 (a b : Int) : srt [a, b] = if a ≤ b then [a, b] else [b, a] := by
  split
  · rename_i h
    exact (srt_of (.refl _) (List.pairwise_pair.mpr h)).symm
  · rename_i h
    exact (srt_of (.swap _ _ _) (List.pairwise_pair.mpr (by omega))).symm
/-- a display of ints, told -/
theorem disp_li {H : Hp} {p : Addr} (hp : H p = none) (xs : List Int) : ∃ H1, upd H p (.lst (xs.map V.int)) = H1 ∧ Same H H1 ∧ LI H1 p xs := ⟨_, rfl, same_upd hp, upd_same⟩
theorem disp_refs {H : Hp} {p : Addr} (hp : H p = none) (as : List Addr) : ∃ H1, upd H p (.lst (as.map V.ref)) = H1 ∧ Same H H1 ∧ Refs H1 p as := ⟨_, rfl, same_upd hp, upd_same⟩
theorem small_nat {x : Int} (h : x.natAbs ≤ 1000) : Small x := Nat.lt_of_le_of_lt h (by decide +kernel)
theorem valid_dec {n : Nat} {f : List (List Int)} (h1 : f.flatten.Nodup) (h2 : (f.flatten.all fun x => decide (1 ≤ x) && decide (x ≤ (n : Int))) = true) : Valid n f := ⟨h1, fun x hx => by
  have := List.all_eq_true.mp h2 x hx
  simpa using this⟩
theorem smalls_dec {xs : List Int} (h : (xs.all fun x => decide (x.natAbs ≤ 1000)) = true) : Smalls xs := fun x hx => small_nat (by
  have := List.all_eq_true.mp h x hx
  simpa using this)
theorem row1 : afterRow [4, 3, 2, 1] [[[1, 2], [3, 4]], [[1, 3], [2, 4]]] = [1, 2, 3, 4] := by
  have e1 : sortAlong [4, 3, 2, 1] [[1, 2], [3, 4]] = put (put [4, 3, 2, 1] [1, 2] (srt [4, 3])) [3, 4] (srt [2, 1]) := rfl
  have e2 : sortAlong [4, 3, 2, 1] [[1, 2], [3, 4]] = [3, 4, 1, 2] := by rw [e1, srt2, srt2]; rfl
  have e3 : sortAlong [3, 4, 1, 2] [[1, 3], [2, 4]] = put (put [3, 4, 1, 2] [1, 3] (srt [3, 1])) [2, 4] (srt [4, 2]) := rfl
  have e4 : sortAlong [3, 4, 1, 2] [[1, 3], [2, 4]] = [1, 2, 3, 4] := by rw [e3, srt2, srt2]; rfl
  have e5 : afterRow [4, 3, 2, 1] [[[1, 2], [3, 4]], [[1, 3], [2, 4]]] = sortAlong (sortAlong [4, 3, 2, 1] [[1, 2], [3, 4]]) [[1, 3], [2, 4]] := rfl
  rw [e5, e2, e4]
theorem sort1 : sortAlong [3, 1, 2] [[1, 3]] = [2, 1, 3] := by
  have e : sortAlong [3, 1, 2] [[1, 3]] = put [3, 1, 2] [1, 3] (srt [3, 2]) := rfl
  rw [e, srt2]
  rfl
end Kt



set_option autoImplicit true
set_option Elab.async false
set_option linter.all false
set_option maxRecDepth 100000
set_option maxHeartbeats 4000000
/-! Sorting along a chain that goes along a line lessens the pairs that stand the wrong way round on the line. -/
namespace Kt
def lessN (a : Int) (l : List Int) : Nat := l.countP fun x => decide (x < a)
/-- the pairs that stand the wrong way round -/
def inv : List Int → Nat
  | [] => 0
  | a :: l => lessN a l + inv l
def cross (L R : List Int) : Nat := (L.map fun a => lessN a R).sum
theorem lessN_append (a : Int) (L R : List Int) : lessN a (L ++ R) = lessN a L + lessN a R := List.countP_append
theorem lessN_perm {a : Int} {L R : List Int} (h : L.Perm R) : lessN a L = lessN a R := h.countP_eq _
theorem inv_append : ∀ L R : List Int, inv (L ++ R) = inv L + cross L R + inv R
  | [], R => by simp [inv, cross]
  | a :: L, R => by
    rw [List.cons_append, inv, inv, inv_append L R, lessN_append, cross, cross, List.map_cons, List.sum_cons]
    omega
theorem cross_perm {L R S : List Int} (h : R.Perm S) : cross L R = cross L S := by
  unfold cross
  congr 1
  exact List.map_congr_left fun a _ => lessN_perm h
theorem cross_cons (a : Int) (L R : List Int) : cross (a :: L) R = lessN a R + cross L R := by unfold cross; rw [List.map_cons, List.sum_cons]
theorem cross_append (L M R : List Int) : cross (L ++ M) R = cross L R + cross M R := by
  unfold cross
  rw [List.map_append, List.sum_append]
theorem cross_mono {a b : Int} (h : b ≤ a) : ∀ M : List Int, cross M [a] ≤ cross M [b]
  | [] => Nat.le_refl _
  | x :: M => by
    rw [cross_cons, cross_cons]
    have ih := cross_mono h M
    have : lessN x [a] ≤ lessN x [b] := by
      unfold lessN
      simp only [List.countP_cons, List.countP_nil]
      by_cases h1 : a < x
      · have h2 : b < x := by omega
        simp [h1, h2]
      · simp [h1]
    omega
theorem lessN_mono {a b : Int} (h : b ≤ a) (M : List Int) : lessN b M ≤ lessN a M := by
  unfold lessN
  refine List.countP_mono_left fun x _ hx => ?_
  have := of_decide_eq_true hx
  exact decide_eq_true (by omega)
theorem inv_swap {a b : Int} (h : b < a) (L M R : List Int) : inv (L ++ b :: (M ++ a :: R)) < inv (L ++ a :: (M ++ b :: R)) := by
  have pm : (b :: (M ++ a :: R)).Perm (a :: (M ++ b :: R)) := by
    have h1 : (M ++ a :: R).Perm (a :: (M ++ R)) := List.perm_middle
    have h2 : (M ++ b :: R).Perm (b :: (M ++ R)) := List.perm_middle
    exact ((h1.cons b).trans (List.Perm.swap a b _)).trans (h2.symm.cons a)
  rw [inv_append, inv_append, cross_perm pm]
  suffices h2 : inv (b :: (M ++ a :: R)) < inv (a :: (M ++ b :: R)) by omega
  rw [inv, inv, inv_append, inv_append, inv, inv, lessN_append, lessN_append]
  have e1 : lessN b (a :: R) = lessN b R := by
    unfold lessN
    rw [List.countP_cons]
    have : ¬ (a < b) := by omega
    simp [this]
  have e2 : lessN a (b :: R) = lessN a R + 1 := by
    unfold lessN
    rw [List.countP_cons]
    simp [h]
  have e3 : ∀ x : Int, cross M (x :: R) = cross M [x] + cross M R := fun x => by
    have : ∀ M : List Int, cross M (x :: R) = cross M [x] + cross M R := by
      intro M
      induction M with
      | nil => rfl
      | cons y M ih =>
        rw [cross_cons, cross_cons, cross_cons, ih]
        have : lessN y (x :: R) = lessN y [x] + lessN y R := by
          have := lessN_append y [x] R
          exact this
        omega
    exact this M
  rw [e1, e2, e3, e3]
  have h3 := lessN_mono (Int.le_of_lt h) M
  have h4 := lessN_mono (Int.le_of_lt h) R
  have h5 := cross_mono (Int.le_of_lt h) M
  omega
theorem lessN_le (a : Int) (l : List Int) : lessN a l ≤ l.length := List.countP_le_length
theorem inv_le : ∀ l : List Int, 2 * (inv l : Int) ≤ (l.length : Int) * ((l.length : Int) - 1)
  | [] => by simp [inv]
  | a :: l => by
    have ih := inv_le l
    have h := lessN_le a l
    rw [inv, List.length_cons]
    push_cast
    have e : ((l.length : Int) + 1) * ((l.length : Int) + 1 - 1) = (l.length : Int) * ((l.length : Int) - 1) + 2 * (l.length : Int) := by
      rw [Int.add_sub_cancel, Int.add_mul, Int.mul_sub, Int.one_mul, Int.mul_one]
      omega
    omega
/-! ### on the line -/
/-- the values exchanged at two places -/
def exch (load : List Int) (p q : Int) : List Int := put1 (put1 load (p, at1 load q)) (q, at1 load p)
theorem exch_len (load : List Int) (p q : Int) : (exch load p q).length = load.length := by unfold exch; rw [put1_len, put1_len]
theorem exch_other {load : List Int} {p q x : Int} (hx : 1 ≤ x) (hp : 1 ≤ p) (hq : 1 ≤ q) (h1 : x ≠ p) (h2 : x ≠ q) : at1 (exch load p q) x = at1 load x := by
  unfold exch
  rw [at1_put1_ne hx hq h2, at1_put1_ne hx hp h1]
theorem exch_p {load : List Int} {p q : Int} (hp : 1 ≤ p) (hpn : p ≤ (load.length : Int)) (hq : 1 ≤ q) (h : p ≠ q) : at1 (exch load p q) p = at1 load q := by
  unfold exch
  rw [at1_put1_ne hp hq h]
  exact at1_put1_self (q := (p, at1 load q)) hp hpn
theorem exch_q {load : List Int} {p q : Int} (hq : 1 ≤ q) (hqn : q ≤ (load.length : Int)) : at1 (exch load p q) q = at1 load p := by
  unfold exch
  exact at1_put1_self (q := (q, at1 load p)) hq (by rw [put1_len]; exact hqn)
/-- a line of places, none twice -/
structure Line (n : Nat) (line : List Int) : Prop where
  nd : line.Nodup
  rg : ∀ x ∈ line, 1 ≤ x ∧ x ≤ (n : Int)
/-- the values along the line -/
def along (line load : List Int) : List Int := line.map (at1 load)
theorem map_exch {load : List Int} {p q : Int} {l : List Int} (hp : 1 ≤ p) (hq : 1 ≤ q) (h : ∀ x ∈ l, 1 ≤ x ∧ x ≠ p ∧ x ≠ q) : l.map (at1 (exch load p q)) = l.map (at1 load) :=
  List.map_congr_left fun x hx => exch_other (h x hx).1 hp hq (h x hx).2.1 (h x hx).2.2
/-- an exchange of two that stand the wrong way round -/
theorem exch_inv {load line L M R : List Int} {p q : Int} (ln : Line load.length line) (e : line = L ++ p :: (M ++ q :: R)) (h : at1 load q < at1 load p) : inv (along line (exch load p q)) < inv (along line load) := by
  have nd := ln.nd
  have rg := ln.rg
  rw [e] at nd rg
  obtain ⟨n1, n2, n3⟩ := List.nodup_append.mp nd
  obtain ⟨n4, n5⟩ := List.nodup_cons.mp n2
  obtain ⟨n6, n7, n8⟩ := List.nodup_append.mp n5
  obtain ⟨n9, n10⟩ := List.nodup_cons.mp n7
  have pr := rg p (by simp)
  have qr := rg q (by simp)
  have hpq : p ≠ q := fun z => n4 (by rw [z]; simp)
  have hL : ∀ x ∈ L, 1 ≤ x ∧ x ≠ p ∧ x ≠ q := fun x hx => ⟨(rg x (by simp [hx])).1, n3 x hx p (by simp), n3 x hx q (by simp)⟩
  have hM : ∀ x ∈ M, 1 ≤ x ∧ x ≠ p ∧ x ≠ q := fun x hx => ⟨(rg x (by simp [hx])).1, fun z => n4 (by rw [← z]; simp [hx]), n8 x hx q (by simp)⟩
  have hR : ∀ x ∈ R, 1 ≤ x ∧ x ≠ p ∧ x ≠ q := fun x hx => ⟨(rg x (by simp [hx])).1, fun z => n4 (by rw [← z]; simp [hx]), fun z => n9 (by rw [← z]; exact hx)⟩
  unfold along
  rw [e]
  simp only [List.map_append, List.map_cons]
  rw [map_exch pr.1 qr.1 hL, map_exch pr.1 qr.1 hM, map_exch pr.1 qr.1 hR, exch_p pr.1 pr.2 qr.1 hpq, exch_q qr.1 qr.2]
  exact inv_swap h _ _ _
theorem ascends_iff {load : List Int} : ∀ {c : List Int}, ascends load c = true → (c.map (at1 load)).Pairwise (· ≤ ·)
  | [], _ => .nil
  | [x], _ => by simp
  | x :: y :: c, h => by
    have h' : (decide (at1 load x ≤ at1 load y) && ascends load (y :: c)) = true := h
    obtain ⟨h1, h2⟩ := Bool.and_eq_true_iff.mp h'
    have ih := ascends_iff h2
    have h1' := of_decide_eq_true h1
    rw [List.map_cons] at ih ⊢
    refine List.pairwise_cons.mpr ⟨fun z hz => ?_, ih⟩
    rw [List.map_cons] at hz
    rcases List.mem_cons.mp hz with rfl | hz
    · exact h1'
    · exact Int.le_trans h1' ((List.pairwise_cons.mp ih).1 z hz)
/-- two neighbours of a chain that are not in order -/
theorem not_ascends {load : List Int} : ∀ {c : List Int}, ascends load c = false → ∃ A p q B, c = A ++ p :: q :: B ∧ at1 load q < at1 load p
  | [], h => by cases h
  | [x], h => by cases h
  | x :: y :: c, h => by
    have h' : (decide (at1 load x ≤ at1 load y) && ascends load (y :: c)) = false := h
    cases e : decide (at1 load x ≤ at1 load y) with
    | false =>
      have := of_decide_eq_false e
      exact ⟨[], x, y, c, rfl, by omega⟩
    | true =>
      rw [e, Bool.true_and] at h'
      obtain ⟨A, p, q, B, e1, e2⟩ := not_ascends h'
      exact ⟨x :: A, p, q, B, by rw [e1]; rfl, e2⟩
theorem sub_split {A B line : List Int} {p q : Int} (h : (A ++ p :: q :: B).Sublist line) : ∃ L M R, line = L ++ p :: (M ++ q :: R) := by
  obtain ⟨l1, l2, rfl, _, h2⟩ := List.append_sublist_iff.mp h
  obtain ⟨m1, m2, rfl, hp, h3⟩ := List.cons_sublist_iff.mp h2
  obtain ⟨m3, m4, rfl, hq, _⟩ := List.cons_sublist_iff.mp h3
  obtain ⟨s, t, rfl⟩ := List.append_of_mem hp
  obtain ⟨u, v, rfl⟩ := List.append_of_mem hq
  exact ⟨l1 ++ s, t ++ u, v ++ m4, by simp⟩
theorem ext_at1 {x y : List Int} (hl : x.length = y.length) (h : ∀ p : Int, 1 ≤ p → p ≤ (x.length : Int) → at1 x p = at1 y p) : x = y := by
  refine List.ext_getElem hl fun i h1 h2 => ?_
  have := h ((i : Int) + 1) (by omega) (by omega)
  unfold at1 at this
  have e : ((i : Int) + 1 - 1).toNat = i := by omega
  rw [e, List.getD_eq_getElem?_getD, List.getD_eq_getElem?_getD, List.getElem?_eq_getElem h1, List.getElem?_eq_getElem h2] at this
  exact this
/-- a chain put in order, by exchanges -/
theorem chain_settles {line c : List Int} (hc : c.Sublist line) : ∀ (N : Nat) (load : List Int), Line load.length line → inv (along line load) ≤ N →
    ∃ t : List Int, t.length = load.length ∧ (∀ x, 1 ≤ x → x ∉ c → at1 t x = at1 load x) ∧ (c.map (at1 t)).Perm (c.map (at1 load)) ∧ (c.map (at1 t)).Pairwise (· ≤ ·) ∧ (t = load ∨ inv (along line t) < inv (along line load)) := by
  intro N
  induction N with
  | zero =>
    intro load ln hN
    cases e : ascends load c with
    | true => exact ⟨load, rfl, fun _ _ _ => rfl, .refl _, ascends_iff e, .inl rfl⟩
    | false =>
      obtain ⟨A, p, q, B, rfl, h⟩ := not_ascends e
      obtain ⟨L, M, R, el⟩ := sub_split hc
      have := exch_inv ln el h
      omega
  | succ N ih =>
    intro load ln hN
    cases e : ascends load c with
    | true => exact ⟨load, rfl, fun _ _ _ => rfl, .refl _, ascends_iff e, .inl rfl⟩
    | false =>
      obtain ⟨A, p, q, B, rfl, h⟩ := not_ascends e
      obtain ⟨L, M, R, el⟩ := sub_split hc
      have lt := exch_inv ln el h
      have pr := ln.rg p (by rw [el]; simp)
      have qr := ln.rg q (by rw [el]; simp)
      have nd : (A ++ p :: q :: B).Nodup := ln.nd.sublist hc
      obtain ⟨n1, n2, n3⟩ := List.nodup_append.mp nd
      obtain ⟨n4, n5⟩ := List.nodup_cons.mp n2
      obtain ⟨n6, n7⟩ := List.nodup_cons.mp n5
      have hpq : p ≠ q := fun z => n4 (by rw [z]; simp)
      have cr : ∀ x ∈ A ++ p :: q :: B, 1 ≤ x := fun x hx => (ln.rg x (hc.mem hx)).1
      have hA : ∀ x ∈ A, 1 ≤ x ∧ x ≠ p ∧ x ≠ q := fun x hx => ⟨cr x (by simp [hx]), n3 x hx p (by simp), n3 x hx q (by simp)⟩
      have hB : ∀ x ∈ B, 1 ≤ x ∧ x ≠ p ∧ x ≠ q := fun x hx => ⟨cr x (by simp [hx]), fun z => n4 (by rw [← z]; simp [hx]), fun z => n6 (by rw [← z]; exact hx)⟩
      have pm : ((A ++ p :: q :: B).map (at1 (exch load p q))).Perm ((A ++ p :: q :: B).map (at1 load)) := by
        simp only [List.map_append, List.map_cons]
        rw [map_exch pr.1 qr.1 hA, map_exch pr.1 qr.1 hB, exch_p pr.1 pr.2 qr.1 hpq, exch_q qr.1 qr.2]
        exact List.Perm.append_left _ (List.Perm.swap _ _ _)
      obtain ⟨t, t1, t2, t3, t4, t5⟩ := ih (exch load p q) (by rw [exch_len]; exact ln) (by omega)
      refine ⟨t, by rw [t1, exch_len], fun x hx hn => ?_, t3.trans pm, t4, .inr ?_⟩
      · rw [t2 x hx hn]
        exact exch_other hx pr.1 qr.1 (fun z => hn (by rw [z]; simp)) (fun z => hn (by rw [z]; simp))
      · rcases t5 with rfl | t5
        · exact lt
        · exact Nat.lt_trans t5 lt
theorem along1_inv {line c load : List Int} (ln : Line load.length line) (hc : c.Sublist line) : along1 load load c = load ∨ inv (along line (along1 load load c)) < inv (along line load) := by
  obtain ⟨t, t1, t2, t3, t4, t5⟩ := chain_settles hc _ load ln (Nat.le_refl _)
  have nd : c.Nodup := ln.nd.sublist hc
  have rg : ∀ x ∈ c, 1 ≤ x ∧ x ≤ (load.length : Int) := fun x hx => ln.rg x (hc.mem hx)
  have e : along1 load load c = t := by
    refine ext_at1 (by rw [along1_len, t1]) fun p h1 h2 => ?_
    by_cases hp : p ∈ c
    · have e1 : c.map (at1 (along1 load load c)) = srt (c.map (at1 load)) := put_own c _ load nd rg (Int.le_refl _) (by rw [srt_len, List.length_map])
      have e2 : c.map (at1 t) = srt (c.map (at1 load)) := srt_of t3 t4
      exact List.map_inj_left.mp (e1.trans e2.symm) p hp
    · rw [t2 p h1 hp]
      exact put_other h1 fun x hx => ⟨(rg x hx).1, fun z => hp (z ▸ hx)⟩
  rw [e]
  exact t5
/-- a family whose chains go along the line -/
theorem family_inv {line : List Int} (f : List (List Int)) : ∀ (load r : List Int), Line r.length line → f.flatten.Nodup → (∀ c ∈ f, c.Sublist line) → (∀ x ∈ f.flatten, at1 r x = at1 load x) →
    f.foldl (along1 load) r = r ∨ inv (along line (f.foldl (along1 load) r)) < inv (along line r) := by
  induction f with
  | nil => intro load r _ _ _ _; exact .inl rfl
  | cons c f ih =>
    intro load r ln nd hs hv
    rw [List.flatten_cons] at nd hv
    obtain ⟨n1, n2, n3⟩ := List.nodup_append.mp nd
    have hc := hs c List.mem_cons_self
    have ev : c.map (at1 r) = c.map (at1 load) := List.map_congr_left fun x hx => hv x (List.mem_append_left _ hx)
    have e : along1 load r c = along1 r r c := by unfold along1; rw [ev]
    rw [List.foldl_cons, e]
    have rgc : ∀ x ∈ c, 1 ≤ x := fun x hx => (ln.rg x (hc.mem hx)).1
    have hv' : ∀ x ∈ f.flatten, at1 (along1 r r c) x = at1 load x := fun x hx => by
      rw [← hv x (List.mem_append_right _ hx)]
      obtain ⟨l, hl, hxl⟩ := List.mem_flatten.mp hx
      exact put_other (ln.rg x ((hs l (List.mem_cons_of_mem _ hl)).mem hxl)).1 fun y hy => ⟨rgc y hy, n3 y hy x hx⟩
    have st := along1_inv ln hc
    have ih' := ih load (along1 r r c) (by rw [along1_len]; exact ln) n2 (fun d hd => hs d (List.mem_cons_of_mem _ hd)) hv'
    rcases st with h1 | h1
    · rw [h1] at ih' ⊢
      exact ih'
    · rcases ih' with h2 | h2
      · rw [h2]
        exact .inr h1
      · exact .inr (Nat.lt_trans h2 h1)
structure Lined (n : Nat) (line : List Int) (f : List (List Int)) : Prop where
  va : Valid n f
  sub : ∀ c ∈ f, c.Sublist line
theorem sort_inv {line load : List Int} {f : List (List Int)} (ln : Line load.length line) (h : Lined load.length line f) : sortAlong load f = load ∨ inv (along line (sortAlong load f)) < inv (along line load) :=
  family_inv f load load ln h.va.nd h.sub fun _ _ => rfl
/-- sorted already: nothing changes -/
theorem sort_still {load : List Int} {f : List (List Int)} (v : Valid load.length f) (h : isSorted load f = true) : sortAlong load f = load := by
  refine ext_at1 (sortAlong_len _ _) fun p h1 h2 => ?_
  by_cases hp : p ∈ f.flatten
  · obtain ⟨c, hc, hpc⟩ := List.mem_flatten.mp hp
    have e1 := sortAlong_own v hc
    have e2 : c.map (at1 load) = srt (c.map (at1 load)) := srt_of (.refl _) (ascends_iff (List.all_eq_true.mp h c hc))
    exact List.map_inj_left.mp (e1.trans e2.symm) p hpc
  · exact fold_along_other h1 f load fun x hx => ⟨(v.rg x hx).1, fun z => hp (z ▸ hx)⟩
theorem still_sorted {load : List Int} {f : List (List Int)} (v : Valid load.length f) (h : sortAlong load f = load) : isSorted load f = true := by
  have := sorted_after v
  rw [h] at this
  exact this
end Kt


set_option autoImplicit true
set_option Elab.async false
set_option linter.all false
set_option maxRecDepth 100000
set_option maxHeartbeats 4000000
/-! Lists of lists in the heap: kept, grown, changed at one place. -/
namespace Kt
open PySem L2 PyProof.Rows
/-- a family whose chains are new behind H0 -/
def FamN (H0 H : Hp) (a : Addr) (f : List (List Int)) : Prop := ∃ as, Refs H a as ∧ Paired (LI H) as f ∧ ∀ x ∈ as, H0 x = none
theorem FamN.fam {H0 H : Hp} {a : Addr} {f : List (List Int)} (h : FamN H0 H a f) : Fam H a f := let ⟨as, h1, h2, _⟩ := h; ⟨as, h1, h2⟩
theorem paired_upd {H : Hp} {D : Addr} {o : HO} {as : List Addr} {f : List (List Int)} (p : Paired (LI H) as f) (h : ∀ a ∈ as, a ≠ D) : Paired (LI (upd H D o)) as f := by
  induction p with
  | nil => exact .nil
  | cons r t ih => exact .cons ((upd_ne (h _ List.mem_cons_self)).trans r) (ih fun a ha => h a (List.mem_cons_of_mem _ ha))
theorem paired_keep {H H' : Hp} {ds : List Addr} {as : List Addr} {f : List (List Int)} (p : Paired (LI H) as f) (b : ButL ds H H') (h : ∀ a ∈ as, a ∉ ds) : Paired (LI H') as f := by
  induction p with
  | nil => exact .nil
  | cons r t ih => exact .cons (b _ _ (h _ List.mem_cons_self) r) (ih fun a ha => h a (List.mem_cons_of_mem _ ha))
theorem paired_there {H : Hp} {as : List Addr} {f : List (List Int)} (p : Paired (LI H) as f) {D : Addr} (h : H D = none) : ∀ a ∈ as, a ≠ D := by
  induction p with
  | nil => intro a ha; cases ha
  | cons r t ih =>
    intro a ha
    rcases List.mem_cons.mp ha with rfl | ha
    · exact ne_of_none r h
    · exact ih a ha
theorem paired_ne_dr {H : Hp} {d : Addr} {n k : Int} {c : Bool} {as : List Addr} {f : List (List Int)} (p : Paired (LI H) as f) (h : H d = some (DrO n k c)) : ∀ a ∈ as, a ≠ d := by
  induction p with
  | nil => intro a ha; cases ha
  | cons r t ih =>
    intro a ha
    rcases List.mem_cons.mp ha with rfl | ha
    · exact fun z => dr_ne_ints (Option.some.inj (h.symm.trans (z ▸ r)))
    · exact ih a ha
theorem refs_snoc {H : Hp} {D : Addr} {as : List Addr} {l : Addr} : Refs (upd H D (.lst (as.map V.ref ++ [V.ref l]))) D (as ++ [l]) := by
  unfold Refs
  rw [upd_same, List.map_append]
  rfl
theorem refs_li {H : Hp} {a : Addr} {as : List Addr} {xs : List Int} (h : Refs H a as) (h' : LI H a xs) : as = [] ∧ xs = [] := by
  have e : (HO.lst (as.map V.ref)) = .lst (xs.map V.int) := Option.some.inj (h.symm.trans h')
  injection e with e
  cases as with
  | nil =>
    cases xs with
    | nil => exact ⟨rfl, rfl⟩
    | cons x xs => cases e
  | cons y as =>
    cases xs with
    | nil => cases e
    | cons x xs =>
      rw [List.map_cons, List.map_cons] at e
      injection e with e _
      cases e
/-- one of several lists is changed -/
theorem paired_set {H : Hp} {x : Addr} {c' : List Int} : ∀ {as : List Addr} {f : List (List Int)} {j : Nat}, Paired (LI H) as f → as.Nodup → as[j]? = some x → Paired (LI (upd H x (.lst (c'.map V.int)))) as (f.set j c')
  | _, _, _, .nil, _, h => by simp at h
  | a :: as, c :: f, 0, .cons r t, nd, h => by
    simp at h
    subst h
    obtain ⟨n1, n2⟩ := List.nodup_cons.mp nd
    exact .cons upd_same (paired_upd t fun b hb z => n1 (by rw [← z]; exact hb))
  | a :: as, c :: f, j + 1, .cons r t, nd, h => by
    obtain ⟨n1, n2⟩ := List.nodup_cons.mp nd
    have h' : as[j]? = some x := by simpa using h
    have hx := List.mem_of_getElem? h'
    exact .cons ((upd_ne (fun z => n1 (by rw [z]; exact hx))).trans r) (paired_set t n2 h')
theorem flatten_set {f : List (List Int)} {j : Nat} {c : List Int} {x : Int} (h : f[j]? = some c) : (f.set j (c ++ [x])).flatten.Perm (x :: f.flatten) := by
  induction f generalizing j with
  | nil => simp at h
  | cons d f ih =>
    cases j with
    | zero =>
      simp at h
      subst h
      rw [List.set_cons_zero, List.flatten_cons, List.flatten_cons, List.append_assoc]
      exact List.perm_middle
    | succ j =>
      rw [List.set_cons_succ, List.flatten_cons, List.flatten_cons]
      refine (List.Perm.append_left d (ih (by simpa using h))).trans ?_
      exact List.perm_middle
theorem flatten_replicate_nil (m : Nat) : (List.replicate m ([] : List Int)).flatten = [] := by
  induction m with
  | zero => rfl
  | succ m ih => rw [List.replicate_succ, List.flatten_cons, ih]; rfl
theorem paired_replicate {H : Hp} : ∀ {as : List Addr}, (∀ a ∈ as, LI H a []) → Paired (LI H) as (List.replicate as.length [])
  | [], _ => .nil
  | a :: as, h => .cons (h a List.mem_cons_self) (paired_replicate fun b hb => h b (List.mem_cons_of_mem _ hb))
/-- families at places, none of them at D, nor their chains -/
def FamX (H : Hp) (D a : Addr) (f : List (List Int)) : Prop := a ≠ D ∧ ∃ as, Refs H a as ∧ Paired (LI H) as f ∧ ∀ x ∈ as, x ≠ D
theorem FamX.fam {H : Hp} {D a : Addr} {f : List (List Int)} (h : FamX H D a f) : Fam H a f := let ⟨_, as, h1, h2, _⟩ := h; ⟨as, h1, h2⟩
theorem FamX.off {H : Hp} {D a : Addr} {f : List (List Int)} {o : HO} (h : FamX H D a f) : FamX (upd H D o) D a f := let ⟨h0, as, h1, h2, h3⟩ := h; ⟨h0, as, (upd_ne h0).trans h1, paired_upd h2 h3, h3⟩
theorem FamX.but {H H' : Hp} {D a d : Addr} {f : List (List Int)} {n k : Int} {c : Bool} (h : FamX H D a f) (hd : H d = some (DrO n k c)) (s : But d H H') : FamX H' D a f := let ⟨h0, as, h1, h2, h3⟩ := h; ⟨h0, as, h1.but hd s, Paired.mapP h2 fun _ _ q => q.but hd s, h3⟩
theorem FamN.off {H0 H : Hp} {D a : Addr} {f : List (List Int)} (h : FamN H0 H a f) (ha : H0 a = none) (hD : H0 D ≠ none) : FamX H D a f := let ⟨as, h1, h2, h3⟩ := h; ⟨fun z => hD (z ▸ ha), as, h1, h2, fun x hx z => hD (z ▸ h3 x hx)⟩
theorem fams_off {H : Hp} {D : Addr} {o : HO} {as : List Addr} {r : List (List (List Int))} (p : Paired (FamX H D) as r) : Paired (FamX (upd H D o) D) as r := Paired.mapP p fun _ _ q => q.off
/-- how far the draws are -/
def Dws (H : Hp) (as : List Addr) (b : Int) : Prop := ∀ a ∈ as, ∃ n k c, H a = some (DrO n k c) ∧ 0 ≤ k ∧ k ≤ b
theorem Dws.mono {H : Hp} {as : List Addr} {b b' : Int} (h : Dws H as b) (hb : b ≤ b') : Dws H as b' := fun a ha => let ⟨n, k, c, e, h1, h2⟩ := h a ha; ⟨n, k, c, e, h1, by omega⟩
theorem Dws.same {H H' : Hp} {as : List Addr} {b : Int} (h : Dws H as b) (s : Same H H') : Dws H' as b := fun a ha => let ⟨n, k, c, e, h1, h2⟩ := h a ha; ⟨n, k, c, s _ _ e, h1, h2⟩
theorem Dws.but {H H' : Hp} {as : List Addr} {b : Int} {d : Addr} {n k : Int} {c : Bool} (h : Dws H as b) (s : But d H H') (e : H' d = some (DrO n k c)) (h0 : 0 ≤ k) (h1 : k ≤ b) : Dws H' as b := fun a ha => by
  by_cases z : a = d
  · rw [z]
    exact ⟨n, k, c, e, h0, h1⟩
  · obtain ⟨n', k', c', e', h2, h3⟩ := h a ha
    exact ⟨n', k', c', s _ _ z e', h2, h3⟩
end Kt


set_option autoImplicit true
set_option Elab.async false
set_option linter.all false
set_option maxRecDepth 100000
set_option maxHeartbeats 4000000
/-! What sorting along a family keeps; unlike values; families as data. -/
namespace Kt
open PySem L2 PyProof.Rows
theorem fold_keeps {n : Nat} {Φ : List Int → Prop} (f : List (List Int)) : ∀ (load r : List Int), f.flatten.Nodup → (∀ x ∈ f.flatten, 1 ≤ x ∧ x ≤ (n : Int)) → (∀ x ∈ f.flatten, at1 r x = at1 load x) → r.length = n → Φ r →
    (∀ r c, c ∈ f → r.length = n → Φ r → Φ (along1 r r c)) → Φ (f.foldl (along1 load) r) := by
  induction f with
  | nil => intro load r _ _ _ _ h _; exact h
  | cons c f ih =>
    intro load r nd rg hv hl h step
    rw [List.flatten_cons] at nd rg hv
    obtain ⟨n1, n2, n3⟩ := List.nodup_append.mp nd
    have ev : c.map (at1 r) = c.map (at1 load) := List.map_congr_left fun x hx => hv x (List.mem_append_left _ hx)
    have e : along1 load r c = along1 r r c := by unfold along1; rw [ev]
    rw [List.foldl_cons, e]
    refine ih load _ n2 (fun x hx => rg x (List.mem_append_right _ hx)) (fun x hx => ?_) (by rw [along1_len]; exact hl) (step r c List.mem_cons_self hl h) fun r' c' hc' => step r' c' (List.mem_cons_of_mem _ hc')
    rw [← hv x (List.mem_append_right _ hx)]
    exact put_other (rg x (List.mem_append_right _ hx)).1 fun y hy => ⟨(rg y (List.mem_append_left _ hy)).1, n3 y hy x hx⟩
theorem sort_keeps {Φ : List Int → Prop} {load : List Int} {f : List (List Int)} (v : Valid load.length f) (h : Φ load) (step : ∀ r c, c ∈ f → r.length = load.length → Φ r → Φ (along1 r r c)) : Φ (sortAlong load f) :=
  fold_keeps f load load v.nd v.rg (fun _ _ => rfl) rfl h step
/-- unlike values -/
def Inj (load : List Int) : Prop := ∀ p q : Int, 1 ≤ p → p ≤ (load.length : Int) → 1 ≤ q → q ≤ (load.length : Int) → at1 load p = at1 load q → p = q
theorem inj_of_nodup {load : List Int} (nd : load.Nodup) : Inj load := by
  intro p q p1 p2 q1 q2 h
  have hp : (p - 1).toNat < load.length := by omega
  have hq : (q - 1).toNat < load.length := by omega
  have e1 := at1_get p1 p2
  have e2 := at1_get q1 q2
  rw [List.getElem?_eq_getElem hp] at e1
  rw [List.getElem?_eq_getElem hq] at e2
  have := (List.getElem_inj nd).mp ((Option.some.inj e1).trans (h.trans (Option.some.inj e2).symm))
  omega
theorem map_inj_nodup {g : Int → Int} : ∀ {c : List Int}, (c.map g).Nodup → ∀ p ∈ c, ∀ q ∈ c, g p = g q → p = q
  | [], _, p, hp, _, _, _ => by cases hp
  | x :: c, nd, p, hp, q, hq, h => by
    rw [List.map_cons] at nd
    obtain ⟨n1, n2⟩ := List.nodup_cons.mp nd
    rcases List.mem_cons.mp hp with e1 | hp'
    · rcases List.mem_cons.mp hq with e2 | hq'
      · rw [e1, e2]
      · exact absurd (show g x ∈ c.map g from List.mem_map.mpr ⟨q, hq', by rw [← e1]; exact h.symm⟩) n1
    · rcases List.mem_cons.mp hq with e2 | hq'
      · exact absurd (show g x ∈ c.map g from List.mem_map.mpr ⟨p, hp', by rw [← e2]; exact h⟩) n1
      · exact map_inj_nodup n2 p hp' q hq' h
theorem nodup_map_inj {g : Int → Int} {c : List Int} (nd : c.Nodup) (h : ∀ p ∈ c, ∀ q ∈ c, g p = g q → p = q) : (c.map g).Nodup := by
  rw [List.Nodup, List.pairwise_map]
  exact (List.Pairwise.and_mem.mp nd).imp fun {a b} ⟨ha, hb, hn⟩ e => hn (h a ha b hb e)
theorem inj_along {r c : List Int} (nd : c.Nodup) (rg : ∀ x ∈ c, 1 ≤ x ∧ x ≤ (r.length : Int)) (h : Inj r) : Inj (along1 r r c) := by
  have own : c.map (at1 (along1 r r c)) = srt (c.map (at1 r)) := put_own c _ r nd rg (Int.le_refl _) (by rw [srt_len, List.length_map])
  have cn : (c.map (at1 r)).Nodup := nodup_map_inj nd fun p hp q hq e => h p q (rg p hp).1 (rg p hp).2 (rg q hq).1 (rg q hq).2 e
  have cn2 : (c.map (at1 (along1 r r c))).Nodup := by rw [own]; exact (srt_perm _).nodup_iff.mpr cn
  have from_ : ∀ p ∈ c, ∃ p' ∈ c, at1 (along1 r r c) p = at1 r p' := fun p hp => by
    have h1 : at1 (along1 r r c) p ∈ c.map (at1 (along1 r r c)) := List.mem_map.mpr ⟨p, hp, rfl⟩
    rw [own] at h1
    obtain ⟨p', hp', e⟩ := List.mem_map.mp ((srt_perm _).mem_iff.mp h1)
    exact ⟨p', hp', e.symm⟩
  have off : ∀ p, 1 ≤ p → p ∉ c → at1 (along1 r r c) p = at1 r p := fun p p1 hp => put_other p1 fun x hx => ⟨(rg x hx).1, fun z => hp (z ▸ hx)⟩
  intro p q p1 p2 q1 q2 e
  rw [along1_len] at p2 q2
  by_cases hp : p ∈ c
  · by_cases hq : q ∈ c
    · exact map_inj_nodup cn2 p hp q hq e
    · obtain ⟨p', hp', e'⟩ := from_ p hp
      rw [e', off q q1 hq] at e
      have := h p' q (rg p' hp').1 (rg p' hp').2 q1 q2 e
      exact absurd (this ▸ hp') hq
  · by_cases hq : q ∈ c
    · obtain ⟨q', hq', e'⟩ := from_ q hq
      rw [e', off p p1 hp] at e
      have := h p q' p1 p2 (rg q' hq').1 (rg q' hq').2 e
      exact absurd (this ▸ hq') hp
    · rw [off p p1 hp, off q q1 hq] at e
      exact h p q p1 p2 q1 q2 e
theorem chain_nodup {f : List (List Int)} {c : List Int} (nd : f.flatten.Nodup) (hc : c ∈ f) : c.Nodup := by
  induction f with
  | nil => cases hc
  | cons d f ih =>
    rw [List.flatten_cons] at nd
    obtain ⟨n1, n2, _⟩ := List.nodup_append.mp nd
    rcases List.mem_cons.mp hc with e | e
    · rw [e]; exact n1
    · exact ih n2 e
theorem inj_sort {load : List Int} {f : List (List Int)} (v : Valid load.length f) (h : Inj load) : Inj (sortAlong load f) :=
  sort_keeps v h fun r c hc hl hr => inj_along (chain_nodup v.nd hc) (fun x hx => by rw [hl]; exact v.rg x (flatten_mem hc hx)) hr
theorem afterRow_still : ∀ (r : List (List (List Int))) (load : List Int), (∀ f ∈ r, Valid load.length f ∧ isSorted load f = true) → afterRow load r = load
  | [], _, _ => rfl
  | f :: r, load, h => by
    have e : afterRow load (f :: r) = afterRow (sortAlong load f) r := rfl
    obtain ⟨h1, h2⟩ := h f List.mem_cons_self
    rw [e, sort_still h1 h2]
    exact afterRow_still r load fun g hg => h g (List.mem_cons_of_mem _ hg)
/-! ### as data -/
theorem lay_list {ds : List PyData} {D : Nat} (h : ∀ d ∈ ds, PyData.canLay0 d = true ∧ PyData.depth d ≤ D) : PyData.canLay0 (.list ds) = true ∧ PyData.depth (.list ds) ≤ D + 1 := by
  rw [PyData.canLay0, PyData.depth]
  suffices z : PyData.canLayAll0 ds = true ∧ PyData.depthAll ds ≤ D from ⟨z.1, Nat.succ_le_succ z.2⟩
  induction ds with
  | nil => exact ⟨by rw [PyData.canLayAll0], by rw [PyData.depthAll]; exact Nat.zero_le _⟩
  | cons d ds ih =>
    obtain ⟨h1, h2⟩ := h d List.mem_cons_self
    obtain ⟨h3, h4⟩ := ih fun x hx => h x (List.mem_cons_of_mem _ hx)
    exact ⟨by rw [PyData.canLayAll0, h1, h3]; rfl, by rw [PyData.depthAll]; exact Nat.max_le.mpr ⟨h2, h4⟩⟩
theorem lay_dL (xs : List Int) : PyData.canLay0 (dL xs) = true ∧ PyData.depth (dL xs) ≤ 1 := lay_list fun d hd => by
  obtain ⟨x, _, rfl⟩ := List.mem_map.mp hd
  exact ⟨by rw [PyData.canLay0], by rw [PyData.depth]; exact Nat.le_refl _⟩
theorem lay_dF (f : List (List Int)) : PyData.canLay0 (dF f) = true ∧ PyData.depth (dF f) ≤ 2 := lay_list fun d hd => by
  obtain ⟨x, _, rfl⟩ := List.mem_map.mp hd
  exact lay_dL x
theorem lay_dR (r : List (List (List Int))) : PyData.canLay0 (dR r) = true ∧ PyData.depth (dR r) ≤ 3 := lay_list fun d hd => by
  obtain ⟨x, _, rfl⟩ := List.mem_map.mp hd
  exact lay_dF x
theorem shaped_dR (r : List (List (List Int))) : SeqAt.shaped (dR r) = true := by
  obtain ⟨h1, h2⟩ := lay_dR r
  unfold SeqAt.shaped
  rw [h1, Bool.true_and]
  exact decide_eq_true (by omega)
theorem eqv_dR_nil (r : List (List (List Int))) : PyData.eqv (dR r) (.list []) = decide (r = []) := by
  unfold dR
  rw [PyData.eqv]
  cases r with
  | nil => rw [List.map_nil, PyData.eqvAll]; rfl
  | cons x r => rw [List.map_cons, PyData.eqvAll]; rfl
/-- families that stand, away from a new place -/
theorem famX_new {H : Hp} {D a : Addr} {f : List (List Int)} (h : Fam H a f) (hD : H D = none) : FamX H D a f := by
  obtain ⟨as, h1, h2⟩ := h
  exact ⟨ne_of_none h1 hD, as, h1, h2, paired_there h2 hD⟩
theorem FamX.same {H H' : Hp} {D a : Addr} {f : List (List Int)} (h : FamX H D a f) (s : Same H H') : FamX H' D a f := let ⟨h0, as, h1, h2, h3⟩ := h; ⟨h0, as, h1.same s, Paired.mapP h2 fun _ _ q => q.same s, h3⟩
theorem rgC_down {n : Nat} (hn : n ≤ 1000) : RgC (n : Int) 0 (-1) n := by
  have h := RgC.neg (i := (n : Int)) (j := 0) (by omega) (by omega) (by omega) (by omega)
  have e : ((n : Int) - 0).toNat = n := by omega
  rw [e] at h
  exact h
end Kt


set_option autoImplicit true
set_option Elab.async false
set_option linter.all false
set_option maxRecDepth 100000
set_option maxHeartbeats 4000000
/-! The end of a law whose promise wants the guards. -/
namespace Kt
open PySem L2 PyProof.Rows
section
variable {P : Program} {w : World} {K : PySem.W.Frag} {mg mb : Str → Option Value} {k : Nat} {fa a : Addr} {fd : FuncData} {x : Str} {sp : Sp} {s1 : Shared} {vs : List Value} {ns : List Int}
/-- the object of the script -/
def scriptO (vs : List Value) : Obj := { cls := .type "list", data := .seq vs.toArray }
/-- the abstract heap at the entry: at most the script -/
theorem entry_heap (KX : K.In s1.heap) (ha : s1.heap.get? a = some (scriptO vs)) (hi : IntsAre vs ns) (hl : ns.length ≤ sizeLine) :
    ∃ H : Hp, (∀ b o, H b = some o → b = a ∧ o = .frz (scriptO vs) (.lst (ns.map V.int)) ∧ K.lookup a = none) ∧ SqL K H a (ns.map V.int) := by
  have rv := vals_ints hi
  cases hk : K.lookup a with
  | none =>
    refine ⟨fun b => if b = a then some (.frz (scriptO vs) (.lst (ns.map V.int))) else none, ?_, .inl (.inr ⟨scriptO vs, if_pos rfl⟩)⟩
    intro b o h
    have h' : (if b = a then some (HO.frz (scriptO vs) (.lst (ns.map V.int))) else none) = some o := h
    by_cases e : b = a
    · rw [if_pos e] at h'
      exact ⟨e, (Option.some.inj h').symm, rfl⟩
    · rw [if_neg e] at h'
      cases h'
  | some o =>
    have e := (KX a o hk).symm.trans ha
    cases e
    refine ⟨fun _ => none, ?_, .inr ⟨_, vs.toArray, _, hk, rfl, rfl, rfl, by rw [List.size_toArray, hi.length]; exact hl, by simpa using rv⟩⟩
    intro b o h
    have h' : (none : Option HO) = some o := h
    cases h'
theorem law_callG (KX : K.In s1.heap) (hns : s1.heap.Ns mainGlobals mg) (hb : s1.heap.Ns builtinsNs mb) (hbb : ∀ y : Str, y ≠ "__name__" → mb y = bootBuiltins y) (hlim : s1.heap.NoLimit) (hg : s1.gens = #[])
    (ha : s1.heap.get? a = some (scriptO vs)) (hi : IntsAre vs ns) (hl : ns.length ≤ sizeLine) (hr : Room k callerA)
    (F : ∀ base : Heap, K.In base → base.Ns mainGlobals mg → FnG P w K mg base k fa fd [x] sp) (bind : ∀ (s : Shared) (u : Value), BindsTo s fd ⟨[u], []⟩ [(x, u)])
    (ask : ∀ H : Hp, SqL K H a (ns.map V.int) → sp [.ref a] H (fun v _ => v = .bl true) E0) :
    codeAny (model P w) callerA (.call (.ref fa) ⟨[.ref a], []⟩) (fun r s' => r = .ok (.ret (.bool true)) ∧ OldK s1.heap s'.heap ∧ s'.os = s1.os ∧ AllBare s'.gens) s1 := by
  obtain ⟨H, only, hS⟩ := entry_heap KX ha hi hl
  have hok : HOk P w H s1.heap := fun b o h => by
    obtain ⟨rfl, rfl, _⟩ := only b o h
    exact ⟨ha, by rw [List.length_map]; exact hl, vs, 0, vals_ints hi, ha⟩
  have notdict : ∀ {b : Addr} {o : Obj} {es : Array DictEntry} {ep : Nat}, s1.heap.get? b = some o → o.data = .dict es ep → H b = none := fun {b o es ep} e d => by
    cases q : H b with
    | none => rfl
    | some u =>
      obtain ⟨rfl, _, _⟩ := only b u q
      rw [ha] at e
      cases e
      exact nomatch d
  have there : ∀ {b : Addr} {m : Str → Option Value}, s1.heap.Ns b m → (hidT s1.heap H).Ns b m := fun {b m} ⟨o, es, ep, e, d, r⟩ => ⟨o, es, ep, hidT_get e (notdict e d), d, r⟩
  have Kb : K.In (hidT s1.heap H) := fun b o e => hidT_get (KX b o e) (by
    cases q : H b with
    | none => rfl
    | some u =>
      obtain ⟨rfl, _, h⟩ := only b u q
      rw [h] at e
      cases e)
  have lim : (hidT s1.heap H).NoLimit := let ⟨mc, h1, h2⟩ := hlim; ⟨mc, there h1, h2⟩
  have M : Mod K mg (hidT s1.heap H) := ⟨Kb, there hns, ⟨mb, there hb, hbb⟩, lim⟩
  have none_in : ∀ b : Addr, b ∉ frs ([] : List Env) := fun b h => by
    have h' : b ∈ ([] : List Addr) := h
    cases h'
  have e0 : Env0 P w K mg (hidT s1.heap H) callerA [] s1 H := ⟨rfl, M, fun b o e => of_hidT e, Nat.le_of_eq (hidT_size _ _), trivial, fun b h => absurd h (none_in b), hok, .of_eq hg⟩
  have run := (F _ Kb (there hns)).go callerA [] s1 H ⟨[.ref a], []⟩ [.ref a] [.ref a] _ hr rfl e0 (bind s1 (.ref a)) (.cons rfl .nil) (ask H hS)
  refine codeAny_mono run fun r s' h => ?_
  match r, h with
  | .error _, h => exact False.elim h
  | .ok .next, h => exact False.elim h
  | .ok .brk, h => exact False.elim h
  | .ok .cont, h => exact False.elim h
  | .ok (.ret u), h =>
    obtain ⟨v, H', os, bare, un, hok', r', ev⟩ := h
    obtain rfl : v = .bl true := ev
    obtain rfl : u = Value.bool true := r'
    refine ⟨rfl, OldK.of_keep fun b o e => ?_, os, bare⟩
    cases q : H b with
    | none => exact un.keep b o e q (none_in b) (fun z => by cases z)
    | some u =>
      obtain ⟨rfl, rfl, _⟩ := only b u q
      have z := (hok' _ _ (un.frzs _ _ _ q)).1
      rw [ha] at e
      cases e
      exact z
end
/-- the goal that the head leaves -/
theorem walkG {l : PySem.W.OpenLaw} {n k : Nat} {q : Program} {loose : List Str} {XP : (Str → Option Value) → Heap → Prop} {YP : World → Heap → Prop} {d : DefRec} {K : Params → PySem.W.Frag} {sp : PySem.W.Frag → Sp} {x : Str}
    (hn : l.most = some n) (hn2 : n ≤ sizeLine) (hdf : d.params.defaults = []) (hr : Room k callerA) (hY : ∀ (w : World) (h : Heap), YP w h → (K w.params).In h)
    (F : ∀ (w : World) (mg : Str → Option Value) (fa : Addr) (h : Heap), (K w.params).In h → h.Ns mainGlobals mg → mg d.name = some (.ref fa) →
      ∃ fd : FuncData, (∀ (s : Shared) (u : Value), BindsTo s fd ⟨[u], []⟩ [(x, u)]) ∧ ∀ base : Heap, (K w.params).In base → base.Ns mainGlobals mg → FnG l.prog w (K w.params) mg base k fa fd [x] (sp (K w.params)))
    (ask : ∀ (K : PySem.W.Frag) (H : Hp) (a : Addr) (ns : List Int), ns.length ≤ n → SqL K H a (ns.map V.int) → sp K [.ref a] H (fun v _ => v = .bl true) E0) :
    PySem.W.WalkO q loose XP YP l.row.toRowW d [] (fun f vs => PySem.call f vs) := by
  refine Att.attach_call hn hdf fun w s0 s1 mg mb fa o pm cd doc a vs ns G Y ho hd hcd hmg hobj hints hlen hg => ?_
  obtain ⟨fd, hb, hF⟩ := F w mg fa _ (hY w _ Y) G.T.g hmg
  exact law_callG (hY w _ Y) G.T.g G.T.b G.T.builtins G.T.nolimit hg hobj hints (Nat.le_trans hlen hn2) hr hF hb fun H hS => ask _ H a ns hlen hS
end Kt


set_option autoImplicit true
set_option Elab.async false
set_option linter.all false
set_option maxRecDepth 100000
set_option maxHeartbeats 4000000
/-! Noughts and ones: where a value comes to stand, by how many of its chain are not greater; families that keep one another by sets of places. -/
namespace Kt
open PySem L2 PyProof.Rows

/-! ### ranks -/
theorem rank_up : ∀ (l : List Int) (i : Nat) (v t : Int), l.Pairwise (· ≤ ·) → l[i]? = some v → (v ≤ t ↔ i < l.countP fun x => decide (x ≤ t))
  | [], i, v, t, _, h => by simp at h
  | a :: l, i, v, t, s, h => by
    obtain ⟨s1, s2⟩ := List.pairwise_cons.mp s
    rw [List.countP_cons]
    by_cases ha : a ≤ t
    · have e : decide (a ≤ t) = true := by simpa using ha
      rw [e]
      cases i with
      | zero =>
        simp at h
        subst h
        simp [ha]
      | succ i =>
        have h' : l[i]? = some v := by simpa using h
        rw [rank_up l i v t s2 h']
        simp
    · have e : decide (a ≤ t) = false := by simpa using ha
      rw [e]
      have z : (l.countP fun x => decide (x ≤ t)) = 0 := by
        rw [List.countP_eq_zero]
        intro x hx
        have := s1 x hx
        simp
        omega
      rw [z]
      cases i with
      | zero =>
        simp at h
        subst h
        simp [ha]
      | succ i =>
        have h' : l[i]? = some v := by simpa using h
        have := s1 v (List.mem_of_getElem? h')
        simp
        omega
theorem rank_srt {vs : List Int} {i : Nat} {v : Int} (t : Int) (h : (srt vs)[i]? = some v) : v ≤ t ↔ i < vs.countP fun x => decide (x ≤ t) := by
  rw [rank_up _ i v t (srt_up vs) h, (srt_perm vs).countP_eq]

/-- how many of a chain's places hold at most t -/
def low (load : List Int) (t : Int) (x : Int) : Bool := decide (at1 load x ≤ t)
theorem rank_after {load : List Int} {f : List (List Int)} (v : Valid load.length f) {c : List Int} (hc : c ∈ f) {i : Nat} {x : Int} (hx : c[i]? = some x) (t : Int) : at1 (sortAlong load f) x ≤ t ↔ i < c.countP (low load t) := by
  have h := sortAlong_own v hc
  have e : (srt (c.map (at1 load)))[i]? = some (at1 (sortAlong load f) x) := by rw [← h, List.getElem?_map, hx]; rfl
  rw [rank_srt t e, List.countP_map]
  rfl

theorem asc_iff {load : List Int} : ∀ c : List Int, ascends load c = true ↔ c.Pairwise fun x y => at1 load x ≤ at1 load y
  | [] => by simp [ascends]
  | [x] => by simp [ascends]
  | x :: y :: c => by
    have ih := asc_iff (load := load) (y :: c)
    have e : ascends load (x :: y :: c) = (decide (at1 load x ≤ at1 load y) && ascends load (y :: c)) := rfl
    rw [e, Bool.and_eq_true, ih, List.pairwise_cons (a := x)]
    constructor
    · rintro ⟨h1, h2⟩
      have h1 : at1 load x ≤ at1 load y := by simpa using h1
      refine ⟨fun z hz => ?_, h2⟩
      rcases List.mem_cons.mp hz with hz | hz
      · subst hz; exact h1
      · exact Int.le_trans h1 ((List.pairwise_cons.mp h2).1 z hz)
    · rintro ⟨h1, h2⟩
      exact ⟨by simpa using h1 y List.mem_cons_self, h2⟩
theorem isSorted_iff {load : List Int} {f : List (List Int)} : isSorted load f = true ↔ ∀ c ∈ f, c.Pairwise fun x y => at1 load x ≤ at1 load y := by
  unfold isSorted
  rw [List.all_eq_true]
  exact ⟨fun h c hc => (asc_iff c).mp (h c hc), fun h c hc => (asc_iff c).mpr (h c hc)⟩

/-! ### sets of places -/
/-- with a place of a chain all places ahead of it -/
def Down (D : Int → Bool) (f : List (List Int)) : Prop := ∀ c ∈ f, c.Pairwise fun x y => D y = true → D x = true
/-- the set after sorting -/
def Aft (D : Int → Bool) (f : List (List Int)) (x : Int) : Prop := ∃ c ∈ f, ∃ i, c[i]? = some x ∧ i < c.countP D
/-- the first keeps the second -/
def KP (P Q : List (List Int)) : Prop := ∀ D, Down D Q → ∀ q ∈ Q, q.Pairwise fun x y => Aft D P y → Aft D P x

theorem down_of {load : List Int} {f : List (List Int)} (h : isSorted load f = true) (t : Int) : Down (low load t) f := by
  intro c hc
  refine (isSorted_iff.mp h c hc).imp fun {x y} h => ?_
  unfold low
  intro z
  have z : at1 load y ≤ t := by simpa using z
  simp
  omega
theorem flat_once : ∀ {f : List (List Int)}, f.flatten.Nodup → ∀ {c d : List Int}, c ∈ f → d ∈ f → ∀ {x : Int}, x ∈ c → x ∈ d → c = d
  | [], _, _, _, h, _, _, _, _ => by cases h
  | e :: f, nd, c, d, hc, hd, x, xc, xd => by
    rw [List.flatten_cons] at nd
    obtain ⟨n1, n2, n3⟩ := List.nodup_append.mp nd
    rcases List.mem_cons.mp hc with hc | hc
    · rcases List.mem_cons.mp hd with hd | hd
      · rw [hc, hd]
      · exact absurd rfl (n3 x (hc ▸ xc) x (flatten_mem hd xd))
    · rcases List.mem_cons.mp hd with hd | hd
      · exact absurd rfl (n3 x (hd ▸ xd) x (flatten_mem hc xc))
      · exact flat_once n2 hc hd xc xd
theorem flat_nodup {f : List (List Int)} (nd : f.flatten.Nodup) {c : List Int} (hc : c ∈ f) : c.Nodup := by
  induction f with
  | nil => cases hc
  | cons e f ih =>
    rw [List.flatten_cons] at nd
    obtain ⟨n1, n2, _⟩ := List.nodup_append.mp nd
    rcases List.mem_cons.mp hc with hc | hc
    · exact hc ▸ n1
    · exact ih n2 hc
theorem get_inj {c : List Int} (nd : c.Nodup) {i j : Nat} {x : Int} (hi : c[i]? = some x) (hj : c[j]? = some x) : i = j := by
  obtain ⟨h1, e1⟩ := List.getElem?_eq_some_iff.mp hi
  obtain ⟨h2, e2⟩ := List.getElem?_eq_some_iff.mp hj
  rcases Nat.lt_trichotomy i j with h | h | h
  · exact absurd (e1.trans e2.symm) (List.pairwise_iff_getElem.mp nd i j h1 h2 h)
  · exact h
  · exact absurd (e2.trans e1.symm) (List.pairwise_iff_getElem.mp nd j i h2 h1 h)
theorem aft_iff {D : Int → Bool} {f : List (List Int)} (nd : f.flatten.Nodup) {c : List Int} (hc : c ∈ f) {i : Nat} {x : Int} (hx : c[i]? = some x) : Aft D f x ↔ i < c.countP D := by
  constructor
  · rintro ⟨d, hd, j, hj, l⟩
    have e := flat_once nd hc hd (List.mem_of_getElem? hx) (List.mem_of_getElem? hj)
    subst e
    rw [get_inj (flat_nodup nd hc) hx hj]
    exact l
  · exact fun l => ⟨c, hc, i, hx, l⟩

/-- noughts where the set is -/
def marks (n : Nat) (D : Int → Bool) : List Int := (List.range n).map fun (i : Nat) => if D ((i : Int) + 1) then 0 else 1
theorem marks_len (n : Nat) (D : Int → Bool) : (marks n D).length = n := by unfold marks; rw [List.length_map, List.length_range]
theorem at1_marks {n : Nat} {D : Int → Bool} {x : Int} (h1 : 1 ≤ x) (h2 : x ≤ (n : Int)) : at1 (marks n D) x = if D x then 0 else 1 := by
  have h := at1_get (load := marks n D) h1 (by rw [marks_len]; exact h2)
  unfold marks at h
  rw [List.getElem?_map, List.getElem?_range (by omega)] at h
  have e : (((x - 1).toNat : Nat) : Int) + 1 = x := by omega
  rw [Option.map_some, e] at h
  exact (Option.some.inj h).symm
def bits (load : List Int) : Prop := ∀ v ∈ load, v = 0 ∨ v = 1
theorem marks_bits (n : Nat) (D : Int → Bool) : bits (marks n D) := by
  intro v hv
  unfold marks at hv
  obtain ⟨i, _, e⟩ := List.mem_map.mp hv
  subst e
  split
  · exact .inl rfl
  · exact .inr rfl
theorem low_marks {n : Nat} {D : Int → Bool} {x : Int} (h1 : 1 ≤ x) (h2 : x ≤ (n : Int)) : low (marks n D) 0 x = D x := by
  unfold low
  rw [at1_marks h1 h2]
  cases D x <;> decide

/-- all fillings of n places that are sorted by the second are so after sorting by the first -/
def Keeps (n : Nat) (P Q : List (List Int)) : Prop := ∀ load : List Int, load.length = n → isSorted load Q = true → isSorted (sortAlong load P) Q = true
/-- the same of those by noughts and ones -/
def Keeps01 (n : Nat) (P Q : List (List Int)) : Prop := ∀ load : List Int, load.length = n → bits load → isSorted load Q = true → isSorted (sortAlong load P) Q = true

/-- each place stands in a chain -/
def Full (n : Nat) (f : List (List Int)) : Prop := ∀ x : Int, 1 ≤ x → x ≤ (n : Int) → x ∈ f.flatten
theorem full_get {n : Nat} {f : List (List Int)} (fu : Full n f) {x : Int} (h1 : 1 ≤ x) (h2 : x ≤ (n : Int)) : ∃ c ∈ f, ∃ i : Nat, c[i]? = some x := by
  obtain ⟨c, hc, hx⟩ := List.mem_flatten.mp (fu x h1 h2)
  obtain ⟨i, hi⟩ := List.mem_iff_getElem?.mp hx
  exact ⟨c, hc, i, hi⟩
theorem aft_low {load : List Int} {f : List (List Int)} (v : Valid load.length f) (fu : Full load.length f) {x : Int} (h1 : 1 ≤ x) (h2 : x ≤ (load.length : Int)) (t : Int) : at1 (sortAlong load f) x ≤ t ↔ Aft (low load t) f x := by
  obtain ⟨c, hc, i, hi⟩ := full_get fu h1 h2
  rw [rank_after v hc hi t, aft_iff v.nd hc hi]
theorem pairwise_of {α : Type} {R S : α → α → Prop} {l : List α} (h : l.Pairwise R) (g : ∀ a ∈ l, ∀ b ∈ l, R a b → S a b) : l.Pairwise S := by
  induction l with
  | nil => exact .nil
  | cons a l ih =>
    obtain ⟨h1, h2⟩ := List.pairwise_cons.mp h
    exact List.pairwise_cons.mpr ⟨fun b hb => g a List.mem_cons_self b (List.mem_cons_of_mem _ hb) (h1 b hb), ih h2 fun x hx y hy => g x (List.mem_cons_of_mem _ hx) y (List.mem_cons_of_mem _ hy)⟩
theorem keeps_of_kp {n : Nat} {P Q : List (List Int)} (vp : Valid n P) (fp : Full n P) (vq : Valid n Q) (k : KP P Q) : Keeps n P Q := by
  intro load hl hs
  subst hl
  refine isSorted_iff.mpr fun q hq => ?_
  have rg : ∀ x ∈ q, 1 ≤ x ∧ x ≤ (load.length : Int) := fun x hx => vq.rg x (flatten_mem hq hx)
  refine pairwise_of (R := fun x y => ∀ t, Aft (low load t) P y → Aft (low load t) P x) ?_ fun x hx y hy h => ?_
  · have h : ∀ t, q.Pairwise fun x y => Aft (low load t) P y → Aft (low load t) P x := fun t => k _ (down_of hs t) q hq
    refine List.pairwise_iff_getElem.mpr fun i j hi hj hij t => ?_
    exact List.pairwise_iff_getElem.mp (h t) i j hi hj hij
  · have z := h (at1 (sortAlong load P) y) ((aft_low vp fp (rg y hy).1 (rg y hy).2 _).mp (Int.le_refl _))
    exact (aft_low vp fp (rg x hx).1 (rg x hx).2 _).mpr z
theorem countP_eq_on {α : Type} {p q : α → Bool} : ∀ {l : List α}, (∀ x ∈ l, p x = q x) → l.countP p = l.countP q
  | [], _ => rfl
  | a :: l, h => by rw [List.countP_cons, List.countP_cons, countP_eq_on fun x hx => h x (List.mem_cons_of_mem _ hx), h a List.mem_cons_self]
theorem kp_of_keeps01 {n : Nat} {P Q : List (List Int)} (vp : Valid n P) (fp : Full n P) (vq : Valid n Q) (k : Keeps01 n P Q) : KP P Q := by
  intro D hd q hq
  have hs : isSorted (marks n D) Q = true := isSorted_iff.mpr fun c hc => pairwise_of (hd c hc) fun x hx y hy h => by
    have rx := vq.rg x (flatten_mem hc hx)
    have ry := vq.rg y (flatten_mem hc hy)
    rw [at1_marks rx.1 rx.2, at1_marks ry.1 ry.2]
    cases e : D y with
    | true => rw [h e]; decide
    | false => cases D x <;> decide
  have ha := isSorted_iff.mp (k _ (marks_len n D) (marks_bits n D) hs) q hq
  have vp' : Valid (marks n D).length P := by rw [marks_len]; exact vp
  have fp' : Full (marks n D).length P := by rw [marks_len]; exact fp
  have same : ∀ x, 1 ≤ x → x ≤ (n : Int) → (Aft D P x ↔ at1 (sortAlong (marks n D) P) x ≤ 0) := fun x h1 h2 => by
    obtain ⟨c, hc, i, hi⟩ := full_get fp h1 h2
    rw [rank_after vp' hc hi 0, aft_iff vp.nd hc hi]
    rw [countP_eq_on (p := D) (q := low (marks n D) 0) fun z hz => (low_marks (vp.rg z (flatten_mem hc hz)).1 (vp.rg z (flatten_mem hc hz)).2).symm]
  refine pairwise_of ha fun x hx y hy h => ?_
  have rx := vq.rg x (flatten_mem hq hx)
  have ry := vq.rg y (flatten_mem hq hy)
  rw [same x rx.1 rx.2, same y ry.1 ry.2]
  omega
theorem keeps_iff {n : Nat} {P Q : List (List Int)} (vp : Valid n P) (fp : Full n P) (vq : Valid n Q) : Keeps n P Q ↔ Keeps01 n P Q :=
  ⟨fun h load hl _ hs => h load hl hs, fun h => keeps_of_kp vp fp vq (kp_of_keeps01 vp fp vq h)⟩
end Kt


set_option autoImplicit true
set_option Elab.async false
set_option linter.all false
set_option maxRecDepth 100000
set_option maxHeartbeats 4000000
/-! Families whose chains have at most one place together keep one another only both together: each of the two is that the steps along the ones and along the others may be exchanged. -/
namespace Kt
open Classical

/-! ### counting -/
theorem inj_le {α β : Type} (R : α → β → Prop) : ∀ (l : List α) (m : List β), l.Nodup → (∀ a ∈ l, ∃ b ∈ m, R a b) → (∀ a ∈ l, ∀ a' ∈ l, ∀ b, R a b → R a' b → a = a') → l.length ≤ m.length
  | [], _, _, _, _ => Nat.zero_le _
  | a :: l, m, nd, h, inj => by
    obtain ⟨n1, n2⟩ := List.nodup_cons.mp nd
    obtain ⟨b, hb, r⟩ := h a List.mem_cons_self
    have z := inj_le R l (m.erase b) n2 (fun x hx => by
      obtain ⟨y, hy, ry⟩ := h x (List.mem_cons_of_mem _ hx)
      refine ⟨y, ?_, ry⟩
      have ne : y ≠ b := fun e => n1 (by
        have := inj a List.mem_cons_self x (List.mem_cons_of_mem _ hx) b r (e ▸ ry)
        exact this ▸ hx)
      exact (List.mem_erase_of_ne ne).mpr hy) fun x hx y hy => inj x (List.mem_cons_of_mem _ hx) y (List.mem_cons_of_mem _ hy)
    have e := List.length_erase_of_mem hb
    have : 0 < m.length := List.length_pos_of_mem hb
    rw [List.length_cons]
    omega
theorem sum_le {α : Type} {f g : α → Nat} : ∀ (l : List α), (∀ a ∈ l, f a ≤ g a) → (l.map f).sum ≤ (l.map g).sum ∧ ((l.map f).sum = (l.map g).sum → ∀ a ∈ l, f a = g a)
  | [], _ => ⟨Nat.le_refl _, fun _ a h => by cases h⟩
  | a :: l, h => by
    obtain ⟨h1, h2⟩ := sum_le l fun x hx => h x (List.mem_cons_of_mem _ hx)
    have ha := h a List.mem_cons_self
    rw [List.map_cons, List.map_cons, List.sum_cons, List.sum_cons]
    refine ⟨by omega, fun e x hx => ?_⟩
    rcases List.mem_cons.mp hx with hx | hx
    · subst hx; omega
    · exact h2 (by omega) x hx
/-- so many unlike numbers below their number are all of them -/
theorem perm_below {l : List Nat} (nd : l.Nodup) (h : ∀ x ∈ l, x < l.length) : l.Perm (List.range l.length) := by
  have sub : ∀ (m : List Nat) (k : List Nat), m.Nodup → (∀ x ∈ m, x ∈ k) → k.length ≤ m.length → m.Perm k := by
    intro m
    induction m with
    | nil =>
      intro k _ _ hl
      have : k = [] := List.eq_nil_of_length_eq_zero (by simpa using hl)
      rw [this]
    | cons a m ih =>
      intro k nd hs hl
      obtain ⟨n1, n2⟩ := List.nodup_cons.mp nd
      have ha := hs a List.mem_cons_self
      have e := List.length_erase_of_mem ha
      refine ((ih (k.erase a) n2 (fun x hx => ?_) ?_).cons a).trans (List.perm_cons_erase ha).symm
      · exact (List.mem_erase_of_ne fun (z : x = a) => n1 (z ▸ hx)).mpr (hs x (List.mem_cons_of_mem _ hx))
      · rw [List.length_cons] at hl
        omega
  exact sub l _ nd (fun x hx => List.mem_range.mpr (h x hx)) (by rw [List.length_range]; exact Nat.le_refl _)
theorem same_of_le {α : Type} {f g : α → Nat} {l : List α} (hf : (l.map f).Nodup) (hg : (l.map g).Nodup) (hfb : ∀ a ∈ l, f a < l.length) (hgb : ∀ a ∈ l, g a < l.length) (le : ∀ a ∈ l, f a ≤ g a) : ∀ a ∈ l, f a = g a := by
  refine (sum_le l le).2 ?_
  have p1 := perm_below hf fun x hx => by obtain ⟨a, ha, e⟩ := List.mem_map.mp hx; rw [← e, List.length_map]; exact hfb a ha
  have p2 := perm_below hg fun x hx => by obtain ⟨a, ha, e⟩ := List.mem_map.mp hx; rw [← e, List.length_map]; exact hgb a ha
  rw [p1.sum_nat, p2.sum_nat, List.length_map, List.length_map]
theorem all_met {α : Type} {f : α → Nat} {l : List α} (hf : (l.map f).Nodup) (hfb : ∀ a ∈ l, f a < l.length) {k : Nat} (hk : k < l.length) : ∃ a ∈ l, f a = k := by
  have p1 := perm_below hf fun x hx => by obtain ⟨a, ha, e⟩ := List.mem_map.mp hx; rw [← e, List.length_map]; exact hfb a ha
  have : k ∈ l.map f := p1.mem_iff.mpr (List.mem_range.mpr (by rw [List.length_map]; exact hk))
  exact List.mem_map.mp this

/-! ### steps -/
/-- ahead of it in the same chain -/
def Lt (f : List (List Int)) (x y : Int) : Prop := ∃ c ∈ f, ∃ i j : Nat, i < j ∧ c[i]? = some x ∧ c[j]? = some y
def Comm (P Q : List (List Int)) : Prop := ∀ a b c, Lt P a b → Lt Q b c → ∃ d, Lt Q a d ∧ Lt P d c
/-- at most one place together -/
def Once (P Q : List (List Int)) : Prop := ∀ p ∈ P, ∀ q ∈ Q, ∀ u v, u ∈ p → v ∈ p → u ∈ q → v ∈ q → u = v
theorem Once.symm {P Q : List (List Int)} (h : Once P Q) : Once Q P := fun q hq p hp u v a b c d => h p hp q hq u v c d a b
theorem lt_idx {f : List (List Int)} (nd : f.flatten.Nodup) {c : List Int} (hc : c ∈ f) {x y : Int} {i j : Nat} (hx : c[i]? = some x) (hy : c[j]? = some y) : Lt f x y ↔ i < j := by
  constructor
  · rintro ⟨d, hd, i', j', l, e1, e2⟩
    have e := flat_once nd hc hd (List.mem_of_getElem? hx) (List.mem_of_getElem? e1)
    subst e
    rw [get_inj (flat_nodup nd hc) hx e1, get_inj (flat_nodup nd hc) hy e2]
    exact l
  · exact fun l => ⟨c, hc, i, j, l, hx, hy⟩
theorem Lt.trans {f : List (List Int)} (nd : f.flatten.Nodup) {x y z : Int} (a : Lt f x y) (b : Lt f y z) : Lt f x z := by
  obtain ⟨c, hc, i, j, l, h1, h2⟩ := a
  obtain ⟨d, hd, i', j', l', h3, h4⟩ := b
  have e := flat_once nd hc hd (List.mem_of_getElem? h2) (List.mem_of_getElem? h3)
  subst e
  have := get_inj (flat_nodup nd hc) h2 h3
  exact ⟨c, hc, i, j', by omega, h1, h4⟩
theorem pairwise_get {R : Int → Int → Prop} {c : List Int} (h : c.Pairwise R) {i j : Nat} {x y : Int} (l : i < j) (hx : c[i]? = some x) (hy : c[j]? = some y) : R x y := by
  obtain ⟨h1, e1⟩ := List.getElem?_eq_some_iff.mp hx
  obtain ⟨h2, e2⟩ := List.getElem?_eq_some_iff.mp hy
  have := List.pairwise_iff_getElem.mp h i j h1 h2 l
  rw [e1, e2] at this
  exact this
theorem pairwise_mk {R : Int → Int → Prop} {c : List Int} (h : ∀ (i j : Nat) (x y : Int), i < j → c[i]? = some x → c[j]? = some y → R x y) : c.Pairwise R :=
  List.pairwise_iff_getElem.mpr fun i j hi hj l => h i j _ _ l (List.getElem?_eq_getElem hi) (List.getElem?_eq_getElem hj)

section
variable {P Q : List (List Int)}
theorem countP_split (D : Int → Bool) (c : List Int) : c.countP D + c.countP (fun x => !D x) = c.length := by
  induction c with
  | nil => rfl
  | cons a c ih =>
    rw [List.countP_cons, List.countP_cons, List.length_cons]
    cases D a <;> simp <;> omega

/-- steps that may be exchanged: what is sorted along the one stays so -/
theorem kp_of_comm (np : P.flatten.Nodup) (nq : Q.flatten.Nodup) (fp : ∀ x ∈ Q.flatten, x ∈ P.flatten) (on : Once P Q) (c1 : Comm P Q) (c2 : Comm Q P) : KP P Q := by
  intro D hd q hq
  refine pairwise_mk fun i0 j0 x y l0 hx hy ay => ?_
  have xq := List.mem_of_getElem? hx
  have yq := List.mem_of_getElem? hy
  obtain ⟨p, hp, xp⟩ := List.mem_flatten.mp (fp x (flatten_mem hq xq))
  obtain ⟨p', hp', yp⟩ := List.mem_flatten.mp (fp y (flatten_mem hq yq))
  obtain ⟨i, hi⟩ := List.mem_iff_getElem?.mp xp
  obtain ⟨j, hj⟩ := List.mem_iff_getElem?.mp yp
  rw [aft_iff np hp' hj] at ay
  rw [aft_iff np hp hi]
  have lxy : Lt Q x y := ⟨q, hq, i0, j0, l0, hx, hy⟩
  -- the places of p' behind a place of p along Q
  let Mt : Int → Bool := fun v => decide (∃ u ∈ p, Lt Q u v)
  -- the places ahead of x go to places ahead of y
  have s1 : i ≤ (p'.take j).countP Mt := by
    have ilen : (p.take i).length = i := by
      rw [List.length_take]
      have := (List.getElem?_eq_some_iff.mp hi).1
      omega
    rw [List.countP_eq_length_filter]
    have := inj_le (fun u v => Lt Q u v) (p.take i) ((p'.take j).filter Mt) ((flat_nodup np hp).sublist (List.take_sublist _ _)) (fun u hu => by
      obtain ⟨k, hk⟩ := List.mem_iff_getElem?.mp hu
      rw [List.getElem?_take] at hk
      split at hk
      · next hki =>
        obtain ⟨d, d1, d2⟩ := c1 u x y ⟨p, hp, k, i, hki, hk, hi⟩ lxy
        obtain ⟨p2, hp2, k1, k2, l2, e1, e2⟩ := d2
        have e := flat_once np hp2 hp' (List.mem_of_getElem? e2) yp
        subst e
        have := get_inj (flat_nodup np hp2) e2 hj
        refine ⟨d, List.mem_filter.mpr ⟨?_, ?_⟩, d1⟩
        · refine List.mem_iff_getElem?.mpr ⟨k1, ?_⟩
          rw [List.getElem?_take, if_pos (by omega)]
          exact e1
        · show decide _ = true
          exact decide_eq_true ⟨u, List.mem_of_getElem? hk, d1⟩
      · cases hk) fun u hu u' hu' v r r' => by
      obtain ⟨q1, hq1, _, _, _, a1, a2⟩ := r
      obtain ⟨q2, hq2, _, _, _, b1, b2⟩ := r'
      have e := flat_once nq hq1 hq2 (List.mem_of_getElem? a2) (List.mem_of_getElem? b2)
      subst e
      exact on p hp q1 hq1 u u' (List.mem_of_mem_take hu) (List.mem_of_mem_take hu') (List.mem_of_getElem? a1) (List.mem_of_getElem? b1)
    rw [ilen] at this
    exact this
  -- behind y all are met
  have s2 : (p'.drop j).countP (fun v => !Mt v) = 0 := by
    rw [List.countP_eq_zero]
    intro v hv
    obtain ⟨k, hk⟩ := List.mem_iff_getElem?.mp hv
    rw [List.getElem?_drop] at hk
    have : Mt v = true := by
      show decide _ = true
      refine decide_eq_true ?_
      by_cases hk0 : k = 0
      · subst hk0
        have : v = y := by rw [Nat.add_zero, hj] at hk; exact (Option.some.inj hk).symm
        subst this
        exact ⟨x, xp, lxy⟩
      · obtain ⟨d, d1, d2⟩ := c2 x y v lxy ⟨p', hp', j, j + k, by omega, hj, hk⟩
        obtain ⟨p2, hp2, k1, k2, l2, e1, e2⟩ := d1
        have e := flat_once np hp2 hp (List.mem_of_getElem? e1) xp
        subst e
        exact ⟨d, List.mem_of_getElem? e2, d2⟩
    rw [this]
    decide
  -- so many of the set are met
  have jl : (p'.take j).length = j := by
    rw [List.length_take]
    have := (List.getElem?_eq_some_iff.mp hj).1
    omega
  have s3 : p'.countP (fun v => !Mt v) + i ≤ j := by
    have e : p'.countP (fun v => !Mt v) = (p'.take j).countP (fun v => !Mt v) + (p'.drop j).countP (fun v => !Mt v) := by rw [← List.countP_append, List.take_append_drop]
    have := countP_split Mt (p'.take j)
    omega
  have s4 : p'.countP D ≤ (p'.filter fun v => D v && Mt v).length + p'.countP (fun v => !Mt v) := by
    have g : ∀ l : List Int, l.countP D ≤ l.countP (fun v => D v && Mt v) + l.countP (fun v => !Mt v) := by
      intro l
      induction l with
      | nil => exact Nat.le_refl _
      | cons a l ih =>
        rw [List.countP_cons, List.countP_cons, List.countP_cons]
        cases D a <;> cases Mt a <;> simp <;> omega
    have := g p'
    rw [List.countP_eq_length_filter (p := fun v => D v && Mt v)] at this
    exact this
  have s5 : (p'.filter fun v => D v && Mt v).length ≤ p.countP D := by
    rw [List.countP_eq_length_filter]
    refine inj_le (fun v u => Lt Q u v) _ _ ((flat_nodup np hp').sublist List.filter_sublist) (fun v hv => ?_) fun v hv v' hv' u r r' => ?_
    · obtain ⟨v1, v2⟩ := List.mem_filter.mp hv
      rw [Bool.and_eq_true] at v2
      obtain ⟨u, up, lu⟩ := of_decide_eq_true v2.2
      refine ⟨u, List.mem_filter.mpr ⟨up, ?_⟩, lu⟩
      obtain ⟨q1, hq1, k1, k2, l2, e1, e2⟩ := lu
      exact pairwise_get (hd q1 hq1) l2 e1 e2 v2.1
    · obtain ⟨q1, hq1, _, _, _, a1, a2⟩ := r
      obtain ⟨q2, hq2, _, _, _, b1, b2⟩ := r'
      have e := flat_once nq hq1 hq2 (List.mem_of_getElem? a1) (List.mem_of_getElem? b1)
      subst e
      exact on p' hp' q1 hq1 v v' (List.mem_filter.mp hv).1 (List.mem_filter.mp hv').1 (List.mem_of_getElem? a2) (List.mem_of_getElem? b2)
  omega
end
end Kt


set_option autoImplicit true
set_option Elab.async false
set_option linter.all false
set_option maxRecDepth 100000
set_option maxHeartbeats 4000000
/-! The other way: what is kept lets its steps be exchanged; so of families that meet at most once both keep one another, or none does. -/
namespace Kt
open Classical

theorem idx_get {c : List Int} {x : Int} (h : x ∈ c) : c[c.idxOf x]? = some x := by
  have h1 := List.idxOf_lt_length_of_mem h
  rw [List.getElem?_eq_getElem h1, List.getElem_idxOf]
theorem map_nodup {α : Type} {f : α → Nat} : ∀ {l : List α}, l.Nodup → (∀ a ∈ l, ∀ b ∈ l, f a = f b → a = b) → (l.map f).Nodup
  | [], _, _ => .nil
  | a :: l, nd, h => by
    obtain ⟨n1, n2⟩ := List.nodup_cons.mp nd
    rw [List.map_cons]
    refine List.nodup_cons.mpr ⟨fun z => ?_, map_nodup n2 fun x hx y hy => h x (List.mem_cons_of_mem _ hx) y (List.mem_cons_of_mem _ hy)⟩
    obtain ⟨b, hb, e⟩ := List.mem_map.mp z
    have := h b (List.mem_cons_of_mem _ hb) a List.mem_cons_self e
    exact n1 (this ▸ hb)

section
variable {P Q : List (List Int)}
/-- behind a place of a chain along Q: one of another chain -/
noncomputable def behind (Q : List (List Int)) (p' : List Int) (u : Int) : Int := if h : ∃ v, v ∈ p' ∧ Lt Q u v then h.choose else 0
theorem behind_ok {p' : List Int} {u : Int} (h : ∃ v, v ∈ p' ∧ Lt Q u v) : behind Q p' u ∈ p' ∧ Lt Q u (behind Q p' u) := by
  unfold behind
  rw [dif_pos h]
  exact h.choose_spec
theorem behind_eq (nq : Q.flatten.Nodup) (on : Once P Q) {p' : List Int} (hp' : p' ∈ P) {u v : Int} (hv : v ∈ p') (l : Lt Q u v) : behind Q p' u = v := by
  obtain ⟨h1, h2⟩ := behind_ok (Q := Q) (p' := p') (u := u) ⟨v, hv, l⟩
  obtain ⟨q1, hq1, _, _, _, a1, a2⟩ := l
  obtain ⟨q2, hq2, _, _, _, b1, b2⟩ := h2
  have e := flat_once nq hq1 hq2 (List.mem_of_getElem? a1) (List.mem_of_getElem? b1)
  subst e
  exact on p' hp' q1 hq1 _ _ h1 hv (List.mem_of_getElem? b2) (List.mem_of_getElem? a2)

/-- the places of p that have one of p' behind them along Q -/
noncomputable def meets (Q : List (List Int)) (p p' : List Int) : List Int := p.filter fun u => decide (∃ v, v ∈ p' ∧ Lt Q u v)
theorem meets_mem {p p' : List Int} {u : Int} : u ∈ meets Q p p' ↔ u ∈ p ∧ ∃ v, v ∈ p' ∧ Lt Q u v := by
  unfold meets
  rw [List.mem_filter]
  exact ⟨fun h => ⟨h.1, of_decide_eq_true h.2⟩, fun h => ⟨h.1, decide_eq_true h.2⟩⟩

/-- what being kept says of two places one behind the other -/
theorem kp_count (np : P.flatten.Nodup) (nq : Q.flatten.Nodup) (on : Once P Q) (k : KP P Q) {p p' : List Int} (hp : p ∈ P) (hp' : p' ∈ P) (ne : p ≠ p') {x y : Int} {i j : Nat} (hi : p[i]? = some x) (hj : p'[j]? = some y) (l : Lt Q x y) : i + p'.length ≤ j + (meets Q p p').length := by
  -- noughts but behind the places of p from the i-th of those that are met
  let U := meets Q p p'
  let D : Int → Bool := fun z => decide (¬ ∃ w, w ∈ p ∧ (w = z ∨ Lt Q w z) ∧ w ∉ U.take i)
  have dn : Down D Q := fun q hq => by
    refine pairwise_mk fun a b u v hab hu hv dv => ?_
    refine decide_eq_true fun z => ?_
    obtain ⟨w, w1, w2, w3⟩ := z
    refine of_decide_eq_true dv ⟨w, w1, .inr ?_, w3⟩
    have luv : Lt Q u v := ⟨q, hq, a, b, hab, hu, hv⟩
    rcases w2 with w2 | w2
    · exact w2 ▸ luv
    · exact Lt.trans nq w2 luv
  have c1 : p.countP D ≤ i := by
    rw [List.countP_eq_length_filter]
    have h : (p.filter D).length ≤ (U.take i).length := inj_le (fun a b => a = b) _ _ ((flat_nodup np hp).sublist List.filter_sublist) (fun w hw => by
      obtain ⟨w1, w2⟩ := List.mem_filter.mp hw
      refine ⟨w, ?_, rfl⟩
      by_cases z : w ∈ U.take i
      · exact z
      · exact absurd ⟨w, w1, .inl rfl, z⟩ (of_decide_eq_true w2)) fun a _ a' _ b r r' => r.trans r'.symm
    rw [List.length_take] at h
    omega
  obtain ⟨q, hq, a, b, hab, hx, hy⟩ := l
  have kk := pairwise_get (k D dn q hq) hab hx hy
  rw [aft_iff np hp' hj, aft_iff np hp hi] at kk
  have c2 : p'.countP D ≤ j := by
    by_cases h : j < p'.countP D
    · have := kk h
      omega
    · omega
  have c3 : p'.countP (fun z => !D z) ≤ (U.drop i).length := by
    rw [List.countP_eq_length_filter]
    refine inj_le (fun v u => Lt Q u v) _ _ ((flat_nodup np hp').sublist List.filter_sublist) (fun v hv => ?_) fun v hv v' hv' u r r' => ?_
    · obtain ⟨v1, v2⟩ := List.mem_filter.mp hv
      have v3 : ¬ D v = true := by simpa using v2
      have v4 : ∃ w, w ∈ p ∧ (w = v ∨ Lt Q w v) ∧ w ∉ U.take i := Classical.byContradiction fun z => v3 (decide_eq_true z)
      obtain ⟨w, w1, w2, w3⟩ := v4
      have w4 : Lt Q w v := by
        rcases w2 with w2 | w2
        · exact absurd (flat_once np hp hp' w1 (w2 ▸ v1)) ne
        · exact w2
      have w5 : w ∈ U := meets_mem.mpr ⟨w1, v, v1, w4⟩
      refine ⟨w, ?_, w4⟩
      have e : U.take i ++ U.drop i = U := List.take_append_drop i U
      rw [← e] at w5
      rcases List.mem_append.mp w5 with z | z
      · exact absurd z w3
      · exact z
    · obtain ⟨q1, hq1, _, _, _, a1, a2⟩ := r
      obtain ⟨q2, hq2, _, _, _, b1, b2⟩ := r'
      have e := flat_once nq hq1 hq2 (List.mem_of_getElem? a1) (List.mem_of_getElem? b1)
      subst e
      exact on p' hp' q1 hq1 v v' (List.mem_filter.mp hv).1 (List.mem_filter.mp hv').1 (List.mem_of_getElem? a2) (List.mem_of_getElem? b2)
  rw [List.length_drop] at c3
  have sp := countP_split D p'
  have jl := (List.getElem?_eq_some_iff.mp hj).1
  show i + p'.length ≤ j + U.length
  omega

/-- the k-th of those that are met is the k-th of its chain, and so from the end of the other chain -/
theorem kp_meets (np : P.flatten.Nodup) (nq : Q.flatten.Nodup) (on : Once P Q) (k : KP P Q) {p p' : List Int} (hp : p ∈ P) (hp' : p' ∈ P) (ne : p ≠ p') :
    (∀ u ∈ meets Q p p', p.idxOf u + p'.length = p'.idxOf (behind Q p' u) + (meets Q p p').length) ∧ (∀ i, i < (meets Q p p').length → ∃ u ∈ meets Q p p', p.idxOf u = i) := by
  have nU : (meets Q p p').Nodup := (flat_nodup np hp).sublist List.filter_sublist
  have c : ∀ u ∈ meets Q p p', p.idxOf u + p'.length ≤ p'.idxOf (behind Q p' u) + (meets Q p p').length ∧ p'.idxOf (behind Q p' u) < p'.length := fun u hu => by
    obtain ⟨h1, h2⟩ := meets_mem.mp hu
    obtain ⟨h3, h4⟩ := behind_ok h2
    exact ⟨kp_count np nq on k hp hp' ne (idx_get h1) (idx_get h3) h4, List.idxOf_lt_length_of_mem h3⟩
  have nf : ((meets Q p p').map fun u => p.idxOf u).Nodup := map_nodup nU fun a ha b hb e => by
    have h1 := idx_get (meets_mem.mp ha).1
    have h2 := idx_get (meets_mem.mp hb).1
    rw [e, h2] at h1
    exact (Option.some.inj h1).symm
  have bf : ∀ u ∈ meets Q p p', p.idxOf u < (meets Q p p').length := fun u hu => by
    have := c u hu
    omega
  refine ⟨?_, fun i hi => all_met nf bf hi⟩
  have ng : ((meets Q p p').map fun u => p'.idxOf (behind Q p' u) + (meets Q p p').length - p'.length).Nodup := map_nodup nU fun a ha b hb e => by
    have c1 := c a ha
    have c2 := c b hb
    obtain ⟨a1, a2⟩ := behind_ok (meets_mem.mp ha).2
    obtain ⟨b1, b2⟩ := behind_ok (meets_mem.mp hb).2
    have ei : p'.idxOf (behind Q p' a) = p'.idxOf (behind Q p' b) := by omega
    have h1 := idx_get a1
    have h2 := idx_get b1
    rw [ei, h2] at h1
    have eb := Option.some.inj h1
    rw [eb] at b2
    obtain ⟨q1, hq1, _, _, _, x1, x2⟩ := a2
    obtain ⟨q2, hq2, _, _, _, y1, y2⟩ := b2
    have e := flat_once nq hq1 hq2 (List.mem_of_getElem? x2) (List.mem_of_getElem? y2)
    subst e
    exact on p hp q1 hq1 a b (meets_mem.mp ha).1 (meets_mem.mp hb).1 (List.mem_of_getElem? x1) (List.mem_of_getElem? y1)
  have bg : ∀ u ∈ meets Q p p', p'.idxOf (behind Q p' u) + (meets Q p p').length - p'.length < (meets Q p p').length := fun u hu => by
    have := c u hu
    have := List.length_pos_of_mem hu
    omega
  have le : ∀ u ∈ meets Q p p', p.idxOf u ≤ p'.idxOf (behind Q p' u) + (meets Q p p').length - p'.length := fun u hu => by
    have := c u hu
    omega
  intro u hu
  have e := same_of_le nf ng bf bg le u hu
  have := c u hu
  omega

theorem idx_of {c : List Int} (nd : c.Nodup) {i : Nat} {x : Int} (h : c[i]? = some x) : c.idxOf x = i := get_inj nd (idx_get (List.mem_of_getElem? h)) h

theorem comm_of_kp (np : P.flatten.Nodup) (nq : Q.flatten.Nodup) (fq : ∀ x ∈ Q.flatten, x ∈ P.flatten) (on : Once P Q) (k : KP P Q) : Comm P Q ∧ Comm Q P := by
  constructor
  · intro a b c ab bc
    obtain ⟨p, hp, i, j, ij, ha, hb⟩ := ab
    have bc' := bc
    obtain ⟨q, hq, i0, j0, l0, hb0, hc0⟩ := bc
    obtain ⟨p', hp', hc⟩ := List.mem_flatten.mp (fq c (flatten_mem hq (List.mem_of_getElem? hc0)))
    have ne : p ≠ p' := fun e => by
      subst e
      have := on p hp q hq b c (List.mem_of_getElem? hb) hc (List.mem_of_getElem? hb0) (List.mem_of_getElem? hc0)
      subst this
      have := get_inj (flat_nodup nq hq) hb0 hc0
      omega
    obtain ⟨k1, k2⟩ := kp_meets np nq on k hp hp' ne
    have bU : b ∈ meets Q p p' := meets_mem.mpr ⟨List.mem_of_getElem? hb, c, hc, bc'⟩
    have eb := k1 b bU
    rw [behind_eq nq on hp' hc bc', idx_of (flat_nodup np hp) hb] at eb
    have lc := List.idxOf_lt_length_of_mem hc
    obtain ⟨u, uU, eu⟩ := k2 i (by omega)
    obtain ⟨up, uv⟩ := meets_mem.mp uU
    have hu := idx_get up
    rw [eu, ha] at hu
    have hu := Option.some.inj hu
    subst hu
    obtain ⟨d1, d2⟩ := behind_ok uv
    have ea := k1 a uU
    exact ⟨_, d2, p', hp', _, _, by omega, idx_get d1, idx_get hc⟩
  · intro a b c ab bc
    obtain ⟨p', hp', i, j, ij, hb, hc⟩ := bc
    have ab' := ab
    obtain ⟨q, hq, i0, j0, l0, ha0, hb0⟩ := ab
    obtain ⟨p, hp, ha⟩ := List.mem_flatten.mp (fq a (flatten_mem hq (List.mem_of_getElem? ha0)))
    have ne : p ≠ p' := fun e => by
      subst e
      have := on p hp q hq a b ha (List.mem_of_getElem? hb) (List.mem_of_getElem? ha0) (List.mem_of_getElem? hb0)
      subst this
      have := get_inj (flat_nodup nq hq) ha0 hb0
      omega
    obtain ⟨k1, k2⟩ := kp_meets np nq on k hp hp' ne
    have aU : a ∈ meets Q p p' := meets_mem.mpr ⟨ha, b, List.mem_of_getElem? hb, ab'⟩
    have ea := k1 a aU
    rw [behind_eq nq on hp' (List.mem_of_getElem? hb) ab', idx_of (flat_nodup np hp') hb] at ea
    have lc := (List.getElem?_eq_some_iff.mp hc).1
    obtain ⟨u, uU, eu⟩ := k2 (p.idxOf a + (j - i)) (by omega)
    obtain ⟨up, uv⟩ := meets_mem.mp uU
    obtain ⟨d1, d2⟩ := behind_ok uv
    have e2 := k1 u uU
    have e3 : p'.idxOf (behind Q p' u) = j := by omega
    have e4 := idx_get d1
    rw [e3, hc] at e4
    have e4 := Option.some.inj e4
    rw [← e4] at d2
    exact ⟨u, ⟨p, hp, _, _, by omega, idx_get ha, idx_get up⟩, d2⟩

/-- families that meet at most once keep one another only both together -/
theorem kp_symm (np : P.flatten.Nodup) (nq : Q.flatten.Nodup) (fq : ∀ x ∈ Q.flatten, x ∈ P.flatten) (fp : ∀ x ∈ P.flatten, x ∈ Q.flatten) (on : Once P Q) (k : KP P Q) : KP Q P := by
  obtain ⟨c1, c2⟩ := comm_of_kp np nq fq on k
  exact kp_of_comm nq np fp on.symm c2 c1
end
end Kt


set_option autoImplicit true
set_option Elab.async false
set_option linter.all false
set_option maxRecDepth 100000
set_option maxHeartbeats 4000000
/-! What breaking works out, as a function of lists: the best choices of rests, and what they say. -/
namespace Kt
open Classical

/-! ### lists of entries -/
def look {β : Type} (kvs : List (Int × β)) (k : Int) : Option β := (kvs.find? fun e => decide (e.1 = k)).map (·.2)
def putG {β : Type} (kvs : List (Int × β)) (k : Int) (v : β) : List (Int × β) :=
  if kvs.any fun e => decide (e.1 = k) then kvs.map fun e => if e.1 = k then (e.1, v) else e else kvs ++ [(k, v)]
theorem look_mem {β : Type} {kvs : List (Int × β)} {k : Int} {v : β} (h : look kvs k = some v) : (k, v) ∈ kvs := by
  unfold look at h
  obtain ⟨e, he, hv⟩ := Option.map_eq_some_iff.mp h
  have h1 := List.mem_of_find?_eq_some he
  have h2 := List.find?_some he
  have h2 : e.1 = k := by simpa using h2
  have : e = (k, v) := by rw [← h2, ← hv]
  rw [← this]
  exact h1
theorem look_cons {β : Type} (e : Int × β) (kvs : List (Int × β)) (k : Int) : look (e :: kvs) k = if e.1 = k then some e.2 else look kvs k := by
  unfold look
  rw [List.find?_cons]
  by_cases h : e.1 = k
  · simp [h]
  · simp [h]
theorem look_none {β : Type} {kvs : List (Int × β)} {k : Int} : look kvs k = none ↔ (kvs.any fun e => decide (e.1 = k)) = false := by
  induction kvs with
  | nil => simp [look]
  | cons e kvs ih =>
    rw [look_cons, List.any_cons]
    by_cases h : e.1 = k
    · simp [h]
    · simp [h]
      simpa using ih
theorem look_put {β : Type} (kvs : List (Int × β)) (k j : Int) (v : β) : look (putG kvs k v) j = if j = k then some v else look kvs j := by
  unfold putG
  split
  · next h =>
    have g : ∀ l : List (Int × β), look (l.map fun e => if e.1 = k then (e.1, v) else e) j = if j = k then (if (l.any fun e => decide (e.1 = k)) then some v else none) else look l j := by
      intro l
      induction l with
      | nil => simp [look]
      | cons e l ih =>
        rw [List.map_cons, look_cons, ih, List.any_cons, look_cons]
        by_cases h1 : e.1 = k
        · by_cases h2 : j = k
          · simp [h1, h2]
          · simp [h1, h2, Ne.symm h2]
        · by_cases h2 : j = k
          · subst h2
            simp [h1]
          · simp [h1, h2]
    rw [g, h]
    simp
  · next h =>
    have g : ∀ l : List (Int × β), (l.any fun e => decide (e.1 = k)) = false → look (l ++ [(k, v)]) j = if j = k then some v else look l j := by
      intro l
      induction l with
      | nil =>
        intro _
        rw [List.nil_append, look_cons]
        by_cases h2 : j = k
        · simp [h2]
        · simp [look, h2, Ne.symm h2]
      | cons e l ih =>
        intro ha
        rw [List.any_cons, Bool.or_eq_false_iff] at ha
        have h1 : ¬ e.1 = k := by simpa using ha.1
        rw [List.cons_append, look_cons, ih ha.2, look_cons]
        by_cases h2 : j = k
        · subst h2
          simp [h1]
        · by_cases h3 : e.1 = j <;> simp [h2, h3]
    exact g kvs (by rcases Bool.eq_false_or_eq_true (kvs.any fun e => decide (e.1 = k)) with z | z; exact absurd z h; exact z)
theorem put_mem {β : Type} {kvs : List (Int × β)} {k : Int} {v : β} {e : Int × β} (h : e ∈ putG kvs k v) : e ∈ kvs ∨ e = (k, v) := by
  unfold putG at h
  split at h
  · obtain ⟨a, ha, e'⟩ := List.mem_map.mp h
    split at e'
    · next hk => exact .inr (by rw [← e', hk])
    · exact .inl (e' ▸ ha)
  · rcases List.mem_append.mp h with h | h
    · exact .inl h
    · exact .inr (by simpa using h)

/-! ### choices of rests -/
def cntIn (os c : List Int) : Int := ((os.countP fun x => decide (x ∈ c) : Nat) : Int)
theorem cntIn_append (a b c : List Int) : cntIn (a ++ b) c = cntIn a c + cntIn b c := by unfold cntIn; rw [List.countP_append]; omega
theorem cntIn_nil (c : List Int) : cntIn [] c = 0 := rfl
theorem cntIn_nonneg (a c : List Int) : 0 ≤ cntIn a c := by unfold cntIn; omega
inductive Ch : List (List Int) → List Int → Prop
  | nil : Ch [] []
  | snoc {cs : List (List Int)} {os : List Int} (c : List Int) (k : Nat) : Ch cs os → Ch (cs ++ [c]) (os ++ c.drop k)
theorem Ch.inv {cs : List (List Int)} {c os : List Int} (h : Ch (cs ++ [c]) os) : ∃ os' k, Ch cs os' ∧ os = os' ++ c.drop k := by
  generalize e : cs ++ [c] = ds at h
  cases h with
  | nil => exact absurd e (by simp)
  | snoc c' k h' =>
    obtain ⟨e1, e2⟩ := List.append_inj' e rfl
    subst e1
    have e2 : c = c' := by simpa using e2
    subst e2
    exact ⟨_, k, h', rfl⟩

abbrev Ent := Int × Int × List Int
def imp (allowed : Int) (found : List Ent) (c : Ent) : List Ent :=
  if c.1 ≤ allowed ∧ (∀ v, look found c.1 = some v → v.1 < c.2.1) then putG found c.1 c.2 else found
/-- the rests, with how many lie in the rich and in the poor chain -/
def rests (c rich poor : List Int) : List (Int × Int × List Int) := (List.range (c.length + 1)).map fun k => (cntIn (c.drop (c.length - k)) rich, cntIn (c.drop (c.length - k)) poor, c.drop (c.length - k))
def joined (e : Ent) (r : Int × Int × List Int) : Ent := (e.1 + r.2.1, e.2.1 + r.1, e.2.2 ++ r.2.2)
def bestWith (best : List Ent) (rs : List (Int × Int × List Int)) (allowed : Int) : List Ent := best.foldl (fun f e => rs.foldl (fun f r => imp allowed f (joined e r)) f) []
def bestOf (kept : List (List Int)) (rich poor : List Int) (allowed : Int) : List Ent := kept.foldl (fun b c => bestWith b (rests c rich poor) allowed) [(0, 0, [])]
def partOnes (kept : List (List Int)) (rich poor : List Int) (needed allowed : Int) : Option (List Int) := ((bestOf kept rich poor allowed).find? fun e => decide (needed ≤ e.2.1)).map (·.2.2)

theorem bestWith_flat (best : List Ent) (rs : List (Int × Int × List Int)) (allowed : Int) : bestWith best rs allowed = (best.flatMap fun e => rs.map (joined e)).foldl (imp allowed) [] := by
  unfold bestWith
  have g : ∀ (l : List Ent) (f : List Ent), l.foldl (fun f e => rs.foldl (fun f r => imp allowed f (joined e r)) f) f = (l.flatMap fun e => rs.map (joined e)).foldl (imp allowed) f := by
    intro l
    induction l with
    | nil => intro f; rfl
    | cons e l ih => intro f; rw [List.foldl_cons, ih, List.flatMap_cons, List.foldl_append, List.foldl_map]
  exact g best []
theorem imp_sound {allowed : Int} : ∀ (l : List Ent) (f : List Ent), ∀ e ∈ l.foldl (imp allowed) f, e ∈ f ∨ (e ∈ l ∧ e.1 ≤ allowed)
  | [], f, e, h => .inl h
  | c :: l, f, e, h => by
    rw [List.foldl_cons] at h
    rcases imp_sound l _ e h with h | h
    · unfold imp at h
      split at h
      · next hc =>
        rcases put_mem h with h | h
        · exact .inl h
        · subst h
          exact .inr ⟨List.mem_cons_self, hc.1⟩
      · exact .inl h
    · exact .inr ⟨List.mem_cons_of_mem _ h.1, h.2⟩
theorem imp_grows {allowed : Int} {f : List Ent} {c : Ent} {k : Int} {v : Int × List Int} (h : look f k = some v) : ∃ w, look (imp allowed f c) k = some w ∧ v.1 ≤ w.1 := by
  unfold imp
  split
  · next hc =>
    rw [look_put]
    split
    · next e =>
      subst e
      exact ⟨_, rfl, Int.le_of_lt (hc.2 v h)⟩
    · exact ⟨v, h, Int.le_refl _⟩
  · exact ⟨v, h, Int.le_refl _⟩
theorem fold_grows {allowed : Int} : ∀ (l : List Ent) {f : List Ent} {k : Int} {v : Int × List Int}, look f k = some v → ∃ w, look (l.foldl (imp allowed) f) k = some w ∧ v.1 ≤ w.1
  | [], _, _, v, h => ⟨v, h, Int.le_refl _⟩
  | c :: l, f, k, v, h => by
    obtain ⟨w, h1, h2⟩ := imp_grows (allowed := allowed) (c := c) h
    obtain ⟨u, h3, h4⟩ := fold_grows l h1
    exact ⟨u, h3, Int.le_trans h2 h4⟩
theorem imp_compl {allowed : Int} : ∀ (l : List Ent) (f : List Ent), ∀ c ∈ l, c.1 ≤ allowed → ∃ w, look (l.foldl (imp allowed) f) c.1 = some w ∧ c.2.1 ≤ w.1
  | [], _, c, h, _ => by cases h
  | d :: l, f, c, h, ha => by
    rw [List.foldl_cons]
    rcases List.mem_cons.mp h with h | h
    · subst h
      have : ∃ w, look (imp allowed f c) c.1 = some w ∧ c.2.1 ≤ w.1 := by
        unfold imp
        split
        · rw [look_put, if_pos rfl]
          exact ⟨_, rfl, Int.le_refl _⟩
        · next hn =>
          cases e : look f c.1 with
          | none => exact absurd ⟨ha, fun v hv => by rw [e] at hv; cases hv⟩ hn
          | some v =>
            refine ⟨v, rfl, Int.not_lt.mp fun z => hn ⟨ha, fun v' hv' => ?_⟩⟩
            rw [e] at hv'
            rw [← Option.some.inj hv']
            exact z
      obtain ⟨w, h1, h2⟩ := this
      obtain ⟨u, h3, h4⟩ := fold_grows (allowed := allowed) l h1
      exact ⟨u, h3, Int.le_trans h2 h4⟩
    · exact imp_compl l _ c h ha

structure Good (cs : List (List Int)) (rich poor : List Int) (allowed : Int) (kvs : List Ent) : Prop where
  sound : ∀ e ∈ kvs, Ch cs e.2.2 ∧ e.1 = cntIn e.2.2 poor ∧ e.2.1 = cntIn e.2.2 rich ∧ e.1 ≤ allowed
  compl : ∀ os, Ch cs os → cntIn os poor ≤ allowed → ∃ e ∈ kvs, e.1 = cntIn os poor ∧ cntIn os rich ≤ e.2.1
theorem rests_mem {c rich poor : List Int} {r : Int × Int × List Int} : r ∈ rests c rich poor ↔ ∃ k, r = (cntIn (c.drop k) rich, cntIn (c.drop k) poor, c.drop k) := by
  unfold rests
  constructor
  · intro h
    obtain ⟨k, _, e⟩ := List.mem_map.mp h
    exact ⟨_, e.symm⟩
  · rintro ⟨k, rfl⟩
    refine List.mem_map.mpr ⟨c.length - k, List.mem_range.mpr (by omega), ?_⟩
    have : c.drop (c.length - (c.length - k)) = c.drop k := by
      by_cases h : k ≤ c.length
      · congr 1
        omega
      · rw [List.drop_eq_nil_of_le (by omega : c.length ≤ k), List.drop_eq_nil_of_le (by omega)]
    rw [this]
theorem Good.step {cs : List (List Int)} {rich poor : List Int} {allowed : Int} {kvs : List Ent} (g : Good cs rich poor allowed kvs) (c : List Int) : Good (cs ++ [c]) rich poor allowed (bestWith kvs (rests c rich poor) allowed) := by
  rw [bestWith_flat]
  constructor
  · intro e he
    rcases imp_sound _ _ e he with h | ⟨h, ha⟩
    · cases h
    · obtain ⟨d, hd, hr⟩ := List.mem_flatMap.mp h
      obtain ⟨r, hr, e'⟩ := List.mem_map.mp hr
      obtain ⟨k, rfl⟩ := rests_mem.mp hr
      obtain ⟨g1, g2, g3, _⟩ := g.sound d hd
      subst e'
      refine ⟨.snoc c k g1, ?_, ?_, ha⟩
      · show d.1 + _ = cntIn (d.2.2 ++ _) poor
        rw [cntIn_append, g2]
      · show d.2.1 + _ = cntIn (d.2.2 ++ _) rich
        rw [cntIn_append, g3]
  · intro os ho ha
    obtain ⟨os', k, h1, e⟩ := ho.inv
    subst e
    rw [cntIn_append] at ha
    have n0 := cntIn_nonneg (c.drop k) poor
    obtain ⟨d, hd, e1, e2⟩ := g.compl os' h1 (by omega)
    obtain ⟨w, h3, h4⟩ := imp_compl (allowed := allowed) (kvs.flatMap fun e => (rests c rich poor).map (joined e)) [] (joined d (cntIn (c.drop k) rich, cntIn (c.drop k) poor, c.drop k)) (List.mem_flatMap.mpr ⟨d, hd, List.mem_map.mpr ⟨_, rests_mem.mpr ⟨k, rfl⟩, rfl⟩⟩) (by show d.1 + cntIn (c.drop k) poor ≤ allowed; omega)
    refine ⟨_, look_mem h3, ?_, ?_⟩
    · show d.1 + _ = _
      rw [cntIn_append, e1]
    · have h4 : d.2.1 + cntIn (c.drop k) rich ≤ w.1 := h4
      rw [cntIn_append]
      show _ ≤ w.1
      omega
theorem bestOf_good (kept : List (List Int)) (rich poor : List Int) {allowed : Int} (h0 : 0 ≤ allowed) : Good kept rich poor allowed (bestOf kept rich poor allowed) := by
  have g : ∀ (l : List (List Int)) (cs : List (List Int)) (b : List Ent), Good cs rich poor allowed b → Good (cs ++ l) rich poor allowed (l.foldl (fun b c => bestWith b (rests c rich poor) allowed) b) := by
    intro l
    induction l with
    | nil => intro cs b h; rw [List.append_nil]; exact h
    | cons c l ih =>
      intro cs b h
      rw [List.foldl_cons]
      have e : cs ++ c :: l = (cs ++ [c]) ++ l := by simp
      rw [e]
      exact ih _ _ (h.step c)
  have z := g kept [] [(0, 0, [])] ⟨fun e he => by
    have : e = (0, 0, []) := by simpa using he
    subst this
    exact ⟨.nil, rfl, rfl, h0⟩, fun os ho _ => by
    generalize e : ([] : List (List Int)) = cs at ho
    cases ho with
    | nil => exact ⟨_, List.mem_cons_self, rfl, Int.le_refl _⟩
    | snoc c k _ => exact absurd e (by simp)⟩
  exact z
theorem partOnes_some {kept : List (List Int)} {rich poor : List Int} {needed allowed : Int} (h0 : 0 ≤ allowed) {os : List Int} (h : partOnes kept rich poor needed allowed = some os) : Ch kept os ∧ needed ≤ cntIn os rich ∧ cntIn os poor ≤ allowed := by
  unfold partOnes at h
  obtain ⟨e, he, ho⟩ := Option.map_eq_some_iff.mp h
  obtain ⟨g1, g2, g3, g4⟩ := (bestOf_good kept rich poor h0).sound e (List.mem_of_find?_eq_some he)
  have h2 := List.find?_some he
  have h2 : needed ≤ e.2.1 := by simpa using h2
  subst ho
  exact ⟨g1, by omega, by omega⟩
theorem partOnes_none {kept : List (List Int)} {rich poor : List Int} {needed allowed : Int} (h0 : 0 ≤ allowed) (h : partOnes kept rich poor needed allowed = none) {os : List Int} (ho : Ch kept os) (hp : cntIn os poor ≤ allowed) : cntIn os rich < needed := by
  unfold partOnes at h
  obtain ⟨e, he, e1, e2⟩ := (bestOf_good kept rich poor h0).compl os ho hp
  have h := Option.map_eq_none_iff.mp h
  have h3 := List.find?_eq_none.mp h e he
  have h3 : ¬ needed ≤ e.2.1 := by simpa using h3
  omega
end Kt


set_option autoImplicit true
set_option Elab.async false
set_option linter.all false
set_option maxRecDepth 100000
set_option maxHeartbeats 4000000
/-! What breaking answers: a filling that shows it, and none only if the first family keeps the second. -/
namespace Kt
open Classical

/-! ### choices and sets -/
theorem Ch.sub {cs : List (List Int)} {os : List Int} (h : Ch cs os) : os.Sublist cs.flatten := by
  induction h with
  | nil => exact List.Sublist.refl _
  | snoc c k _ ih => rw [List.flatten_append, List.flatten_singleton]; exact ih.append (List.drop_sublist _ _)
theorem Ch.at {cs : List (List Int)} {os : List Int} (h : Ch cs os) : cs.flatten.Nodup → ∀ c ∈ cs, ∃ k, ∀ z ∈ c, z ∈ os ↔ z ∈ c.drop k := by
  induction h with
  | nil => intro _ c hc; cases hc
  | @snoc cs os c' k' h' ih =>
    intro nd c hc
    rw [List.flatten_append, List.flatten_singleton] at nd
    obtain ⟨n1, n2, n3⟩ := List.nodup_append.mp nd
    rcases List.mem_append.mp hc with hc | hc
    · obtain ⟨k, hk⟩ := ih n1 c hc
      refine ⟨k, fun z hz => ?_⟩
      rw [List.mem_append, hk z hz]
      exact ⟨fun h => h.elim id fun h => absurd rfl (n3 z (flatten_mem hc hz) z (List.mem_of_mem_drop h)), .inl⟩
    · have e : c = c' := by simpa using hc
      subst e
      refine ⟨k', fun z hz => ?_⟩
      rw [List.mem_append]
      exact ⟨fun h => h.elim (fun h => absurd rfl (n3 z (h'.sub.subset h) z hz)) id, .inr⟩
def off (os : List Int) (z : Int) : Bool := decide (z ∉ os)
theorem Ch.down {cs : List (List Int)} {os : List Int} (h : Ch cs os) (nd : cs.flatten.Nodup) : Down (off os) cs := by
  intro c hc
  obtain ⟨k, hk⟩ := h.at nd c hc
  refine pairwise_mk fun i j x y l hx hy hd => ?_
  have hd : y ∉ os := of_decide_eq_true hd
  refine decide_eq_true fun hx' => hd ?_
  rw [hk y (List.mem_of_getElem? hy)]
  obtain ⟨m, hm⟩ := List.mem_iff_getElem?.mp ((hk x (List.mem_of_getElem? hx)).mp hx')
  rw [List.getElem?_drop] at hm
  have := get_inj (flat_nodup nd hc) hx hm
  refine List.mem_iff_getElem?.mpr ⟨j - k, ?_⟩
  rw [List.getElem?_drop]
  have : k + (j - k) = j := by omega
  rw [this]
  exact hy
theorem cntIn_len {os c : List Int} (no : os.Nodup) (nc : c.Nodup) {D : Int → Bool} (hD : ∀ z ∈ c, D z = true ↔ z ∉ os) : cntIn os c + ((c.countP D : Nat) : Int) = c.length := by
  unfold cntIn
  have e : (os.countP fun x => decide (x ∈ c)) = c.countP fun x => !D x := by
    rw [List.countP_eq_length_filter, List.countP_eq_length_filter]
    have m : ∀ z, z ∈ os.filter (fun x => decide (x ∈ c)) ↔ z ∈ c.filter fun x => !D x := fun z => by
      rw [List.mem_filter, List.mem_filter]
      constructor
      · rintro ⟨h1, h2⟩
        have h2 : z ∈ c := of_decide_eq_true h2
        refine ⟨h2, ?_⟩
        cases e : D z with
        | true => exact absurd h1 ((hD z h2).mp e)
        | false => rfl
      · rintro ⟨h1, h2⟩
        refine ⟨Classical.byContradiction fun z' => ?_, decide_eq_true h1⟩
        rw [(hD z h1).mpr z'] at h2
        cases h2
    refine Nat.le_antisymm ?_ ?_
    · exact inj_le (fun a b => a = b) _ _ (no.sublist List.filter_sublist) (fun a ha => ⟨a, (m a).mp ha, rfl⟩) fun a _ a' _ b r r' => r.trans r'.symm
    · exact inj_le (fun a b => a = b) _ _ (nc.sublist List.filter_sublist) (fun a ha => ⟨a, (m a).mpr ha, rfl⟩) fun a _ a' _ b r r' => r.trans r'.symm
  rw [e]
  have := countP_split D c
  omega
theorem filter_rest {D : Int → Bool} : ∀ {c : List Int}, c.Pairwise (fun x y => D y = true → D x = true) → c.filter (fun x => !D x) = c.drop (c.countP D)
  | [], _ => rfl
  | a :: c, h => by
    obtain ⟨h1, h2⟩ := List.pairwise_cons.mp h
    rw [List.countP_cons, List.filter_cons]
    cases e : D a with
    | true => simpa using filter_rest h2
    | false =>
      have z : c.countP D = 0 := by
        rw [List.countP_eq_zero]
        intro x hx hd
        rw [h1 x hx hd] at e
        cases e
      have ih := filter_rest h2
      rw [z] at ih
      rw [z]
      simp [ih]
theorem Ch.all {g : List Int → List Int} : ∀ (l : List (List Int)) {cs : List (List Int)} {os : List Int}, Ch cs os → (∀ c ∈ l, ∃ k, g c = c.drop k) → Ch (cs ++ l) (os ++ (l.map g).flatten)
  | [], cs, os, h, _ => by simpa using h
  | c :: l, cs, os, h, hg => by
    obtain ⟨k, hk⟩ := hg c List.mem_cons_self
    have z := Ch.all (g := g) l (h.snoc c k) fun d hd => hg d (List.mem_cons_of_mem _ hd)
    rw [List.map_cons, List.flatten_cons, hk]
    have e1 : cs ++ c :: l = cs ++ [c] ++ l := by simp
    rw [e1, ← List.append_assoc]
    exact z
theorem choice_of {D : Int → Bool} {Q : List (List Int)} (hd : Down D Q) : ∃ os, Ch Q os ∧ ∀ z ∈ Q.flatten, D z = true ↔ z ∉ os := by
  refine ⟨(Q.map fun c => c.filter fun x => !D x).flatten, ?_, fun z hz => ?_⟩
  · have h := Ch.all (g := fun c => c.filter fun x => !D x) Q Ch.nil fun c hc => ⟨_, filter_rest (hd c hc)⟩
    simpa using h
  · constructor
    · intro h m
      obtain ⟨l, hl, hm⟩ := List.mem_flatten.mp m
      obtain ⟨c, _, e⟩ := List.mem_map.mp hl
      subst e
      have := (List.mem_filter.mp hm).2
      rw [h] at this
      cases this
    · intro h
      cases e : D z with
      | true => rfl
      | false =>
        obtain ⟨c, hc, hz⟩ := List.mem_flatten.mp hz
        exact absurd (List.mem_flatten.mpr ⟨_, List.mem_map.mpr ⟨c, hc, rfl⟩, List.mem_filter.mpr ⟨hz, by rw [e]; rfl⟩⟩) h

/-! ### breaking -/
def chainOf (f : List (List Int)) (x : Int) : List Int := (f.find? fun c => decide (x ∈ c)).getD []
theorem chainOf_ok {f : List (List Int)} {x : Int} (h : x ∈ f.flatten) : chainOf f x ∈ f ∧ x ∈ chainOf f x := by
  obtain ⟨c, hc, hx⟩ := List.mem_flatten.mp h
  unfold chainOf
  cases e : f.find? fun c => decide (x ∈ c) with
  | none => exact absurd (decide_eq_true hx) (List.find?_eq_none.mp e c hc)
  | some d => exact ⟨List.mem_of_find?_eq_some e, of_decide_eq_true (by simpa using List.find?_some e)⟩
def partAt (P kept : List (List Int)) (x y : Int) : Option (List Int) :=
  partOnes kept (chainOf P x) (chainOf P y) (((chainOf P x).length : Int) - ((chainOf P x).idxOf x : Nat)) (((chainOf P y).length : Int) - 1 - ((chainOf P y).idxOf y : Nat))
def steps (f : List (List Int)) : List (Int × Int) := f.flatMap fun c => c.zip c.tail
def brkOnes (P Q : List (List Int)) : Option (List Int) := (steps Q).findSome? fun p => partAt P Q p.1 p.2

theorem zip_tail_get {c : List Int} {x y : Int} (h : (x, y) ∈ c.zip c.tail) : ∃ i, c[i]? = some x ∧ c[i + 1]? = some y := by
  obtain ⟨i, hi⟩ := List.mem_iff_getElem?.mp h
  rw [List.getElem?_zip_eq_some] at hi
  refine ⟨i, hi.1, ?_⟩
  have := hi.2
  rw [List.getElem?_tail] at this
  exact this
theorem pairwise_steps {R : Int → Int → Prop} (tr : ∀ a b c, R a b → R b c → R a c) : ∀ {c : List Int}, (∀ p ∈ c.zip c.tail, R p.1 p.2) → c.Pairwise R
  | [], _ => .nil
  | [a], _ => List.pairwise_singleton _ _
  | a :: b :: c, h => by
    have h1 : R a b := h (a, b) List.mem_cons_self
    have h2 : (b :: c).Pairwise R := pairwise_steps tr fun p hp => h p (List.mem_cons_of_mem _ hp)
    refine List.pairwise_cons.mpr ⟨fun x hx => ?_, h2⟩
    rcases List.mem_cons.mp hx with hx | hx
    · subst hx; exact h1
    · exact tr _ _ _ h1 ((List.pairwise_cons.mp h2).1 x hx)
section
variable {n : Nat} {P Q : List (List Int)}
theorem allowed_pos {c : List Int} {y : Int} (h : y ∈ c) : (0 : Int) ≤ (c.length : Int) - 1 - (c.idxOf y : Nat) := by
  have := List.idxOf_lt_length_of_mem h
  omega
theorem brk_some (vp : Valid n P) (fp : Full n P) (vq : Valid n Q) {os : List Int} (h : brkOnes P Q = some os) : isSorted (marks n (off os)) Q = true ∧ isSorted (sortAlong (marks n (off os)) P) Q = false := by
  unfold brkOnes at h
  obtain ⟨⟨x, y⟩, hp, hs⟩ := List.exists_of_findSome?_eq_some h
  unfold steps at hp
  obtain ⟨q, hq, hz⟩ := List.mem_flatMap.mp hp
  obtain ⟨i, hx, hy⟩ := zip_tail_get hz
  have rx := vq.rg x (flatten_mem hq (List.mem_of_getElem? hx))
  have ry := vq.rg y (flatten_mem hq (List.mem_of_getElem? hy))
  obtain ⟨cx, mx⟩ := chainOf_ok (fp x rx.1 rx.2)
  obtain ⟨cy, my⟩ := chainOf_ok (fp y ry.1 ry.2)
  have hs : partAt P Q x y = some os := hs
  unfold partAt at hs
  obtain ⟨h1, h2, h3⟩ := partOnes_some (allowed_pos my) hs
  have no : os.Nodup := vq.nd.sublist h1.sub
  have dn := h1.down vq.nd
  constructor
  · refine isSorted_iff.mpr fun c hc => pairwise_of (dn c hc) fun a ha b hb hd => ?_
    have ra := vq.rg a (flatten_mem hc ha)
    have rb := vq.rg b (flatten_mem hc hb)
    rw [at1_marks ra.1 ra.2, at1_marks rb.1 rb.2]
    cases e : off os b with
    | true => rw [hd e]; decide
    | false => cases off os a <;> decide
  · have hD : ∀ z, off os z = true ↔ z ∉ os := fun z => ⟨fun h => of_decide_eq_true h, fun h => decide_eq_true h⟩
    have l1 := cntIn_len no (flat_nodup vp.nd cx) fun z _ => hD z
    have l2 := cntIn_len no (flat_nodup vp.nd cy) fun z _ => hD z
    have vp' : Valid (marks n (off os)).length P := by rw [marks_len]; exact vp
    have lows : ∀ c ∈ P, c.countP (low (marks n (off os)) 0) = c.countP (off os) := fun c hc => countP_eq_on fun z hz => low_marks (vp.rg z (flatten_mem hc hz)).1 (vp.rg z (flatten_mem hc hz)).2
    have ax := rank_after vp' cx (idx_get mx) 0
    have ay := rank_after vp' cy (idx_get my) 0
    rw [lows _ cx] at ax
    rw [lows _ cy] at ay
    have nx : ¬ at1 (sortAlong (marks n (off os)) P) x ≤ 0 := fun z => by
      have := ax.mp z
      omega
    have yy : at1 (sortAlong (marks n (off os)) P) y ≤ 0 := ay.mpr (by omega)
    rw [Bool.eq_false_iff]
    intro z
    have := pairwise_get (isSorted_iff.mp z q hq) (Nat.lt_succ_self i) hx hy
    omega
theorem brk_none (vp : Valid n P) (fp : Full n P) (vq : Valid n Q) (fq : Full n Q) (h : brkOnes P Q = none) : KP P Q := by
  intro D hd q hq
  refine pairwise_steps (R := fun x y => Aft D P y → Aft D P x) (fun a b c h1 h2 h3 => h1 (h2 h3)) fun ⟨x, y⟩ hz ay => ?_
  unfold brkOnes at h
  have hs := List.findSome?_eq_none_iff.mp h (x, y) (List.mem_flatMap.mpr ⟨q, hq, hz⟩)
  obtain ⟨i, hx, hy⟩ := zip_tail_get hz
  have rx := vq.rg x (flatten_mem hq (List.mem_of_getElem? hx))
  have ry := vq.rg y (flatten_mem hq (List.mem_of_getElem? hy))
  obtain ⟨cx, mx⟩ := chainOf_ok (fp x rx.1 rx.2)
  obtain ⟨cy, my⟩ := chainOf_ok (fp y ry.1 ry.2)
  obtain ⟨os, h1, hD⟩ := choice_of hd
  have no : os.Nodup := vq.nd.sublist h1.sub
  have fl : ∀ c ∈ P, ∀ z ∈ c, D z = true ↔ z ∉ os := fun c hc z hz => hD z (fq z (vp.rg z (flatten_mem hc hz)).1 (vp.rg z (flatten_mem hc hz)).2)
  have l1 := cntIn_len no (flat_nodup vp.nd cx) (fl _ cx)
  have l2 := cntIn_len no (flat_nodup vp.nd cy) (fl _ cy)
  rw [aft_iff vp.nd cy (idx_get my)] at ay
  rw [aft_iff vp.nd cx (idx_get mx)]
  have hs : partAt P Q x y = none := hs
  unfold partAt at hs
  have z := partOnes_none (allowed_pos my) hs h1 (by omega)
  omega

/-! ### families with the places left out -/
def placesTo (n : Nat) : List Int := (List.range n).map fun (i : Nat) => (i : Int) + 1
theorem placesTo_mem {n : Nat} {x : Int} : x ∈ placesTo n ↔ 1 ≤ x ∧ x ≤ (n : Int) := by
  unfold placesTo
  constructor
  · intro h
    obtain ⟨i, hi, e⟩ := List.mem_map.mp h
    have := List.mem_range.mp hi
    omega
  · rintro ⟨h1, h2⟩
    exact List.mem_map.mpr ⟨(x - 1).toNat, List.mem_range.mpr (by omega), by omega⟩
theorem placesTo_nodup (n : Nat) : (placesTo n).Nodup := by
  unfold placesTo
  refine List.Pairwise.map _ (fun a b (h : a ≠ b) => ?_) List.nodup_range
  omega
def whole (n : Nat) (f : List (List Int)) : List (List Int) := f.filter (fun c => decide (c ≠ [])) ++ ((placesTo n).filter fun x => decide (x ∉ f.flatten)).map fun x => [x]
theorem filter_ne_flatten (f : List (List Int)) : (f.filter fun c => decide (c ≠ [])).flatten = f.flatten := by
  induction f with
  | nil => rfl
  | cons c f ih =>
    rw [List.filter_cons]
    split
    · rw [List.flatten_cons, List.flatten_cons, ih]
    · next h =>
      have : c = [] := by
        cases c with
        | nil => rfl
        | cons a c => simp at h
      rw [this, List.flatten_cons, ih]
      rfl
theorem singles_flatten (l : List Int) : (l.map fun x => [x]).flatten = l := by
  induction l with
  | nil => rfl
  | cons a l ih => rw [List.map_cons, List.flatten_cons, ih]; rfl
theorem whole_flatten (n : Nat) (f : List (List Int)) : (whole n f).flatten = f.flatten ++ (placesTo n).filter fun x => decide (x ∉ f.flatten) := by
  unfold whole
  rw [List.flatten_append, filter_ne_flatten, singles_flatten]
theorem whole_valid {f : List (List Int)} (v : Valid n f) : Valid n (whole n f) := by
  constructor
  · rw [whole_flatten]
    refine List.nodup_append.mpr ⟨v.nd, (placesTo_nodup n).sublist List.filter_sublist, fun a ha b hb e => ?_⟩
    subst e
    exact of_decide_eq_true (List.mem_filter.mp hb).2 ha
  · intro x hx
    rw [whole_flatten] at hx
    rcases List.mem_append.mp hx with h | h
    · exact v.rg x h
    · exact placesTo_mem.mp (List.mem_filter.mp h).1
theorem whole_full (f : List (List Int)) : Full n (whole n f) := by
  intro x h1 h2
  rw [whole_flatten]
  by_cases h : x ∈ f.flatten
  · exact List.mem_append_left _ h
  · exact List.mem_append_right _ (List.mem_filter.mpr ⟨placesTo_mem.mpr ⟨h1, h2⟩, decide_eq_true h⟩)
theorem whole_mem {f : List (List Int)} {c : List Int} (h : c ∈ whole n f) : c ∈ f ∨ ∃ x, c = [x] := by
  unfold whole at h
  rcases List.mem_append.mp h with h | h
  · exact .inl (List.mem_filter.mp h).1
  · obtain ⟨x, _, e⟩ := List.mem_map.mp h
    exact .inr ⟨x, e.symm⟩
theorem mem_whole {f : List (List Int)} {c : List Int} (h : c ∈ f) (hn : c ≠ []) : c ∈ whole n f := List.mem_append_left _ (List.mem_filter.mpr ⟨h, decide_eq_true hn⟩)
theorem whole_sorted {f : List (List Int)} {load : List Int} : isSorted load (whole n f) = isSorted load f := by
  rw [Bool.eq_iff_iff, isSorted_iff, isSorted_iff]
  constructor
  · intro h c hc
    by_cases e : c = []
    · rw [e]; exact .nil
    · exact h c (mem_whole hc e)
  · intro h c hc
    rcases whole_mem hc with hc | ⟨x, e⟩
    · exact h c hc
    · rw [e]; exact List.pairwise_singleton _ _
theorem at1_ext {a b : List Int} (hl : a.length = b.length) (h : ∀ x : Int, 1 ≤ x → x ≤ (a.length : Int) → at1 a x = at1 b x) : a = b := by
  refine List.ext_getElem? fun i => ?_
  by_cases hi : i < a.length
  · have h1 := at1_get (load := a) (p := (i : Int) + 1) (by omega) (by omega)
    have h2 := at1_get (load := b) (p := (i : Int) + 1) (by omega) (by omega)
    have e : ((i : Int) + 1 - 1).toNat = i := by omega
    rw [e] at h1 h2
    rw [h1, h2, h _ (by omega) (by omega)]
  · rw [List.getElem?_eq_none (by omega), List.getElem?_eq_none (by omega)]
theorem srt_one (a : Int) : srt [a] = [a] := (srt_of (List.Perm.refl _) (List.pairwise_singleton _ _)).symm
theorem whole_sort {f : List (List Int)} (v : Valid n f) {load : List Int} (hl : load.length = n) : sortAlong load (whole n f) = sortAlong load f := by
  refine at1_ext (by rw [sortAlong_len, sortAlong_len]) fun x h1 h2 => ?_
  rw [sortAlong_len] at h2
  have vl : Valid load.length f := by rw [hl]; exact v
  have vw : Valid load.length (whole n f) := by rw [hl]; exact whole_valid v
  by_cases h : x ∈ f.flatten
  · obtain ⟨c, hc, hx⟩ := List.mem_flatten.mp h
    have e1 := sortAlong_own vl hc
    have e2 := sortAlong_own vw (mem_whole (n := n) hc (List.ne_nil_of_mem hx))
    exact List.map_inj_left.mp (e2.trans e1.symm) x hx
  · have m : [x] ∈ whole n f := List.mem_append_right _ (List.mem_map.mpr ⟨x, List.mem_filter.mpr ⟨placesTo_mem.mpr ⟨h1, by omega⟩, decide_eq_true h⟩, rfl⟩)
    have e2 := sortAlong_own vw m
    rw [List.map_cons, List.map_nil, List.map_cons, List.map_nil, srt_one] at e2
    have e2 : at1 (sortAlong load (whole n f)) x = at1 load x := by injection e2
    rw [e2]
    exact (fold_along_other h1 f load fun y hy => ⟨(v.rg y hy).1, fun z => h (z ▸ hy)⟩).symm
/-- breaking: the places of the ones -/
def brk (n : Nat) (P Q : List (List Int)) : Option (List Int) := brkOnes (whole n P) (whole n Q)
theorem brk_shows (vp : Valid n P) (vq : Valid n Q) {os : List Int} (h : brk n P Q = some os) : isSorted (marks n (off os)) Q = true ∧ isSorted (sortAlong (marks n (off os)) P) Q = false := by
  obtain ⟨h1, h2⟩ := brk_some (whole_valid vp) (whole_full P) (whole_valid vq) h
  rw [whole_sorted] at h1 h2
  rw [whole_sort vp (marks_len _ _)] at h2
  exact ⟨h1, h2⟩
theorem brk_keeps (vp : Valid n P) (vq : Valid n Q) (h : brk n P Q = none) : Keeps n P Q := by
  have k := keeps_of_kp (whole_valid vp) (whole_full P) (whole_valid vq) (brk_none (whole_valid vp) (whole_full P) (whole_valid vq) (whole_full Q) h)
  intro load hl hs
  have := k load hl (by rw [whole_sorted]; exact hs)
  rw [whole_sorted, whole_sort vp hl] at this
  exact this
theorem brk_iff (vp : Valid n P) (vq : Valid n Q) : brk n P Q = none ↔ Keeps n P Q := by
  refine ⟨brk_keeps vp vq, fun k => ?_⟩
  cases e : brk n P Q with
  | none => rfl
  | some os =>
    obtain ⟨h1, h2⟩ := brk_shows vp vq e
    rw [k _ (marks_len _ _) h1] at h2
    cases h2
theorem brk_iff01 (vp : Valid n P) (vq : Valid n Q) : brk n P Q = none ↔ Keeps01 n P Q := by
  refine ⟨fun h load hl _ hs => brk_keeps vp vq h load hl hs, fun k => ?_⟩
  cases e : brk n P Q with
  | none => rfl
  | some os =>
    obtain ⟨h1, h2⟩ := brk_shows vp vq e
    rw [k _ (marks_len _ _) (marks_bits _ _) h1] at h2
    cases h2
theorem brk_kp (vp : Valid n P) (vq : Valid n Q) : brk n P Q = none ↔ KP (whole n P) (whole n Q) := by
  refine ⟨brk_none (whole_valid vp) (whole_full P) (whole_valid vq) (whole_full Q), fun k => (brk_iff vp vq).mpr fun load hl hs => ?_⟩
  have := keeps_of_kp (whole_valid vp) (whole_full P) (whole_valid vq) k load hl (by rw [whole_sorted]; exact hs)
  rw [whole_sorted, whole_sort vp hl] at this
  exact this
/-- families that meet at most once -/
theorem brk_symm (vp : Valid n P) (vq : Valid n Q) (on : Once (whole n P) (whole n Q)) : brk n P Q = none ↔ brk n Q P = none := by
  have f1 : ∀ x ∈ (whole n Q).flatten, x ∈ (whole n P).flatten := fun x hx => whole_full P x ((whole_valid vq).rg x hx).1 ((whole_valid vq).rg x hx).2
  have f2 : ∀ x ∈ (whole n P).flatten, x ∈ (whole n Q).flatten := fun x hx => whole_full Q x ((whole_valid vp).rg x hx).1 ((whole_valid vp).rg x hx).2
  rw [brk_kp vp vq, brk_kp vq vp]
  exact ⟨kp_symm (whole_valid vp).nd (whole_valid vq).nd f1 f2 on, kp_symm (whole_valid vq).nd (whole_valid vp).nd f2 f1 on.symm⟩
theorem once_whole {P Q : List (List Int)} (on : Once P Q) : Once (whole n P) (whole n Q) := by
  intro p hp q hq u v h1 h2 h3 h4
  rcases whole_mem hp with hp | ⟨x, e⟩
  · rcases whole_mem hq with hq | ⟨y, e⟩
    · exact on p hp q hq u v h1 h2 h3 h4
    · subst e
      rw [List.mem_singleton.mp h3, List.mem_singleton.mp h4]
  · subst e
    rw [List.mem_singleton.mp h1, List.mem_singleton.mp h2]
end
end Kt


set_option autoImplicit true
set_option Elab.async false
set_option linter.all false
set_option maxRecDepth 100000
set_option maxHeartbeats 4000000
/-! The table of least numbers, worked out chain by chain: it tells the same as breaking. -/
namespace Kt
open Classical

abbrev Tab := List (Int × Int)
def low1 (few : Int) (o : Option Int) : Int := min (o.getD few) few
def tabPut (f : Tab) (c : Int × Int) : Tab := putG f c.1 (low1 c.2 (look f c.1))
/-- one number of the table, joined by each rest of a chain -/
def tabRow (told : Tab) (c one two : List Int) (many : Int) : List (Int × Int) := (List.range (c.length + 1)).map fun k => (many + cntIn (c.drop k) one, (look told many).getD 0 + cntIn (c.drop k) two)
def tabStep (one two : List Int) (told : Tab) (c : List Int) : Tab := (told.map (·.1)).foldl (fun f many => (tabRow told c one two many).foldl tabPut f) []
def least (kept : List (List Int)) (one two : List Int) : Tab := kept.foldl (tabStep one two) [(0, 0)]
def pairBroken (mine theirs : List (List Int)) (x y : Int) : Bool :=
  if chainOf mine x = chainOf mine y then decide ((chainOf mine x).idxOf x > (chainOf mine y).idxOf y)
  else ((least theirs (chainOf mine x) (chainOf mine y)).map (·.1)).any fun many => decide (many ≥ ((chainOf mine x).length : Int) - ((chainOf mine x).idxOf x : Nat)) && decide ((look (least theirs (chainOf mine x) (chainOf mine y)) many).getD 0 < ((chainOf mine y).length : Int) - ((chainOf mine y).idxOf y : Nat))

theorem tabStep_flat (one two : List Int) (told : Tab) (c : List Int) : tabStep one two told c = ((told.map (·.1)).flatMap (tabRow told c one two)).foldl tabPut [] := by
  unfold tabStep
  have g : ∀ (l : List Int) (f : Tab), l.foldl (fun f many => (tabRow told c one two many).foldl tabPut f) f = (l.flatMap (tabRow told c one two)).foldl tabPut f := by
    intro l
    induction l with
    | nil => intro f; rfl
    | cons e l ih => intro f; rw [List.foldl_cons, ih, List.flatMap_cons, List.foldl_append]
  exact g _ _
theorem tabPut_look {f : Tab} {c : Int × Int} {k : Int} : look (tabPut f c) k = if k = c.1 then some (low1 c.2 (look f c.1)) else look f k := look_put _ _ _ _
theorem tab_sound : ∀ (l : List (Int × Int)) (f : Tab) (k v : Int), look (l.foldl tabPut f) k = some v → look f k = some v ∨ (k, v) ∈ l
  | [], f, k, v, h => .inl h
  | c :: l, f, k, v, h => by
    rw [List.foldl_cons] at h
    rcases tab_sound l _ k v h with h' | h'
    · clear h
      have h := h'
      clear h'
      rw [tabPut_look] at h
      split at h
      · next e =>
        subst e
        replace h := Option.some.inj h
        unfold low1 at h
        cases e : look f c.1 with
        | none =>
          rw [e, Option.getD_none, Int.min_self] at h
          subst h
          exact .inr List.mem_cons_self
        | some u =>
          rw [e, Option.getD_some] at h
          by_cases hu : u ≤ c.2
          · rw [Int.min_eq_left hu] at h
            subst h
            exact .inl rfl
          · rw [Int.min_eq_right (by omega)] at h
            subst h
            exact .inr List.mem_cons_self
      · exact .inl h
    · exact .inr (List.mem_cons_of_mem _ h')
theorem tab_grows : ∀ (l : List (Int × Int)) {f : Tab} {k v : Int}, look f k = some v → ∃ w, look (l.foldl tabPut f) k = some w ∧ w ≤ v
  | [], _, _, v, h => ⟨v, h, Int.le_refl _⟩
  | c :: l, f, k, v, h => by
    have : ∃ w, look (tabPut f c) k = some w ∧ w ≤ v := by
      rw [tabPut_look]
      split
      · next e =>
        subst e
        rw [h]
        exact ⟨_, rfl, Int.min_le_left _ _⟩
      · exact ⟨v, h, Int.le_refl _⟩
    obtain ⟨w, h1, h2⟩ := this
    obtain ⟨u, h3, h4⟩ := tab_grows l h1
    exact ⟨u, h3, Int.le_trans h4 h2⟩
theorem tab_compl : ∀ (l : List (Int × Int)) (f : Tab), ∀ c ∈ l, ∃ w, look (l.foldl tabPut f) c.1 = some w ∧ w ≤ c.2
  | [], _, c, h => by cases h
  | d :: l, f, c, h => by
    rw [List.foldl_cons]
    rcases List.mem_cons.mp h with h | h
    · subst h
      have : look (tabPut f c) c.1 = some (low1 c.2 (look f c.1)) := by rw [tabPut_look, if_pos rfl]
      obtain ⟨u, h3, h4⟩ := tab_grows l this
      exact ⟨u, h3, Int.le_trans h4 (Int.min_le_right _ _)⟩
    · exact tab_compl l _ c h
structure TabOk (cs : List (List Int)) (one two : List Int) (t : Tab) : Prop where
  sound : ∀ k v, look t k = some v → ∃ os, Ch cs os ∧ cntIn os one = k ∧ cntIn os two = v
  compl : ∀ os, Ch cs os → ∃ v, look t (cntIn os one) = some v ∧ v ≤ cntIn os two
theorem key_look {t : Tab} {k : Int} (h : k ∈ t.map (·.1)) : ∃ v, look t k = some v := by
  cases e : look t k with
  | some v => exact ⟨v, rfl⟩
  | none =>
    rw [look_none, List.any_eq_false] at e
    obtain ⟨a, ha, hk⟩ := List.mem_map.mp h
    exact absurd (decide_eq_true hk) (e a ha)
theorem look_key {t : Tab} {k v : Int} (h : look t k = some v) : k ∈ t.map (·.1) := List.mem_map.mpr ⟨_, look_mem h, rfl⟩
theorem TabOk.step {cs : List (List Int)} {one two : List Int} {t : Tab} (g : TabOk cs one two t) (c : List Int) : TabOk (cs ++ [c]) one two (tabStep one two t c) := by
  rw [tabStep_flat]
  constructor
  · intro k v h
    rcases tab_sound _ _ k v h with h | h
    · exact absurd h (by simp [look])
    · obtain ⟨m, hm, hr⟩ := List.mem_flatMap.mp h
      obtain ⟨j, _, e⟩ := List.mem_map.mp hr
      obtain ⟨u, hu⟩ := key_look hm
      rw [hu, Option.getD_some] at e
      obtain ⟨os, h1, h2, h3⟩ := g.sound m u hu
      injection e with e1 e2
      refine ⟨_, h1.snoc c j, ?_, ?_⟩
      · rw [cntIn_append]; omega
      · rw [cntIn_append]; omega
  · intro os ho
    obtain ⟨os', j, h1, e⟩ := ho.inv
    subst e
    obtain ⟨u, hu, lu⟩ := g.compl os' h1
    have j' : ∃ i, i < c.length + 1 ∧ c.drop i = c.drop j := by
      by_cases h : j ≤ c.length
      · exact ⟨j, by omega, rfl⟩
      · exact ⟨c.length, by omega, by rw [List.drop_eq_nil_of_le (Nat.le_refl _), List.drop_eq_nil_of_le (by omega)]⟩
    obtain ⟨i, hi, ei⟩ := j'
    have m : (cntIn os' one + cntIn (c.drop i) one, u + cntIn (c.drop i) two) ∈ (t.map (·.1)).flatMap (tabRow t c one two) := by
      refine List.mem_flatMap.mpr ⟨cntIn os' one, look_key hu, List.mem_map.mpr ⟨i, List.mem_range.mpr hi, ?_⟩⟩
      rw [hu, Option.getD_some]
    obtain ⟨w, hw, lw⟩ := tab_compl _ [] _ m
    rw [ei] at hw lw
    refine ⟨w, ?_, ?_⟩
    · rw [cntIn_append]; exact hw
    · rw [cntIn_append]
      have lw : w ≤ u + cntIn (c.drop j) two := lw
      omega
theorem least_ok (kept : List (List Int)) (one two : List Int) : TabOk kept one two (least kept one two) := by
  have g : ∀ (l cs : List (List Int)) (t : Tab), TabOk cs one two t → TabOk (cs ++ l) one two (l.foldl (tabStep one two) t) := by
    intro l
    induction l with
    | nil => intro cs t h; rw [List.append_nil]; exact h
    | cons c l ih =>
      intro cs t h
      rw [List.foldl_cons]
      have e : cs ++ c :: l = (cs ++ [c]) ++ l := by simp
      rw [e]
      exact ih _ _ (h.step c)
  refine g kept [] [(0, 0)] ⟨fun k v h => ?_, fun os ho => ?_⟩
  · rw [look_cons] at h
    split at h
    · next e => exact ⟨[], .nil, e, Option.some.inj h⟩
    · exact absurd h (by simp [look])
  · generalize e : ([] : List (List Int)) = cs at ho
    cases ho with
    | nil => exact ⟨0, rfl, Int.le_refl _⟩
    | snoc c k _ => exact absurd e (by simp)

/-! ### each number is met -/
theorem drop_meets (one : List Int) : ∀ (c : List Int) (m : Nat), (m : Int) ≤ cntIn c one → ∃ k, cntIn (c.drop k) one = m
  | [], m, h => ⟨0, by unfold cntIn at *; simp at *; omega⟩
  | a :: c, m, h => by
    by_cases hm : (m : Int) ≤ cntIn c one
    · obtain ⟨k, hk⟩ := drop_meets one c m hm
      exact ⟨k + 1, hk⟩
    · refine ⟨0, ?_⟩
      rw [List.drop_zero]
      have : cntIn (a :: c) one ≤ cntIn c one + 1 := by
        unfold cntIn
        rw [List.countP_cons]
        split <;> omega
      omega
theorem ch_full : ∀ (l : List (List Int)) {cs : List (List Int)} {os : List Int}, Ch cs os → Ch (cs ++ l) (os ++ l.flatten)
  | [], cs, os, h => by simpa using h
  | c :: l, cs, os, h => by
    have z := ch_full l (h.snoc c 0)
    rw [List.drop_zero] at z
    have e1 : cs ++ c :: l = cs ++ [c] ++ l := by simp
    rw [e1, List.flatten_cons, ← List.append_assoc]
    exact z
theorem ch_meets (one : List Int) : ∀ (l : List (List Int)) {cs : List (List Int)} {os : List Int}, Ch cs os → ∀ m : Nat, cntIn os one ≤ m → (m : Int) ≤ cntIn os one + cntIn l.flatten one → ∃ os', Ch (cs ++ l) os' ∧ cntIn os' one = m
  | [], cs, os, h, m, h1, h2 => ⟨os, by simpa using h, by simp [cntIn_nil] at h2; omega⟩
  | c :: l, cs, os, h, m, h1, h2 => by
    rw [List.flatten_cons, cntIn_append] at h2
    have e1 : cs ++ c :: l = cs ++ [c] ++ l := by simp
    rw [e1]
    by_cases hm : (m : Int) ≤ cntIn os one + cntIn c one
    · have n0 := cntIn_nonneg os one
      obtain ⟨k, hk⟩ := drop_meets one c (m - (cntIn os one).toNat) (by omega)
      have e : cntIn (os ++ c.drop k) one = m := by rw [cntIn_append, hk]; omega
      refine ch_meets one l (h.snoc c k) m (by omega) ?_
      have := cntIn_nonneg l.flatten one
      omega
    · have e : cntIn (os ++ c.drop 0) one = cntIn os one + cntIn c one := by rw [List.drop_zero, cntIn_append]
      exact ch_meets one l (h.snoc c 0) m (by omega) (by omega)

section
variable {n : Nat} {P Q : List (List Int)}
theorem pairBroken_iff (vp : Valid n P) (fp : Full n P) (vq : Valid n Q) (fq : Full n Q) {x y : Int} (hx : x ∈ P.flatten) (hy : y ∈ P.flatten) : pairBroken P Q x y = (partAt P Q x y).isSome := by
  obtain ⟨cx, mx⟩ := chainOf_ok hx
  obtain ⟨cy, my⟩ := chainOf_ok hy
  have lx := List.idxOf_lt_length_of_mem mx
  have ly := List.idxOf_lt_length_of_mem my
  have h0 := allowed_pos my
  -- what both say
  suffices h : pairBroken P Q x y = true ↔ ∃ os, Ch Q os ∧ ((chainOf P x).length : Int) - ((chainOf P x).idxOf x : Nat) ≤ cntIn os (chainOf P x) ∧ cntIn os (chainOf P y) ≤ ((chainOf P y).length : Int) - 1 - ((chainOf P y).idxOf y : Nat) by
    rw [Bool.eq_iff_iff, h]
    constructor
    · rintro ⟨os, h1, h2, h3⟩
      cases e : partAt P Q x y with
      | some _ => rfl
      | none =>
        have := partOnes_none h0 e h1 h3
        omega
    · intro h
      obtain ⟨os, e⟩ := Option.isSome_iff_exists.mp h
      exact ⟨os, partOnes_some h0 e⟩
  unfold pairBroken
  by_cases e : chainOf P x = chainOf P y
  · rw [if_pos e]
    rw [← e] at ly my cy h0 ⊢
    constructor
    · intro h
      have h : (chainOf P x).idxOf x > (chainOf P x).idxOf y := of_decide_eq_true h
      have all : cntIn Q.flatten (chainOf P x) = (chainOf P x).length := by
        have := cntIn_len (D := fun _ => false) vq.nd (flat_nodup vp.nd cx) fun z hz => Iff.intro (fun h => by cases h) fun h => absurd (fq z (vp.rg z (flatten_mem cx hz)).1 (vp.rg z (flatten_mem cx hz)).2) h
        rw [List.countP_eq_zero.mpr (fun a _ => by simp)] at this
        omega
      obtain ⟨os, h1, h2⟩ := ch_meets (chainOf P x) Q Ch.nil ((chainOf P x).length - (chainOf P x).idxOf x) (by rw [cntIn_nil]; omega) (by rw [cntIn_nil, all]; omega)
      exact ⟨os, by simpa using h1, by omega, by omega⟩
    · rintro ⟨os, h1, h2, h3⟩
      exact decide_eq_true (by omega)
  · rw [if_neg e, List.any_eq_true]
    have ok := least_ok Q (chainOf P x) (chainOf P y)
    constructor
    · rintro ⟨many, hm, hb⟩
      rw [Bool.and_eq_true] at hb
      have h1 := of_decide_eq_true hb.1
      have h2 := of_decide_eq_true hb.2
      obtain ⟨v, hv⟩ := key_look hm
      rw [hv, Option.getD_some] at h2
      obtain ⟨os, g1, g2, g3⟩ := ok.sound many v hv
      exact ⟨os, g1, by omega, by omega⟩
    · rintro ⟨os, h1, h2, h3⟩
      obtain ⟨v, hv, lv⟩ := ok.compl os h1
      refine ⟨_, look_key hv, ?_⟩
      rw [hv, Option.getD_some, Bool.and_eq_true]
      exact ⟨decide_eq_true (by omega), decide_eq_true (by omega)⟩
theorem steps_mem {p : Int × Int} (h : p ∈ steps Q) : p.1 ∈ Q.flatten ∧ p.2 ∈ Q.flatten := by
  obtain ⟨q, hq, hz⟩ := List.mem_flatMap.mp h
  have := List.of_mem_zip (a := p.1) (b := p.2) hz
  exact ⟨flatten_mem hq this.1, flatten_mem hq (List.mem_of_mem_tail this.2)⟩
theorem steps_whole (n : Nat) (f : List (List Int)) : steps (whole n f) = steps f := by
  unfold steps whole
  rw [List.flatMap_append]
  have e1 : ∀ l : List (List Int), (l.filter fun c => decide (c ≠ [])).flatMap (fun c => c.zip c.tail) = l.flatMap fun c => c.zip c.tail := by
    intro l
    induction l with
    | nil => rfl
    | cons c l ih =>
      rw [List.filter_cons]
      split
      · rw [List.flatMap_cons, List.flatMap_cons, ih]
      · next h =>
        have : c = [] := by
          cases c with
          | nil => rfl
          | cons a c => simp at h
        rw [this, List.flatMap_cons, ih]
        rfl
  have e2 : ∀ l : List Int, (l.map fun x => [x]).flatMap (fun c => c.zip c.tail) = [] := by
    intro l
    induction l with
    | nil => rfl
    | cons a l ih => rw [List.map_cons, List.flatMap_cons, ih]; rfl
  rw [e1, e2, List.append_nil]
/-- the table tells whether breaking finds one -/
theorem brk_table (vp : Valid n P) (vq : Valid n Q) : (brk n P Q).isSome = (steps Q).any fun p => pairBroken (whole n P) (whole n Q) p.1 p.2 := by
  have e : ∀ p ∈ steps Q, pairBroken (whole n P) (whole n Q) p.1 p.2 = (partAt (whole n P) (whole n Q) p.1 p.2).isSome := fun p hp => by
    obtain ⟨h1, h2⟩ := steps_mem hp
    exact pairBroken_iff (whole_valid vp) (whole_full P) (whole_valid vq) (whole_full Q) (whole_full P _ (vq.rg _ h1).1 (vq.rg _ h1).2) (whole_full P _ (vq.rg _ h2).1 (vq.rg _ h2).2)
  unfold brk brkOnes
  rw [steps_whole, List.isSome_findSome?]
  refine Bool.eq_iff_iff.mpr ?_
  rw [List.any_eq_true, List.any_eq_true]
  exact ⟨fun ⟨p, h1, h2⟩ => ⟨p, h1, by rw [e p h1]; exact h2⟩, fun ⟨p, h1, h2⟩ => ⟨p, h1, by rw [← e p h1]; exact h2⟩⟩
end
end Kt


set_option autoImplicit true
set_option Elab.async false
set_option linter.all false
set_option maxRecDepth 100000
set_option maxHeartbeats 4000000
/-! Orders of unlike values and fillings by noughts and ones: what the ones show, the others show. -/
namespace Kt
open Classical

theorem flat_order {f : List (List Int)} (nd : f.flatten.Nodup) : f.flatten.Pairwise fun u v => ¬ Lt f v u := by
  have h2 : f.Pairwise fun a b => ∀ x ∈ a, ∀ y ∈ b, x ≠ y := (List.pairwise_flatten.mp nd).2
  refine List.pairwise_flatten.mpr ⟨fun c hc => ?_, ?_⟩
  · refine pairwise_mk fun i j u v l hu hv z => ?_
    have := (lt_idx nd hc hv hu).mp z
    omega
  · have h3 : f.Pairwise fun a b => a ∈ f ∧ b ∈ f ∧ ∀ x ∈ a, ∀ y ∈ b, x ≠ y := pairwise_of h2 fun a ha b hb h => ⟨ha, hb, h⟩
    refine h3.imp fun {a b} h x hx y hy z => ?_
    obtain ⟨h1, h2, h3⟩ := h
    obtain ⟨c, hc, i, j, _, e1, e2⟩ := z
    have q1 := flat_once nd hc h2 (List.mem_of_getElem? e1) hy
    have q2 := flat_once nd hc h1 (List.mem_of_getElem? e2) hx
    subst q1
    subst q2
    exact h3 x hx x hx rfl
/-- first the places of the set, then the others, both as the chains go -/
def inTurn (f : List (List Int)) (D : Int → Bool) : List Int := f.flatten.filter D ++ f.flatten.filter fun x => !D x
section
variable {n : Nat} {f : List (List Int)} {D : Int → Bool}
theorem inTurn_mem {x : Int} : x ∈ inTurn f D ↔ x ∈ f.flatten := by
  unfold inTurn
  rw [List.mem_append, List.mem_filter, List.mem_filter]
  constructor
  · rintro (h | h) <;> exact h.1
  · intro h
    cases e : D x with
    | true => exact .inl ⟨h, rfl⟩
    | false => exact .inr ⟨h, rfl⟩
theorem inTurn_nodup (nd : f.flatten.Nodup) : (inTurn f D).Nodup := by
  refine List.nodup_append.mpr ⟨nd.sublist List.filter_sublist, nd.sublist List.filter_sublist, fun a ha b hb e => ?_⟩
  subst e
  have h1 := (List.mem_filter.mp ha).2
  have h2 := (List.mem_filter.mp hb).2
  simp [h1] at h2
theorem inTurn_order (nd : f.flatten.Nodup) (dn : Down D f) : (inTurn f D).Pairwise fun u v => ¬ Lt f v u := by
  have o := flat_order nd
  refine List.pairwise_append.mpr ⟨o.sublist List.filter_sublist, o.sublist List.filter_sublist, fun u hu v hv z => ?_⟩
  obtain ⟨c, hc, i, j, l, e1, e2⟩ := z
  have h := pairwise_get (dn c hc) l e1 e2 (List.mem_filter.mp hu).2
  have h2 := (List.mem_filter.mp hv).2
  simp [h] at h2
theorem inTurn_lt (nd : f.flatten.Nodup) (dn : Down D f) {x y : Int} (h : Lt f x y) : (inTurn f D).idxOf x < (inTurn f D).idxOf y := by
  obtain ⟨c, hc, i, j, l, e1, e2⟩ := h
  have hx := idx_get (inTurn_mem (D := D).mpr (flatten_mem hc (List.mem_of_getElem? e1)))
  have hy := idx_get (inTurn_mem (D := D).mpr (flatten_mem hc (List.mem_of_getElem? e2)))
  rcases Nat.lt_trichotomy ((inTurn f D).idxOf x) ((inTurn f D).idxOf y) with z | z | z
  · exact z
  · rw [z, hy] at hx
    have := Option.some.inj hx
    subst this
    have := get_inj (flat_nodup nd hc) e1 e2
    omega
  · exact absurd ⟨c, hc, i, j, l, e1, e2⟩ (pairwise_get (inTurn_order nd dn) z hy hx)
theorem inTurn_split {x : Int} (hx : x ∈ f.flatten) : (inTurn f D).idxOf x < (f.flatten.filter D).length ↔ D x = true := by
  unfold inTurn
  rw [List.idxOf_append]
  constructor
  · intro h
    split at h
    · next m => exact (List.mem_filter.mp m).2
    · omega
  · intro h
    have m : x ∈ f.flatten.filter D := List.mem_filter.mpr ⟨hx, h⟩
    rw [if_pos m]
    exact List.idxOf_lt_length_of_mem m
/-- the order of unlike values -/
def turnLoad (n : Nat) (f : List (List Int)) (D : Int → Bool) : List Int := (placesTo n).map fun x => ((inTurn f D).idxOf x : Int) + 1
theorem turnLoad_len : (turnLoad n f D).length = n := by unfold turnLoad placesTo; rw [List.length_map, List.length_map, List.length_range]
theorem at1_turn {x : Int} (h1 : 1 ≤ x) (h2 : x ≤ (n : Int)) : at1 (turnLoad n f D) x = ((inTurn f D).idxOf x : Int) + 1 := by
  have h := at1_get (load := turnLoad n f D) h1 (by rw [turnLoad_len]; exact h2)
  unfold turnLoad placesTo at h
  rw [List.getElem?_map, List.getElem?_map, List.getElem?_range (by omega)] at h
  have e : (((x - 1).toNat : Nat) : Int) + 1 = x := by omega
  rw [Option.map_some, Option.map_some, e] at h
  exact (Option.some.inj h).symm
theorem flat_len (v : Valid n f) (fu : Full n f) : f.flatten.length = n := by
  refine Nat.le_antisymm v.len ?_
  have := inj_le (fun a b => a = b) (placesTo n) f.flatten (placesTo_nodup n) (fun a ha => ⟨a, fu a (placesTo_mem.mp ha).1 (placesTo_mem.mp ha).2, rfl⟩) fun a _ a' _ b r r' => r.trans r'.symm
  unfold placesTo at this
  rw [List.length_map, List.length_range] at this
  exact this
theorem perm_of_same {l m : List Int} (nl : l.Nodup) (nm : m.Nodup) (h : ∀ x, x ∈ l ↔ x ∈ m) : l.Perm m := by
  rw [List.perm_ext_iff_of_nodup nl nm]
  exact h
theorem turnLoad_perm (v : Valid n f) (fu : Full n f) : (turnLoad n f D).Perm (placesTo n) := by
  have il : (inTurn f D).length = n := by
    have : (inTurn f D).Perm f.flatten := perm_of_same (inTurn_nodup v.nd) v.nd fun x => inTurn_mem
    rw [this.length_eq, flat_len v fu]
  have inT : ∀ x ∈ placesTo n, x ∈ inTurn f D := fun x hx => inTurn_mem.mpr (fu x (placesTo_mem.mp hx).1 (placesTo_mem.mp hx).2)
  have nd : (turnLoad n f D).Nodup := by
    unfold turnLoad
    refine List.pairwise_map.mpr (pairwise_of (placesTo_nodup n) fun a ha b hb ne e => ne ?_)
    have h1 := idx_get (inT a ha)
    have h2 := idx_get (inT b hb)
    have e : (inTurn f D).idxOf a = (inTurn f D).idxOf b := by omega
    rw [e, h2] at h1
    exact (Option.some.inj h1).symm
  have sub : ∀ x ∈ turnLoad n f D, x ∈ placesTo n := fun x hx => by
    obtain ⟨a, ha, e⟩ := List.mem_map.mp hx
    have := List.idxOf_lt_length_of_mem (inT a ha)
    exact placesTo_mem.mpr ⟨by omega, by omega⟩
  have ul : (placesTo n).length = n := by unfold placesTo; rw [List.length_map, List.length_range]
  refine perm_of_same nd (placesTo_nodup n) fun x => ⟨sub x, fun hx => Classical.byContradiction fun nx => ?_⟩
  -- one that is left out would make too many
  have := inj_le (fun a b => a = b) (x :: turnLoad n f D) (placesTo n) (List.nodup_cons.mpr ⟨nx, nd⟩) (fun a ha => ⟨a, by rcases List.mem_cons.mp ha with h | h; exact h ▸ hx; exact sub a h, rfl⟩) fun a _ a' _ b r r' => r.trans r'.symm
  rw [List.length_cons, turnLoad_len, ul] at this
  omega
end
section
variable {n : Nat} {P Q : List (List Int)}
/-- the orders of the numbers from 1 on -/
def KeepsOrders (n : Nat) (P Q : List (List Int)) : Prop := ∀ load : List Int, load.Perm (placesTo n) → isSorted load Q = true → isSorted (sortAlong load P) Q = true
theorem orders_kp (vp : Valid n P) (fp : Full n P) (vq : Valid n Q) (fq : Full n Q) (k : KeepsOrders n P Q) : KP P Q := by
  intro D hd q hq
  have ll := turnLoad_len (n := n) (f := Q) (D := D)
  have vp' : Valid (turnLoad n Q D).length P := by rw [ll]; exact vp
  have hs : isSorted (turnLoad n Q D) Q = true := isSorted_iff.mpr fun c hc => pairwise_mk fun i j x y l hx hy => by
    have rx := vq.rg x (flatten_mem hc (List.mem_of_getElem? hx))
    have ry := vq.rg y (flatten_mem hc (List.mem_of_getElem? hy))
    rw [at1_turn rx.1 rx.2, at1_turn ry.1 ry.2]
    have := inTurn_lt (D := D) vq.nd hd ⟨c, hc, i, j, l, hx, hy⟩
    omega
  have ha := isSorted_iff.mp (k _ (turnLoad_perm vq fq) hs) q hq
  have lows : ∀ c ∈ P, c.countP (low (turnLoad n Q D) ((Q.flatten.filter D).length : Int)) = c.countP D := fun c hc => countP_eq_on fun z hz => by
    have rz := vp.rg z (flatten_mem hc hz)
    have m := inTurn_split (D := D) (fq z rz.1 rz.2)
    unfold low
    rw [at1_turn rz.1 rz.2, Bool.eq_iff_iff, ← m]
    simp
    omega
  have same : ∀ x, 1 ≤ x → x ≤ (n : Int) → (Aft D P x ↔ at1 (sortAlong (turnLoad n Q D) P) x ≤ ((Q.flatten.filter D).length : Int)) := fun x h1 h2 => by
    obtain ⟨c, hc, i, hi⟩ := full_get fp h1 h2
    rw [rank_after vp' hc hi, aft_iff vp.nd hc hi, lows c hc]
  refine pairwise_of ha fun x hx y hy h => ?_
  have rx := vq.rg x (flatten_mem hq hx)
  have ry := vq.rg y (flatten_mem hq hy)
  rw [same x rx.1 rx.2, same y ry.1 ry.2]
  omega
theorem perm_len {load : List Int} (h : load.Perm (placesTo n)) : load.length = n := by
  rw [h.length_eq]
  unfold placesTo
  rw [List.length_map, List.length_range]
theorem orders_iff (vp : Valid n P) (vq : Valid n Q) : brk n P Q = none ↔ KeepsOrders n P Q := by
  refine ⟨fun h load hl hs => brk_keeps vp vq h load (perm_len hl) hs, fun k => ?_⟩
  rw [brk_kp vp vq]
  refine orders_kp (whole_valid vp) (whole_full P) (whole_valid vq) (whole_full Q) fun load hl hs => ?_
  rw [whole_sorted] at hs ⊢
  rw [whole_sort vp (perm_len hl)]
  exact k load hl hs
end
end Kt


set_option autoImplicit true
set_option Elab.async false
set_option autoImplicit true
set_option linter.all false
set_option maxRecDepth 100000
set_option maxHeartbeats 4000000
/-! Gaps, sums of gaps, what is in order after sorting at gaps. -/
namespace Kt
open PySem L2
/-! ### sums of gaps -/
inductive Sm (gs : List Int) : Int → Prop
  | zero : Sm gs 0
  | add {g d : Int} : g ∈ gs → Sm gs d → Sm gs (g + d)
theorem Sm.mono {gs gs' : List Int} (h : ∀ g ∈ gs, g ∈ gs') {d : Int} (s : Sm gs d) : Sm gs' d := by
  induction s with
  | zero => exact .zero
  | add m _ ih => exact .add (h _ m) ih
theorem Sm.plus {gs : List Int} {a b : Int} (ha : Sm gs a) (hb : Sm gs b) : Sm gs (a + b) := by
  induction ha with
  | zero => rw [Int.zero_add]; exact hb
  | add m _ ih => rw [Int.add_assoc]; exact .add m ih
theorem Sm.one {gs : List Int} {g : Int} (h : g ∈ gs) : Sm gs g := by
  have t := Sm.add h (Sm.zero (gs := gs))
  rw [Int.add_zero] at t
  exact t
theorem Sm.nn {gs : List Int} (pos : ∀ g ∈ gs, 1 ≤ g) {d : Int} (h : Sm gs d) : 0 ≤ d := by
  induction h with
  | zero => omega
  | add m _ ih => have := pos _ m; omega
theorem Sm.times {gs : List Int} {g : Int} (h : g ∈ gs) : ∀ k : Nat, Sm gs ((k : Int) * g)
  | 0 => by rw [show ((0 : Nat) : Int) * g = 0 by simp]; exact .zero
  | k + 1 => by
    rw [show ((k + 1 : Nat) : Int) * g = g + (k : Int) * g by rw [Int.natCast_add, Int.add_mul]; omega]
    exact .add h (Sm.times h k)
theorem sm_iff {gs : List Int} {d : Int} : Sm gs d ↔ d = 0 ∨ ∃ g ∈ gs, Sm gs (d - g) := by
  constructor
  · intro h
    cases h with
    | zero => exact .inl rfl
    | @add g e m s => exact .inr ⟨g, m, by rw [show g + e - g = e by omega]; exact s⟩
  · rintro (rfl | ⟨g, m, s⟩)
    · exact .zero
    · have := Sm.add m s
      rw [show g + (d - g) = d by omega] at this
      exact this
def isNext (gs : List Int) (told : List Int) (d : Int) : Bool := gs.any fun g => decide (d = g) || decide (d - g ∈ told)
def sumsTo (gs : List Int) : Nat → List Int
  | 0 => []
  | k + 1 => if isNext gs (sumsTo gs k) ((k : Int) + 1) then sumsTo gs k ++ [(k : Int) + 1] else sumsTo gs k
theorem next_of {gs : List Int} (pos : ∀ g ∈ gs, 1 ≤ g) {k : Nat} (ih : ∀ d : Int, d ∈ sumsTo gs k ↔ 1 ≤ d ∧ d ≤ k ∧ Sm gs d) : isNext gs (sumsTo gs k) ((k : Int) + 1) = true ↔ Sm gs ((k : Int) + 1) := by
  unfold isNext
  rw [List.any_eq_true]
  constructor
  · rintro ⟨g, hg, h⟩
    rcases Bool.or_eq_true _ _ ▸ h with h | h
    · rw [of_decide_eq_true h]; exact Sm.one hg
    · exact sm_iff.mpr (.inr ⟨g, hg, ((ih _).mp (of_decide_eq_true h)).2.2⟩)
  · intro h
    rcases sm_iff.mp h with h | ⟨g, hg, s⟩
    · omega
    · have p := pos g hg
      have nn := s.nn pos
      refine ⟨g, hg, ?_⟩
      by_cases z : (k : Int) + 1 = g
      · rw [decide_eq_true z]; rfl
      · rw [decide_eq_true ((ih _).mpr ⟨by omega, by omega, s⟩), Bool.or_true]
theorem sumsTo_mem {gs : List Int} (pos : ∀ g ∈ gs, 1 ≤ g) : ∀ (k : Nat) (d : Int), d ∈ sumsTo gs k ↔ 1 ≤ d ∧ d ≤ k ∧ Sm gs d
  | 0, d => by
    unfold sumsTo
    constructor
    · intro h; cases h
    · rintro ⟨h1, h2, _⟩; omega
  | k + 1, d => by
    have ih := sumsTo_mem pos k
    have nx := next_of pos ih
    have ihd := ih d
    unfold sumsTo
    by_cases b : isNext gs (sumsTo gs k) ((k : Int) + 1) = true
    · rw [if_pos b, List.mem_append, List.mem_singleton, ihd]
      have := nx.mp b
      constructor
      · rintro (⟨h1, h2, h3⟩ | rfl)
        · exact ⟨h1, by omega, h3⟩
        · exact ⟨by omega, by omega, this⟩
      · rintro ⟨h1, h2, h3⟩
        by_cases z : d = (k : Int) + 1
        · exact .inr z
        · exact .inl ⟨h1, by omega, h3⟩
    · rw [if_neg b, ihd]
      constructor
      · rintro ⟨h1, h2, h3⟩
        exact ⟨h1, by omega, h3⟩
      · rintro ⟨h1, h2, h3⟩
        refine ⟨h1, ?_, h3⟩
        by_cases z : d = (k : Int) + 1
        · rw [z] at h3; exact absurd (nx.mpr h3) b
        · omega
def smb (gs : List Int) (d : Int) : Bool := decide (d = 0) || decide (d ∈ sumsTo gs d.toNat)
theorem smb_iff {gs : List Int} (pos : ∀ g ∈ gs, 1 ≤ g) {d : Int} (h0 : 0 ≤ d) : smb gs d = true ↔ Sm gs d := by
  unfold smb
  rw [Bool.or_eq_true, decide_eq_true_eq, decide_eq_true_eq, sumsTo_mem pos]
  constructor
  · rintro (rfl | ⟨_, _, h⟩)
    · exact .zero
    · exact h
  · intro h
    by_cases z : d = 0
    · exact .inl z
    · exact .inr ⟨by omega, by omega, h⟩
def ups (k : Nat) : List Int := (List.range k).map fun (i : Nat) => (i : Int) + 1
theorem ups_mem {k : Nat} {d : Int} : d ∈ ups k ↔ 1 ≤ d ∧ d ≤ k := by
  unfold ups
  rw [List.mem_map]
  constructor
  · rintro ⟨i, hi, rfl⟩
    rw [List.mem_range] at hi
    omega
  · rintro ⟨h1, h2⟩
    exact ⟨(d - 1).toNat, List.mem_range.mpr (by omega), by omega⟩
theorem ups_up (k : Nat) : (ups k).Pairwise (· < ·) := by
  unfold ups
  rw [List.pairwise_map]
  exact List.pairwise_lt_range.imp fun h => by omega
theorem sumsTo_filter {gs : List Int} (pos : ∀ g ∈ gs, 1 ≤ g) : ∀ k : Nat, sumsTo gs k = (ups k).filter (smb gs)
  | 0 => rfl
  | k + 1 => by
    have e : ups (k + 1) = ups k ++ [(k : Int) + 1] := by unfold ups; rw [List.range_succ, List.map_append]; rfl
    have nx := next_of pos (sumsTo_mem pos k)
    have sb := smb_iff pos (show (0 : Int) ≤ (k : Int) + 1 by omega)
    rw [e, List.filter_append, ← sumsTo_filter pos k]
    rw [show sumsTo gs (k + 1) = if isNext gs (sumsTo gs k) ((k : Int) + 1) then sumsTo gs k ++ [(k : Int) + 1] else sumsTo gs k from rfl]
    by_cases b : isNext gs (sumsTo gs k) ((k : Int) + 1) = true
    · rw [if_pos b, List.filter_cons_of_pos (sb.mpr (nx.mp b))]
      rfl
    · rw [if_neg b, List.filter_cons_of_neg (fun z => b (nx.mpr (sb.mp z)))]
      exact (List.append_nil _).symm

/-! ### the reach as a number's bits -/
def rstep (g : Nat) (r i : Nat) : Nat := if r.testBit i then r ||| 2 ^ (g + i) else r
def rwith (n : Nat) (r : Nat) (g : Nat) : Nat := (List.range (n - g)).foldl (rstep g) r
theorem rstep_bit {g : Nat} (h1 : 1 ≤ g) (r : Nat) : ∀ (i e : Nat), ((List.range i).foldl (rstep g) r).testBit e = true ↔ ∃ k, k * g ≤ e ∧ r.testBit (e - k * g) = true ∧ (k = 0 ∨ e < g + i)
  | 0, e => by
    constructor
    · intro h
      exact ⟨0, by omega, by rw [Nat.zero_mul]; exact h, .inl rfl⟩
    · rintro ⟨k, h2, h3, h4⟩
      have : k = 0 := by
        rcases h4 with h4 | h4
        · exact h4
        · rcases Nat.eq_zero_or_pos k with z | z
          · exact z
          · have := Nat.mul_le_mul_right g z
            omega
      subst this
      rw [Nat.zero_mul] at h3
      exact h3
  | i + 1, e => by
    have ih := rstep_bit h1 r i
    rw [List.range_succ, List.foldl_append]
    show (rstep g ((List.range i).foldl (rstep g) r) i).testBit e = true ↔ _
    generalize hs : (List.range i).foldl (rstep g) r = s at ih ⊢
    unfold rstep
    constructor
    · intro h
      by_cases b : s.testBit i = true
      · rw [if_pos b, Nat.testBit_or, Nat.testBit_two_pow, Bool.or_eq_true, decide_eq_true_eq] at h
        rcases h with h | h
        · obtain ⟨k, h2, h3, h4⟩ := (ih e).mp h
          exact ⟨k, h2, h3, by omega⟩
        · obtain ⟨k, h2, h3, _⟩ := (ih i).mp b
          refine ⟨k + 1, by rw [Nat.add_mul]; omega, ?_, .inr (by omega)⟩
          rw [show e - (k + 1) * g = i - k * g by rw [Nat.add_mul]; omega]
          exact h3
      · rw [if_neg b] at h
        obtain ⟨k, h2, h3, h4⟩ := (ih e).mp h
        exact ⟨k, h2, h3, by omega⟩
    · rintro ⟨k, h2, h3, h4⟩
      by_cases z : k = 0 ∨ e < g + i
      · have t := (ih e).mpr ⟨k, h2, h3, z⟩
        by_cases b : s.testBit i = true
        · rw [if_pos b, Nat.testBit_or, t]; rfl
        · rw [if_neg b]; exact t
      · have ek : e = g + i := by omega
        obtain ⟨j, rfl⟩ : ∃ j, k = j + 1 := ⟨k - 1, by omega⟩
        rw [Nat.add_mul] at h2 h3
        have b : s.testBit i = true := (ih i).mpr ⟨j, by omega, by rw [show i - j * g = e - (j * g + 1 * g) by omega]; exact h3, .inr (by omega)⟩
        rw [if_pos b, Nat.testBit_or, Nat.testBit_two_pow, decide_eq_true ek.symm, Bool.or_true]
theorem rwith_bit {n g : Nat} (h1 : 1 ≤ g) (h2 : g ≤ n) {r e : Nat} (he : e < n) : (rwith n r g).testBit e = true ↔ ∃ k, k * g ≤ e ∧ r.testBit (e - k * g) = true := by
  unfold rwith
  rw [rstep_bit h1]
  constructor
  · rintro ⟨k, a, b, _⟩
    exact ⟨k, a, b⟩
  · rintro ⟨k, a, b⟩
    exact ⟨k, a, b, .inr (by omega)⟩
def rch (n : Nat) (gs : List Int) : Nat := gs.foldl (fun r g => rwith n r g.toNat) 1
theorem sm_snoc {gs : List Int} {g d : Int} : Sm (gs ++ [g]) d ↔ ∃ k : Nat, Sm gs (d - (k : Int) * g) := by
  constructor
  · intro h
    induction h with
    | zero => exact ⟨0, by rw [show (0 : Int) - ((0 : Nat) : Int) * g = 0 by simp]; exact .zero⟩
    | @add x d m _ ih =>
      obtain ⟨k, h⟩ := ih
      rcases List.mem_append.mp m with m | m
      · refine ⟨k, ?_⟩
        rw [show x + d - (k : Int) * g = x + (d - (k : Int) * g) by omega]
        exact .add m h
      · rw [List.mem_singleton] at m
        subst m
        refine ⟨k + 1, ?_⟩
        rw [show x + d - ((k + 1 : Nat) : Int) * x = d - (k : Int) * x by rw [Int.natCast_add, Int.add_mul]; omega]
        exact h
  · rintro ⟨k, h⟩
    have a := h.mono (gs' := gs ++ [g]) fun x hx => List.mem_append_left _ hx
    have b := Sm.times (gs := gs ++ [g]) (List.mem_append_right _ List.mem_cons_self) k
    have := b.plus a
    rw [show (k : Int) * g + (d - (k : Int) * g) = d by omega] at this
    exact this
theorem fold_bit {n : Nat} : ∀ (gs pre : List Int) (r : Nat), (∀ g ∈ pre, 1 ≤ g) → (∀ g ∈ gs, 1 ≤ g ∧ g ≤ (n : Int)) → (∀ e : Nat, e < n → (r.testBit e = true ↔ Sm pre (e : Int))) →
    ∀ e : Nat, e < n → ((gs.foldl (fun r g => rwith n r g.toNat) r).testBit e = true ↔ Sm (pre ++ gs) (e : Int))
  | [], pre, r, _, _, h, e, he => by rw [List.append_nil]; exact h e he
  | g :: gs, pre, r, hp, hg, h, e, he => by
    have g0 := hg g List.mem_cons_self
    have hp' : ∀ x ∈ pre ++ [g], 1 ≤ x := fun x hx => by
      rcases List.mem_append.mp hx with hx | hx
      · exact hp x hx
      · rw [List.mem_singleton.mp hx]; exact g0.1
    have t := fold_bit gs (pre ++ [g]) (rwith n r g.toNat) hp' (fun x hx => hg x (List.mem_cons_of_mem _ hx)) (fun e he => by
      rw [rwith_bit (by omega) (by omega) he, sm_snoc]
      constructor
      · rintro ⟨k, a, b⟩
        have := (h _ (by omega)).mp b
        refine ⟨k, ?_⟩
        rw [show ((e - k * g.toNat : Nat) : Int) = (e : Int) - (k : Int) * g by rw [Int.ofNat_sub a, Int.natCast_mul, Int.toNat_of_nonneg (by omega)]] at this
        exact this
      · rintro ⟨k, a⟩
        have nn := a.nn hp
        have le : k * g.toNat ≤ e := by
          have : ((k * g.toNat : Nat) : Int) ≤ (e : Int) := by rw [Int.natCast_mul, Int.toNat_of_nonneg (by omega)]; omega
          omega
        refine ⟨k, le, (h _ (by omega)).mpr ?_⟩
        rw [show ((e - k * g.toNat : Nat) : Int) = (e : Int) - (k : Int) * g by rw [Int.ofNat_sub le, Int.natCast_mul, Int.toNat_of_nonneg (by omega)]]
        exact a) e he
    rw [List.append_assoc] at t
    exact t
theorem one_bit (e : Nat) : (1 : Nat).testBit e = true ↔ Sm [] (e : Int) := by
  rw [show (1 : Nat) = 2 ^ 0 from rfl, Nat.testBit_two_pow, decide_eq_true_eq]
  constructor
  · intro h
    rw [← h]
    exact .zero
  · intro h
    rcases sm_iff.mp h with h | ⟨g, m, _⟩
    · omega
    · cases m
theorem rch_bit {n : Nat} {gs : List Int} (hg : ∀ g ∈ gs, 1 ≤ g ∧ g ≤ (n : Int)) {e : Nat} (he : e < n) : (rch n gs).testBit e = smb gs (e : Int) := by
  have t := fold_bit gs [] 1 (fun _ h => by cases h) hg (fun e _ => one_bit e) e he
  rw [List.nil_append, ← smb_iff (fun g h => (hg g h).1) (by omega)] at t
  unfold rch
  cases a : (gs.foldl (fun r g => rwith n r g.toNat) 1).testBit e with
  | true => exact (t.mp a).symm
  | false =>
    cases b : smb gs (e : Int) with
    | true => rw [t.mpr b] at a; cases a
    | false => rfl
theorem rstep_lt {n g r i : Nat} (h : r < 2 ^ n) (hi : g + i < n) : rstep g r i < 2 ^ n := by
  unfold rstep
  split
  · exact Nat.or_lt_two_pow h (Nat.pow_lt_pow_right (by decide) hi)
  · exact h
theorem rfold_lt {n g : Nat} : ∀ (i : Nat) {r : Nat}, r < 2 ^ n → i ≤ n - g → (List.range i).foldl (rstep g) r < 2 ^ n
  | 0, r, h, _ => h
  | i + 1, r, h, hi => by
    rw [List.range_succ, List.foldl_append]
    exact rstep_lt (rfold_lt i h (by omega)) (by omega)
theorem rwith_lt {n g r : Nat} (h : r < 2 ^ n) : rwith n r g < 2 ^ n := rfold_lt _ h (Nat.le_refl _)
theorem rch_lt' {n : Nat} : ∀ (gs : List Int) {r : Nat}, r < 2 ^ n → gs.foldl (fun r g => rwith n r g.toNat) r < 2 ^ n
  | [], _, h => h
  | g :: gs, _, h => rch_lt' gs (rwith_lt h)

/-! ### in order at a difference -/
def SAt (l : List Int) (d : Int) : Prop := ∀ x : Int, 1 ≤ x → x + d ≤ (l.length : Int) → at1 l x ≤ at1 l (x + d)
theorem sat_zero (l : List Int) : SAt l 0 := fun x _ _ => by rw [Int.add_zero]; exact Int.le_refl _
theorem SAt.add {l : List Int} {a b : Int} (ha : SAt l a) (hb : SAt l b) (h0 : 0 ≤ a) (h0' : 0 ≤ b) : SAt l (a + b) := fun x h1 h2 => by
  have := ha x h1 (by omega)
  have t := hb (x + a) (by omega) (by omega)
  rw [show x + (a + b) = x + a + b by omega]
  omega
theorem sm_sat {l : List Int} {gs : List Int} (pos : ∀ g ∈ gs, 1 ≤ g) (h : ∀ g ∈ gs, SAt l g) {d : Int} (s : Sm gs d) : SAt l d := by
  induction s with
  | zero => exact sat_zero l
  | add m s ih => exact (h _ m).add ih (by have := pos _ m; omega) (s.nn pos)
theorem cnt_gt {a b c : Int} (hc : 1 ≤ c) {j : Nat} (h : a + (j : Int) * c < b) : j < cnt a b c := by
  have p : 0 ≤ (j : Int) * c := Int.mul_nonneg (by omega) (by omega)
  unfold cnt
  rw [if_pos (by omega)]
  have : (j : Int) ≤ (b - a - 1) / c := Int.le_ediv_of_mul_le (by omega) (by omega)
  omega
theorem stepI_get {a c : Int} {m j : Nat} (h : j < m) : (stepI a c m)[j]? = some (a + (j : Int) * c) := by
  unfold stepI
  rw [List.getElem?_map, List.getElem?_range h]
  rfl
def gapC (n : Nat) (g : Int) (i : Nat) : List Int := stepI (1 + (i : Nat)) g (cnt (1 + (i : Nat)) ((n : Int) + 1) g)
theorem gapC_mem {n : Nat} {g : Int} {i : Nat} (h : (i : Int) < g) : gapC n g i ∈ gapFam n g := List.mem_map.mpr ⟨i, List.mem_range.mpr (by omega), rfl⟩
theorem gapC_get {n : Nat} {g : Int} (h1 : 1 ≤ g) {i j : Nat} (h : 1 + (i : Int) + (j : Int) * g ≤ n) : (gapC n g i)[j]? = some (1 + (i : Int) + (j : Int) * g) := stepI_get (cnt_gt h1 (by omega))
theorem gapC_len {n : Nat} {g : Int} {i : Nat} : (gapC n g i).length = cnt (1 + (i : Nat)) ((n : Int) + 1) g := by unfold gapC stepI; rw [List.length_map, List.length_range]
theorem place_split {g x : Int} (h1 : 1 ≤ g) (hx : 1 ≤ x) : ∃ i j : Nat, (i : Int) < g ∧ (j : Int) = (x - 1) / g ∧ x = 1 + (i : Int) + (j : Int) * g := by
  have a := Int.emod_nonneg (x - 1) (show g ≠ 0 by omega)
  have b := Int.emod_lt_of_pos (x - 1) (show 0 < g by omega)
  have c : 0 ≤ (x - 1) / g := Int.ediv_nonneg (by omega) (by omega)
  have e := Int.mul_ediv_add_emod (x - 1) g
  have f := Int.mul_comm g ((x - 1) / g)
  refine ⟨((x - 1) % g).toNat, ((x - 1) / g).toNat, by omega, by omega, ?_⟩
  rw [Int.toNat_of_nonneg a, Int.toNat_of_nonneg c]
  omega
theorem gap_sat {l : List Int} {g : Int} (h1 : 1 ≤ g) : isSorted l (gapFam l.length g) = true ↔ SAt l g := by
  rw [isSorted_iff]
  constructor
  · intro h x hx hx2
    obtain ⟨i, j, hi, _, e⟩ := place_split h1 hx
    have e2 : x + g = 1 + (i : Int) + ((j + 1 : Nat) : Int) * g := by rw [Int.natCast_add, Int.add_mul]; omega
    have g1 := gapC_get (n := l.length) h1 (i := i) (j := j) (by omega)
    have g2 := gapC_get (n := l.length) h1 (i := i) (j := j + 1) (by omega)
    have := pairwise_get (h _ (gapC_mem hi)) (Nat.lt_succ_self j) g1 g2
    rw [e2, e]
    exact this
  · intro h c hc
    obtain ⟨i, hi, rfl⟩ := List.mem_map.mp hc
    refine pairwise_mk fun a b x y hab hx hy => ?_
    have la : a < cnt (1 + (i : Nat)) ((l.length : Int) + 1) g := by
      have := (List.getElem?_eq_some_iff.mp hx).1
      unfold stepI at this
      rw [List.length_map, List.length_range] at this
      exact this
    have lb : b < cnt (1 + (i : Nat)) ((l.length : Int) + 1) g := by
      have := (List.getElem?_eq_some_iff.mp hy).1
      unfold stepI at this
      rw [List.length_map, List.length_range] at this
      exact this
    rw [stepI_get la] at hx
    rw [stepI_get lb] at hy
    obtain rfl := Option.some.inj hx
    obtain rfl := Option.some.inj hy
    have ub := step_lt h1 lb
    have s : SAt l (((b - a : Nat) : Int) * g) := sm_sat (gs := [g]) (fun x hx => by rw [List.mem_singleton.mp hx]; exact h1) (fun x hx => by rw [List.mem_singleton.mp hx]; exact h) (Sm.times List.mem_cons_self _)
    have ee : (b : Int) * g = (a : Int) * g + ((b - a : Nat) : Int) * g := by
      rw [← Int.add_mul]
      congr 1
      omega
    have p : 0 ≤ (a : Int) * g := Int.mul_nonneg (by omega) (by omega)
    have := s (1 + (i : Int) + (a : Int) * g) (by omega) (by omega)
    rw [show 1 + (i : Int) + (b : Int) * g = 1 + (i : Int) + (a : Int) * g + ((b - a : Nat) : Int) * g by omega]
    exact this
theorem count_shift (p q : Nat → Bool) (k m m' : Nat) (h : ∀ j, k ≤ j → j < m' → p j = true → j - k < m ∧ q (j - k) = true) : (List.range m').countP p ≤ k + (List.range m).countP q := by
  have t := inj_le (fun a b : Nat => a = b) ((List.range m').filter p) (List.range k ++ ((List.range m).filter q).map (· + k)) (List.nodup_range.filter _) (fun a ha => by
    obtain ⟨h1, h2⟩ := List.mem_filter.mp ha
    rw [List.mem_range] at h1
    refine ⟨a, ?_, rfl⟩
    by_cases z : a < k
    · exact List.mem_append_left _ (List.mem_range.mpr z)
    · obtain ⟨h3, h4⟩ := h a (by omega) h1 h2
      exact List.mem_append_right _ (List.mem_map.mpr ⟨a - k, List.mem_filter.mpr ⟨List.mem_range.mpr h3, h4⟩, by omega⟩)) (fun a _ b _ c h1 h2 => h1.trans h2.symm)
  rw [List.length_append, List.length_range, List.length_map, ← List.countP_eq_length_filter, ← List.countP_eq_length_filter] at t
  exact t
theorem sort_sat {l : List Int} {g h : Int} (h1 : 1 ≤ g) (hh : 0 ≤ h) (s : SAt l h) : SAt (sortAlong l (gapFam l.length g)) h := fun x hx hx2 => by
  rw [sortAlong_len] at hx2
  obtain ⟨i, r, hi, hr, e⟩ := place_split h1 hx
  obtain ⟨i', s', hi', hs, e'⟩ := place_split h1 (show 1 ≤ x + h by omega)
  have v : Valid l.length (gapFam l.length g) := valid_gap h1
  have rs : r ≤ s' := by
    have : (x - 1) / g ≤ (x + h - 1) / g := Int.ediv_le_ediv (by omega) (by omega)
    omega
  have g1 := gapC_get (n := l.length) h1 (i := i) (j := r) (by omega)
  have g2 := gapC_get (n := l.length) h1 (i := i') (j := s') (by omega)
  rw [← e] at g1
  rw [← e'] at g2
  have k2 := (rank_after v (gapC_mem hi') g2 (at1 (sortAlong l (gapFam l.length g)) (x + h))).mp (Int.le_refl _)
  refine (rank_after v (gapC_mem hi) g1 _).mpr ?_
  generalize at1 (sortAlong l (gapFam l.length g)) (x + h) = t at k2 ⊢
  have cs : (gapC l.length g i').countP (low l t) ≤ (s' - r) + (gapC l.length g i).countP (low l t) := by
    unfold gapC stepI
    rw [List.countP_map, List.countP_map]
    refine count_shift _ _ _ _ _ fun j hj hj2 hp => ?_
    have ej : (j : Int) * g = ((j - (s' - r) : Nat) : Int) * g + (s' : Int) * g - (r : Int) * g := by
      rw [← Int.add_mul, ← Int.sub_mul]
      congr 1
      omega
    have ub := step_lt h1 hj2
    have p : 0 ≤ ((j - (s' - r) : Nat) : Int) * g := Int.mul_nonneg (by omega) (by omega)
    refine ⟨cnt_gt h1 (by omega), ?_⟩
    have hp' : at1 l (1 + (i' : Int) + (j : Int) * g) ≤ t := of_decide_eq_true hp
    have := s (1 + (i : Int) + ((j - (s' - r) : Nat) : Int) * g) (by omega) (by omega)
    rw [show 1 + (i : Int) + ((j - (s' - r) : Nat) : Int) * g + h = 1 + (i' : Int) + (j : Int) * g by omega] at this
    exact decide_eq_true (show at1 l (1 + (i : Int) + ((j - (s' - r) : Nat) : Int) * g) ≤ t by omega)
  omega
theorem sorted_sat {l : List Int} {g : Int} (h1 : 1 ≤ g) : SAt (sortAlong l (gapFam l.length g)) g := by
  have := sorted_after (load := l) (valid_gap (n := l.length) h1)
  rw [← sortAlong_len l (gapFam l.length g)] at this
  have t := (gap_sat (l := sortAlong l (gapFam l.length g)) h1).mp (by rw [sortAlong_len] at this ⊢; exact this)
  exact t
theorem row_sat {n : Nat} : ∀ (gs : List Int) (l : List Int), l.length = n → (∀ g ∈ gs, 1 ≤ g) → (∀ h : Int, 0 ≤ h → SAt l h → SAt (afterRow l (gs.map (gapFam n))) h) ∧ ∀ g ∈ gs, SAt (afterRow l (gs.map (gapFam n))) g
  | [], l, _, _ => ⟨fun _ _ h => h, fun _ h => by cases h⟩
  | g :: gs, l, hl, pos => by
    have h1 := pos g List.mem_cons_self
    have ih := row_sat gs (sortAlong l (gapFam n g)) ((sortAlong_len _ _).trans hl) fun x hx => pos x (List.mem_cons_of_mem _ hx)
    subst hl
    refine ⟨fun h h0 s => ih.1 h h0 (sort_sat h1 h0 s), fun x hx => ?_⟩
    rcases List.mem_cons.mp hx with rfl | hx
    · exact ih.1 x (by omega) (sorted_sat h1)
    · exact ih.2 x hx

/-! ### a filling that is in order at the sums alone -/
def worst (n : Nat) (gs : List Int) : List Int := (List.range n).map fun (i : Nat) => if smb gs ((n : Int) - 1 - (i : Int)) then 0 else 1
theorem worst_len (n : Nat) (gs : List Int) : (worst n gs).length = n := by unfold worst; rw [List.length_map, List.length_range]
theorem at1_worst {n : Nat} {gs : List Int} {x : Int} (h1 : 1 ≤ x) (h2 : x ≤ n) : at1 (worst n gs) x = if smb gs ((n : Int) - x) then 0 else 1 := by
  have hl : (x - 1).toNat < n := by omega
  unfold at1 worst
  rw [List.getD_eq_getElem?_getD, List.getElem?_map, List.getElem?_range hl]
  show (if smb gs ((n : Int) - 1 - ((x - 1).toNat : Int)) then (0 : Int) else 1) = _
  rw [show (n : Int) - 1 - ((x - 1).toNat : Int) = (n : Int) - x by omega]
theorem worst_sat {n : Nat} {gs : List Int} (pos : ∀ g ∈ gs, 1 ≤ g) {g : Int} (hg : g ∈ gs) : SAt (worst n gs) g := fun x h1 h2 => by
  have p := pos g hg
  rw [worst_len] at h2
  rw [at1_worst h1 (by omega), at1_worst (by omega) h2]
  by_cases b : smb gs ((n : Int) - (x + g)) = true
  · have s := (smb_iff pos (show (0 : Int) ≤ (n : Int) - (x + g) by omega)).mp b
    have := Sm.add hg s
    rw [show g + ((n : Int) - (x + g)) = (n : Int) - x by omega] at this
    rw [if_pos ((smb_iff pos (by omega)).mpr this), if_pos b]
    exact Int.le_refl _
  · rw [if_neg b]
    split
    · decide
    · decide
theorem worst_not {n : Nat} {gs : List Int} (pos : ∀ g ∈ gs, 1 ≤ g) {d : Int} (h1 : 1 ≤ d) (h2 : d < n) (ns : ¬ Sm gs d) : ¬ SAt (worst n gs) d := fun s => by
  have := s ((n : Int) - d) (by omega) (by rw [worst_len]; omega)
  rw [at1_worst (by omega) (by omega), at1_worst (by omega) (by omega), if_neg (fun z => ns (by
    have t := (smb_iff pos (by omega)).mp z
    rw [show (n : Int) - ((n : Int) - d) = d by omega] at t
    exact t)), if_pos (by rw [show (n : Int) - ((n : Int) - d + d) = 0 by omega]; exact (smb_iff pos (Int.le_refl 0)).mpr .zero)] at this
  omega
theorem row_still {n : Nat} : ∀ (gs : List Int) (l : List Int), l.length = n → (∀ g ∈ gs, 1 ≤ g) → (∀ g ∈ gs, SAt l g) → afterRow l (gs.map (gapFam n)) = l
  | [], _, _, _, _ => rfl
  | g :: gs, l, hl, pos, h => by
    subst hl
    have h1 := pos g List.mem_cons_self
    have e : sortAlong l (gapFam l.length g) = l := sort_still (valid_gap h1) ((gap_sat h1).mpr (h g List.mem_cons_self))
    show afterRow (sortAlong l (gapFam l.length g)) (gs.map (gapFam l.length)) = l
    rw [e]
    exact row_still gs l rfl (fun x hx => pos x (List.mem_cons_of_mem _ hx)) fun x hx => h x (List.mem_cons_of_mem _ hx)
theorem bits_num : ∀ (n : Nat) (f : Nat → Bool), ∃ m, m < 2 ^ n ∧ ∀ i, i < n → m.testBit i = f i
  | 0, f => ⟨0, by decide, fun i h => absurd h (Nat.not_lt_zero _)⟩
  | n + 1, f => by
    obtain ⟨m, hm, h⟩ := bits_num n fun i => f (i + 1)
    refine ⟨2 * m + (f 0).toNat, ?_, fun i hi => ?_⟩
    · rw [Nat.pow_succ]
      have : (f 0).toNat ≤ 1 := Bool.toNat_le _
      omega
    · cases i with
      | zero =>
        rw [Nat.testBit_zero]
        cases f 0
        · show decide ((2 * m + 0) % 2 = 1) = false
          exact decide_eq_false (by omega)
        · show decide ((2 * m + 1) % 2 = 1) = true
          exact decide_eq_true (by omega)
      | succ i =>
        have lt : (f 0).toNat ≤ 1 := Bool.toNat_le _
        rw [Nat.testBit_succ, show (2 * m + (f 0).toNat) / 2 = m by omega]
        exact h i (by omega)
def markN (n m : Nat) : List Int := (List.range n).map fun i => if m.testBit i then 1 else 0
theorem markN_len (n m : Nat) : (markN n m).length = n := by unfold markN; rw [List.length_map, List.length_range]
theorem worst_mark (n : Nat) (gs : List Int) : ∃ m, m < 2 ^ n ∧ markN n m = worst n gs := by
  obtain ⟨m, hm, h⟩ := bits_num n fun i => !smb gs ((n : Int) - 1 - (i : Int))
  refine ⟨m, hm, ?_⟩
  unfold markN worst
  refine List.map_congr_left fun i hi => ?_
  rw [h i (List.mem_range.mp hi)]
  cases smb gs ((n : Int) - 1 - (i : Int)) <;> rfl
theorem small_iff {n : Nat} {gs : List Int} (pos : ∀ g ∈ gs, 1 ≤ g) {d : Int} (h1 : 1 ≤ d) (h2 : d < n) : (∀ m, m < 2 ^ n → SAt (afterRow (markN n m) (gs.map (gapFam n))) d) ↔ Sm gs d := by
  constructor
  · intro h
    refine Classical.byContradiction fun ns => ?_
    obtain ⟨m, hm, e⟩ := worst_mark n gs
    have := h m hm
    rw [e, row_still gs _ (worst_len n gs) pos fun g hg => worst_sat pos hg] at this
    exact worst_not pos h1 h2 ns this
  · intro s m _
    exact sm_sat pos (row_sat gs _ (markN_len n m) pos).2 s

/-! ### the chain of a gap, told by a test -/
theorem up_same {l m : List Int} (hl : l.Pairwise (· < ·)) (hm : m.Pairwise (· < ·)) (h : ∀ x, x ∈ l ↔ x ∈ m) : l = m := by
  have nd : ∀ {l : List Int}, l.Pairwise (· < ·) → l.Nodup := fun h => h.imp fun h e => by omega
  exact PySem.W.ksm_same ((List.perm_ext_iff_of_nodup (nd hl) (nd hm)).mpr h) (hl.imp fun h => Int.le_of_lt h) (hm.imp fun h => Int.le_of_lt h)
theorem stepI_up {a c : Int} (hc : 1 ≤ c) (m : Nat) : (stepI a c m).Pairwise (· < ·) := by
  unfold stepI
  rw [List.pairwise_map]
  refine List.pairwise_lt_range.imp fun {i j} h => ?_
  have : (i : Int) * c < (j : Int) * c := Int.mul_lt_mul_of_pos_right (by omega) (by omega)
  omega
theorem gapC_filter {n : Nat} {g : Int} (h1 : 1 ≤ g) {i : Nat} (hi : (i : Int) < g) : gapC n g i = (ups n).filter fun x => decide ((x - (1 + (i : Int))) % g = 0) := by
  refine up_same (stepI_up h1 _) ((ups_up n).filter _) fun x => ?_
  rw [List.mem_filter, ups_mem, decide_eq_true_eq]
  constructor
  · intro h
    obtain ⟨a, b, j, rfl⟩ := step_mem h1 h
    refine ⟨⟨by omega, by omega⟩, ?_⟩
    rw [show 1 + (i : Int) + (j : Int) * g - (1 + (i : Int)) = (j : Int) * g by omega]
    exact Int.mul_emod_left _ _
  · rintro ⟨⟨a, b⟩, c⟩
    obtain ⟨q, hq⟩ := Int.dvd_of_emod_eq_zero c
    have q0 : 0 ≤ q := by
      refine Classical.byContradiction fun z => ?_
      have : g * q ≤ g * (-1) := Int.mul_le_mul_of_nonneg_left (by omega) (by omega)
      omega
    have e : x = 1 + (i : Int) + (q.toNat : Int) * g := by
      rw [Int.toNat_of_nonneg q0, Int.mul_comm]
      omega
    have := gapC_get (n := n) h1 (i := i) (j := q.toNat) (by omega)
    rw [← e] at this
    exact List.mem_of_getElem? this
end Kt


set_option autoImplicit false
set_option Elab.async false
set_option autoImplicit false
set_option linter.all false
set_option maxRecDepth 100000
set_option maxHeartbeats 4000000
/-! Rows of families: what holds for noughts and ones holds for all orders; fillings by 0 and 1 as numbers. -/
namespace Kt
open PySem L2 PyProof.Rows
/-! ### noughts and ones -/
def thr (t v : Int) : Int := if v ≤ t then 0 else 1
theorem thr_up (t : Int) {a b : Int} (h : a ≤ b) : thr t a ≤ thr t b := by
  unfold thr
  split <;> split <;> omega
theorem thr_bits (t : Int) (l : List Int) : bits (l.map (thr t)) := fun v hv => by
  obtain ⟨x, _, rfl⟩ := List.mem_map.mp hv
  unfold thr
  split
  · exact .inl rfl
  · exact .inr rfl
theorem at1_map {g : Int → Int} {l : List Int} {p : Int} (h1 : 1 ≤ p) (h2 : p ≤ (l.length : Int)) : at1 (l.map g) p = g (at1 l p) := by
  have h := at1_get h1 h2
  have h' := at1_get (load := l.map g) h1 (by rw [List.length_map]; exact h2)
  rw [List.getElem?_map, h] at h'
  exact (Option.some.inj h').symm
section
variable {g : Int → Int} (mono : ∀ a b : Int, a ≤ b → g a ≤ g b)
include mono
theorem srt_map (xs : List Int) : srt (xs.map g) = (srt xs).map g := (srt_of ((srt_perm xs).map g) (List.pairwise_map.mpr ((srt_up xs).imp fun h => mono _ _ h))).symm
omit mono in
theorem put_map : ∀ (c vs r : List Int), put (r.map g) c (vs.map g) = (put r c vs).map g
  | [], _, _ => rfl
  | _ :: _, [], _ => rfl
  | p :: c, v :: vs, r => by
    show put (put1 (r.map g) (p, g v)) c (vs.map g) = (put (put1 r (p, v)) c vs).map g
    rw [← put_map c vs]
    unfold put1
    rw [List.map_set]
theorem along_map {load r c : List Int} (hc : ∀ x ∈ c, 1 ≤ x ∧ x ≤ (load.length : Int)) : along1 (load.map g) (r.map g) c = (along1 load r c).map g := by
  unfold along1
  rw [show c.map (at1 (load.map g)) = (c.map (at1 load)).map g by
    rw [List.map_map]
    exact List.map_congr_left fun x hx => at1_map (hc x hx).1 (hc x hx).2, srt_map mono, put_map]
theorem foldA_map {load : List Int} : ∀ (f : List (List Int)) (r : List Int), (∀ c ∈ f, ∀ x ∈ c, 1 ≤ x ∧ x ≤ (load.length : Int)) → f.foldl (along1 (load.map g)) (r.map g) = (f.foldl (along1 load) r).map g
  | [], _, _ => rfl
  | c :: f, r, h => by
    rw [List.foldl_cons, List.foldl_cons, along_map mono (h c List.mem_cons_self)]
    exact foldA_map f _ fun d hd => h d (List.mem_cons_of_mem _ hd)
theorem sortA_map {load : List Int} {f : List (List Int)} (v : Valid load.length f) : sortAlong (load.map g) f = (sortAlong load f).map g := foldA_map mono f load fun c hc x hx => v.rg x (flatten_mem hc hx)
theorem row_map {n : Nat} : ∀ (R : List (List (List Int))) (load : List Int), load.length = n → (∀ f ∈ R, Valid n f) → afterRow (load.map g) R = (afterRow load R).map g
  | [], _, _, _ => rfl
  | f :: R, load, hl, h => by
    subst hl
    show afterRow (sortAlong (load.map g) f) R = (afterRow (sortAlong load f) R).map g
    rw [sortA_map mono (h f List.mem_cons_self)]
    exact row_map R _ (sortAlong_len _ _) fun d hd => h d (List.mem_cons_of_mem _ hd)
end
theorem bits_onto {n : Nat} {b : List Int} (hl : b.length = n) (hb : bits b) : ∃ o : List Int, o.Perm (placesTo n) ∧ ∃ t, b = o.map (thr t) := by
  have fu : Full n [placesTo n] := fun x h1 h2 => by
    rw [List.flatten_cons, List.flatten_nil, List.append_nil]
    exact placesTo_mem.mpr ⟨h1, h2⟩
  have v : Valid n [placesTo n] := ⟨by rw [List.flatten_cons, List.flatten_nil, List.append_nil]; exact placesTo_nodup n, fun x hx => by
    rw [List.flatten_cons, List.flatten_nil, List.append_nil] at hx
    exact placesTo_mem.mp hx⟩
  let D : Int → Bool := fun x => decide (at1 b x = 0)
  refine ⟨turnLoad n [placesTo n] D, turnLoad_perm v fu, (([placesTo n].flatten.filter D).length : Int), ?_⟩
  refine ext_at1 (by rw [List.length_map, turnLoad_len, hl]) fun x h1 h2 => ?_
  rw [hl] at h2
  rw [at1_map h1 (by rw [turnLoad_len]; exact h2), at1_turn h1 h2]
  have sp := inTurn_split (D := D) (fu x h1 h2)
  have bx := hb (at1 b x) (at1_mem h1 (by omega))
  unfold thr
  by_cases z : at1 b x = 0
  · have := sp.mpr (decide_eq_true z)
    rw [if_pos (by omega), z]
  · have nd : ¬ D x = true := fun q => z (of_decide_eq_true q)
    have : ¬ (inTurn [placesTo n] D).idxOf x < ([placesTo n].flatten.filter D).length := fun q => nd (sp.mp q)
    rw [if_neg (by omega)]
    rcases bx with q | q
    · exact absurd q z
    · exact q
section
variable {n : Nat} {R S : List (List (List Int))}
theorem same01 (vr : ∀ f ∈ R, Valid n f) (vs : ∀ f ∈ S, Valid n f) : (∀ o : List Int, o.Perm (placesTo n) → afterRow o R = afterRow o S) ↔ ∀ b : List Int, b.length = n → bits b → afterRow b R = afterRow b S := by
  constructor
  · intro h b hl hb
    obtain ⟨o, po, t, rfl⟩ := bits_onto hl hb
    rw [row_map (fun _ _ q => thr_up t q) R o (perm_len po) vr, row_map (fun _ _ q => thr_up t q) S o (perm_len po) vs, h o po]
  · intro h o po
    refine ext_at1 (by rw [afterRow_len, afterRow_len]) fun x h1 h2 => Classical.byContradiction fun ne => ?_
    have key : ∀ t, thr t (at1 (afterRow o R) x) = thr t (at1 (afterRow o S) x) := fun t => by
      have := h (o.map (thr t)) (by rw [List.length_map]; exact perm_len po) (thr_bits _ _)
      rw [row_map (fun _ _ q => thr_up t q) R o (perm_len po) vr, row_map (fun _ _ q => thr_up t q) S o (perm_len po) vs] at this
      have e := congrArg (fun l => at1 l x) this
      rw [afterRow_len] at h2
      have e : at1 ((afterRow o R).map (thr t)) x = at1 ((afterRow o S).map (thr t)) x := e
      rw [at1_map h1 (by rw [afterRow_len]; exact h2), at1_map h1 (by rw [afterRow_len]; exact h2)] at e
      exact e
    have k1 := key (at1 (afterRow o R) x)
    have k2 := key (at1 (afterRow o S) x)
    unfold thr at k1 k2
    rw [if_pos (Int.le_refl _)] at k1
    rw [if_pos (Int.le_refl _)] at k2
    split at k1
    · split at k2
      · omega
      · exact absurd k2 (by decide)
    · exact absurd k1 (by decide)
theorem sure01 (vr : ∀ f ∈ R, Valid n f) {x y : Int} (x1 : 1 ≤ x) (x2 : x ≤ (n : Int)) (y1 : 1 ≤ y) (y2 : y ≤ (n : Int)) :
    (∀ o : List Int, o.Perm (placesTo n) → at1 (afterRow o R) x ≤ at1 (afterRow o R) y) ↔ ∀ b : List Int, b.length = n → bits b → at1 (afterRow b R) x ≤ at1 (afterRow b R) y := by
  have key : ∀ (o : List Int) (t : Int), o.length = n → ∀ z : Int, 1 ≤ z → z ≤ (n : Int) → at1 (afterRow (o.map (thr t)) R) z = thr t (at1 (afterRow o R) z) := fun o t hl z z1 z2 => by
    rw [row_map (fun _ _ q => thr_up t q) R o hl vr, at1_map z1 (by rw [afterRow_len, hl]; exact z2)]
  constructor
  · intro h b hl hb
    obtain ⟨o, po, t, rfl⟩ := bits_onto hl hb
    rw [key o t (perm_len po) x x1 x2, key o t (perm_len po) y y1 y2]
    exact thr_up t (h o po)
  · intro h o po
    have := h (o.map (thr (at1 (afterRow o R) y))) (by rw [List.length_map]; exact perm_len po) (thr_bits _ _)
    rw [key o _ (perm_len po) x x1 x2, key o _ (perm_len po) y y1 y2] at this
    unfold thr at this
    rw [if_pos (Int.le_refl _)] at this
    split at this
    · assumption
    · exact absurd this (by decide)
theorem valid_in {F : List (List Int)} (vf : Valid n F) {c : List Int} (hc : c ∈ F) {x : Int} (hx : x ∈ c) : 1 ≤ x ∧ x ≤ (n : Int) := vf.rg x (flatten_mem hc hx)
theorem sorted01 (vr : ∀ f ∈ R, Valid n f) {F : List (List Int)} (vf : Valid n F) :
    (∀ o : List Int, o.Perm (placesTo n) → isSorted (afterRow o R) F = true) ↔ ∀ b : List Int, b.length = n → bits b → isSorted (afterRow b R) F = true := by
  constructor
  · intro h b hl hb
    refine isSorted_iff.mpr fun c hc => pairwise_mk fun i j x y l hx hy => ?_
    have mx := valid_in vf hc (List.mem_of_getElem? hx)
    have my := valid_in vf hc (List.mem_of_getElem? hy)
    exact (sure01 vr mx.1 mx.2 my.1 my.2).mp (fun o po => pairwise_get (isSorted_iff.mp (h o po) c hc) l hx hy) b hl hb
  · intro h o po
    refine isSorted_iff.mpr fun c hc => pairwise_mk fun i j x y l hx hy => ?_
    have mx := valid_in vf hc (List.mem_of_getElem? hx)
    have my := valid_in vf hc (List.mem_of_getElem? hy)
    exact (sure01 vr mx.1 mx.2 my.1 my.2).mpr (fun b hl hb => pairwise_get (isSorted_iff.mp (h b hl hb) c hc) l hx hy) o po
theorem still_iff {load : List Int} {F : List (List Int)} (vf : Valid load.length F) : sortAlong load F = load ↔ isSorted load F = true := by
  constructor
  · intro h
    have := sorted_after vf
    rw [h] at this
    exact this
  · exact sort_still vf
end
/-! ### numbers -/
def fil (n m : Nat) : List Int := (List.range n).map fun i => if m.testBit (n - 1 - i) then 1 else 0
theorem fil_len (n m : Nat) : (fil n m).length = n := by unfold fil; rw [List.length_map, List.length_range]
theorem at1_fil {n m : Nat} {x : Int} (h1 : 1 ≤ x) (h2 : x ≤ (n : Int)) : at1 (fil n m) x = if m.testBit (n - x.toNat) then 1 else 0 := by
  have h := at1_get (load := fil n m) h1 (by rw [fil_len]; exact h2)
  unfold fil at h
  rw [List.getElem?_map, List.getElem?_range (by omega), Option.map_some, show n - 1 - (x - 1).toNat = n - x.toNat by omega] at h
  exact (Option.some.inj h).symm
theorem fil_bits (n m : Nat) : bits (fil n m) := fun v hv => by
  obtain ⟨i, _, rfl⟩ := List.mem_map.mp hv
  split
  · exact .inr rfl
  · exact .inl rfl
theorem fil_inj {n m m' : Nat} (h : m < 2 ^ n) (h' : m' < 2 ^ n) (e : fil n m = fil n m') : m = m' := by
  refine Nat.eq_of_testBit_eq fun i => ?_
  by_cases hi : i < n
  · have e1 := congrArg (fun l => at1 l ((n : Int) - (i : Int))) e
    have e1 : at1 (fil n m) ((n : Int) - (i : Int)) = at1 (fil n m') ((n : Int) - (i : Int)) := e1
    rw [at1_fil (by omega) (by omega), at1_fil (by omega) (by omega), show n - ((n : Int) - (i : Int)).toNat = i by omega] at e1
    cases a : m.testBit i <;> cases b : m'.testBit i <;> rw [a, b] at e1 <;> first | rfl | exact absurd e1 (by decide)
  · have le : 2 ^ n ≤ 2 ^ i := Nat.pow_le_pow_right (by decide) (by omega)
    rw [Nat.testBit_lt_two_pow (Nat.lt_of_lt_of_le h le), Nat.testBit_lt_two_pow (Nat.lt_of_lt_of_le h' le)]
theorem fil_onto {n : Nat} {b : List Int} (hl : b.length = n) (hb : bits b) : ∃ m, m < 2 ^ n ∧ fil n m = b := by
  obtain ⟨m, hm, h⟩ := bits_num n fun i => decide (at1 b ((n : Int) - (i : Int)) = 1)
  refine ⟨m, hm, ext_at1 (by rw [fil_len, hl]) fun x h1 h2 => ?_⟩
  rw [fil_len] at h2
  rw [at1_fil h1 h2, h _ (by omega), show (n : Int) - ((n - x.toNat : Nat) : Int) = x by omega]
  rcases hb (at1 b x) (at1_mem h1 (by omega)) with q | q <;> rw [q] <;> rfl
def mkN (n : Nat) (p : Int) : Nat := 2 ^ (n - p.toNat)
theorem mk_bit {n : Nat} {p x : Int} (p1 : 1 ≤ p) (p2 : p ≤ (n : Int)) (x1 : 1 ≤ x) (x2 : x ≤ (n : Int)) : (mkN n p).testBit (n - x.toNat) = decide (x = p) := by
  unfold mkN
  rw [Nat.testBit_two_pow]
  exact decide_eq_decide.mpr ⟨fun h => by omega, fun h => by omega⟩
def rest (n : Nat) (c : List Int) : Nat := c.foldr (fun p r => r ||| mkN n p) 0
theorem rest_bit {n : Nat} {x : Int} (x1 : 1 ≤ x) (x2 : x ≤ (n : Int)) : ∀ c : List Int, (∀ p ∈ c, 1 ≤ p ∧ p ≤ (n : Int)) → (rest n c).testBit (n - x.toNat) = decide (x ∈ c)
  | [], _ => by
    show (0 : Nat).testBit _ = _
    rw [Nat.zero_testBit]
    exact (decide_eq_false fun h => nomatch h).symm
  | p :: c, h => by
    show (rest n c ||| mkN n p).testBit _ = _
    rw [Nat.testBit_or, rest_bit x1 x2 c fun q hq => h q (List.mem_cons_of_mem _ hq), mk_bit (h p List.mem_cons_self).1 (h p List.mem_cons_self).2 x1 x2, ← Bool.decide_or]
    exact decide_eq_decide.mpr ⟨fun q => q.elim (List.mem_cons_of_mem _) fun e => e ▸ List.mem_cons_self, fun q => (List.mem_cons.mp q).elim .inr .inl⟩
theorem rest_lt {n : Nat} : ∀ c : List Int, (∀ p ∈ c, 1 ≤ p ∧ p ≤ (n : Int)) → rest n c < 2 ^ n
  | [], _ => Nat.pow_pos (by decide)
  | p :: c, h => by
    have hp := h p List.mem_cons_self
    exact Nat.or_lt_two_pow (rest_lt c fun q hq => h q (List.mem_cons_of_mem _ hq)) (Nat.pow_lt_pow_right (by decide) (by omega))
def pop (n m : Nat) : Nat := (List.range n).countP m.testBit
theorem sub_and_bit : ∀ (i m w : Nat), (m - (m &&& w)).testBit i = (m.testBit i && !w.testBit i)
  | 0, m, w => by
    rw [Nat.testBit_zero, Nat.testBit_zero, Nat.testBit_zero]
    have le : m &&& w ≤ m := Nat.and_le_left
    have p : (m &&& w) % 2 = 1 ↔ m % 2 = 1 ∧ w % 2 = 1 := Nat.and_mod_two_eq_one
    generalize m &&& w = a at le p
    by_cases h1 : m % 2 = 1
    · by_cases h2 : w % 2 = 1
      · have := p.mpr ⟨h1, h2⟩
        rw [decide_eq_true h1, decide_eq_true h2]
        exact decide_eq_false (by omega)
      · have : ¬ a % 2 = 1 := fun q => h2 (p.mp q).2
        rw [decide_eq_true h1, decide_eq_false h2]
        exact decide_eq_true (by omega)
    · have : ¬ a % 2 = 1 := fun q => h1 (p.mp q).1
      rw [decide_eq_false h1]
      exact decide_eq_false (by omega)
  | i + 1, m, w => by
    rw [Nat.testBit_succ, Nat.testBit_succ, Nat.testBit_succ, ← sub_and_bit i (m / 2) (w / 2)]
    have le : m &&& w ≤ m := Nat.and_le_left
    have p : (m &&& w) % 2 = 1 ↔ m % 2 = 1 ∧ w % 2 = 1 := Nat.and_mod_two_eq_one
    have e : (m - (m &&& w)) / 2 = m / 2 - (m / 2 &&& w / 2) := by
      rw [← Nat.and_div_two]
      generalize m &&& w = a at le p
      by_cases h1 : m % 2 = 1
      · omega
      · have : ¬ a % 2 = 1 := fun q => h1 (p.mp q).1
        omega
    rw [e]
theorem countP_one {q q' : Nat → Bool} {k : Nat} (hq : q k = false) (h : ∀ i, i ≠ k → q' i = q i) : ∀ n, (List.range n).countP q' = (List.range n).countP q + if k < n ∧ q' k = true then 1 else 0
  | 0 => by simp
  | n + 1 => by
    rw [List.range_succ, List.countP_append, List.countP_append, countP_one hq h n]
    by_cases e : n = k
    · subst e
      rw [if_neg (by omega), List.countP_singleton, List.countP_singleton, hq]
      by_cases z : q' n = true
      · rw [if_pos z, if_neg (by decide), if_pos ⟨by omega, z⟩]
      · rw [if_neg z, if_neg (by decide), if_neg fun y => z y.2]
    · rw [List.countP_singleton, List.countP_singleton, h n e]
      have : (k < n ∧ q' k = true) ↔ (k < n + 1 ∧ q' k = true) := ⟨fun y => ⟨by omega, y.2⟩, fun y => ⟨by omega, y.2⟩⟩
      by_cases z : k < n ∧ q' k = true
      · rw [if_pos z, if_pos (this.mp z)]; omega
      · rw [if_neg z, if_neg fun y => z (this.mpr y)]; omega
def isOne (l : List Int) (x : Int) : Bool := decide (at1 l x = 1)
theorem isOne_fil {n m : Nat} {x : Int} (h1 : 1 ≤ x) (h2 : x ≤ (n : Int)) : isOne (fil n m) x = m.testBit (n - x.toNat) := by
  unfold isOne
  rw [at1_fil h1 h2]
  cases m.testBit (n - x.toNat) <;> rfl
theorem rest_off {n : Nat} {p : Int} (p1 : 1 ≤ p) (p2 : p ≤ (n : Int)) (c : List Int) (h : ∀ x ∈ c, 1 ≤ x ∧ x ≤ (n : Int)) (np : p ∉ c) : (rest n c).testBit (n - p.toNat) = false := by
  rw [rest_bit p1 p2 c h]
  exact decide_eq_false np
theorem pop_rest {n m : Nat} : ∀ c : List Int, c.Nodup → (∀ x ∈ c, 1 ≤ x ∧ x ≤ (n : Int)) → pop n (m &&& rest n c) = c.countP (isOne (fil n m))
  | [], _, _ => by
    show pop n (m &&& 0) = 0
    rw [Nat.and_zero]
    unfold pop
    rw [List.countP_eq_zero]
    intro i _
    rw [Nat.zero_testBit]
    decide
  | p :: c, nd, h => by
    obtain ⟨n1, n2⟩ := List.nodup_cons.mp nd
    have hp := h p List.mem_cons_self
    have hc : ∀ x ∈ c, 1 ≤ x ∧ x ≤ (n : Int) := fun x hx => h x (List.mem_cons_of_mem _ hx)
    rw [List.countP_cons, ← pop_rest c n2 hc, isOne_fil hp.1 hp.2]
    have off := rest_off hp.1 hp.2 c hc n1
    unfold pop
    have e := countP_one (q := (m &&& rest n c).testBit) (q' := (m &&& rest n (p :: c)).testBit) (k := n - p.toNat) (by rw [Nat.testBit_and, off, Bool.and_false]) (fun i hi => by
      show (m &&& (rest n c ||| mkN n p)).testBit i = _
      rw [Nat.testBit_and, Nat.testBit_and, Nat.testBit_or]
      unfold mkN
      rw [Nat.testBit_two_pow, decide_eq_false (fun z => hi z.symm), Bool.or_false]) n
    rw [e]
    have b : (m &&& rest n (p :: c)).testBit (n - p.toNat) = m.testBit (n - p.toNat) := by
      rw [Nat.testBit_and, rest_bit hp.1 hp.2 _ h, decide_eq_true List.mem_cons_self, Bool.and_true]
    rw [b]
    by_cases z : m.testBit (n - p.toNat) = true
    · rw [if_pos z, if_pos ⟨by omega, z⟩]
    · rw [if_neg z, if_neg fun y => z y.2]
def oneC (n : Nat) (c : List Int) (m : Nat) : Nat := (m - (m &&& rest n c)) ||| rest n (c.drop (c.length - pop n (m &&& rest n c)))
theorem mem_drop_iff {c : List Int} (nd : c.Nodup) {i j : Nat} {x : Int} (h : c[i]? = some x) : x ∈ c.drop j ↔ j ≤ i := by
  constructor
  · intro hx
    obtain ⟨k, hk⟩ := List.getElem?_of_mem hx
    rw [List.getElem?_drop] at hk
    have := get_inj nd h hk
    omega
  · intro l
    refine List.mem_of_getElem? (i := i - j) ?_
    rw [List.getElem?_drop, show j + (i - j) = i by omega]
    exact h
theorem oneC_lt {n m : Nat} {c : List Int} (rg : ∀ x ∈ c, 1 ≤ x ∧ x ≤ (n : Int)) (hm : m < 2 ^ n) : oneC n c m < 2 ^ n :=
  Nat.or_lt_two_pow (Nat.lt_of_le_of_lt (Nat.sub_le _ _) hm) (rest_lt _ fun p hp => rg p (List.mem_of_mem_drop hp))
theorem oneC_fil {n m : Nat} {c : List Int} (nd : c.Nodup) (rg : ∀ x ∈ c, 1 ≤ x ∧ x ≤ (n : Int)) : fil n (oneC n c m) = along1 (fil n m) (fil n m) c := by
  refine ext_at1 (by rw [along1_len, fil_len, fil_len]) fun x h1 h2 => ?_
  rw [fil_len] at h2
  have rg' : ∀ (j : Nat), ∀ p ∈ c.drop j, 1 ≤ p ∧ p ≤ (n : Int) := fun j p hp => rg p (List.mem_of_mem_drop hp)
  rw [at1_fil h1 h2]
  unfold oneC
  rw [Nat.testBit_or, sub_and_bit, rest_bit h1 h2 c rg, rest_bit h1 h2 _ (rg' _), pop_rest c nd rg]
  by_cases hx : x ∈ c
  · rw [decide_eq_true hx]
    obtain ⟨i, hi⟩ := List.getElem?_of_mem hx
    have own := put_own c (srt (c.map (at1 (fil n m)))) (fil n m) nd rg (by rw [fil_len]; exact Int.le_refl _) (by rw [srt_len, List.length_map])
    have e : (srt (c.map (at1 (fil n m))))[i]? = some (at1 (along1 (fil n m) (fil n m) c) x) := by
      rw [← own, List.getElem?_map, hi]
      rfl
    have rk := rank_srt 0 e
    rw [List.countP_map] at rk
    have bt : at1 (along1 (fil n m) (fil n m) c) x = 0 ∨ at1 (along1 (fil n m) (fil n m) c) x = 1 := by
      have := (srt_perm _).mem_iff.mp (List.mem_of_getElem? e)
      obtain ⟨y, hy, q⟩ := List.mem_map.mp this
      rw [← q]
      exact fil_bits n m _ (at1_mem (rg y hy).1 (by rw [fil_len]; exact (rg y hy).2))
    have cs : c.countP ((fun x => decide (x ≤ 0)) ∘ at1 (fil n m)) + c.countP (isOne (fil n m)) = c.length := by
      rw [Nat.add_comm, ← countP_split (isOne (fil n m)) c]
      congr 1
      refine countP_eq_on fun y hy => ?_
      show decide (at1 (fil n m) y ≤ 0) = !decide (at1 (fil n m) y = 1)
      rw [at1_fil (rg y hy).1 (rg y hy).2]
      cases m.testBit (n - y.toNat) <;> rfl
    have il : i < c.length := (List.getElem?_eq_some_iff.mp hi).1
    by_cases d : c.length - c.countP (isOne (fil n m)) ≤ i
    · rw [decide_eq_true ((mem_drop_iff nd hi).mpr d)]
      have : ¬ at1 (along1 (fil n m) (fil n m) c) x ≤ 0 := fun q => by
        have := rk.mp q
        omega
      rw [Bool.or_true, if_pos rfl]
      omega
    · rw [decide_eq_false fun q => d ((mem_drop_iff nd hi).mp q)]
      have : at1 (along1 (fil n m) (fil n m) c) x ≤ 0 := rk.mpr (by omega)
      rw [Bool.not_true, Bool.and_false, Bool.or_false, if_neg (by decide)]
      omega
  · have nx : ∀ j, x ∉ c.drop j := fun j q => hx (List.mem_of_mem_drop q)
    rw [decide_eq_false hx, decide_eq_false (nx _), Bool.not_false, Bool.and_true, Bool.or_false, ← at1_fil h1 h2]
    exact (put_other h1 fun y hy => ⟨(rg y hy).1, fun z => hx (z ▸ hy)⟩).symm
theorem along_short {r c : List Int} (h : c.length ≤ 1) : along1 r r c = r := by
  match c, h with
  | [], _ => rfl
  | [x], _ =>
    have e : srt [at1 r x] = [at1 r x] := (srt_of (List.Perm.refl _) (List.pairwise_singleton _ _)).symm
    show put r [x] (srt [at1 r x]) = r
    rw [e]
    show r.set (x - 1).toNat (r.getD (x - 1).toNat 0) = r
    refine List.ext_getElem? fun i => ?_
    rw [List.getElem?_set]
    split
    · next z =>
      subst z
      split
      · next l => rw [List.getD_eq_getElem?_getD, List.getElem?_eq_getElem l]; rfl
      · next l => rw [List.getElem?_eq_none (by omega)]
    · rfl
def chN (n : Nat) (m : Nat) (c : List Int) : Nat := if 1 < c.length then oneC n c m else m
theorem chN_fil {n m : Nat} {c : List Int} (nd : c.Nodup) (rg : ∀ x ∈ c, 1 ≤ x ∧ x ≤ (n : Int)) (hm : m < 2 ^ n) : chN n m c < 2 ^ n ∧ fil n (chN n m c) = along1 (fil n m) (fil n m) c := by
  unfold chN
  split
  · exact ⟨oneC_lt rg hm, oneC_fil nd rg⟩
  · next h => exact ⟨hm, (along_short (by omega)).symm⟩
def famN (n : Nat) (m : Nat) (f : List (List Int)) : Nat := f.foldl (chN n) m
theorem famF {n : Nat} {load : List Int} : ∀ (f : List (List Int)) (m : Nat), f.flatten.Nodup → (∀ x ∈ f.flatten, 1 ≤ x ∧ x ≤ (n : Int)) → (∀ x ∈ f.flatten, at1 (fil n m) x = at1 load x) → m < 2 ^ n →
    famN n m f < 2 ^ n ∧ fil n (famN n m f) = f.foldl (along1 load) (fil n m)
  | [], m, _, _, _, hm => ⟨hm, rfl⟩
  | c :: f, m, nd, rg, hv, hm => by
    rw [List.flatten_cons] at nd rg hv
    obtain ⟨n1, n2, n3⟩ := List.nodup_append.mp nd
    have ev : c.map (at1 (fil n m)) = c.map (at1 load) := List.map_congr_left fun x hx => hv x (List.mem_append_left _ hx)
    have e : along1 load (fil n m) c = along1 (fil n m) (fil n m) c := by unfold along1; rw [ev]
    obtain ⟨h1, h2⟩ := chN_fil (m := m) n1 (fun x hx => rg x (List.mem_append_left _ hx)) hm
    rw [List.foldl_cons, e, ← h2]
    refine famF f _ n2 (fun x hx => rg x (List.mem_append_right _ hx)) (fun x hx => ?_) h1
    rw [h2, ← hv x (List.mem_append_right _ hx)]
    exact put_other (rg x (List.mem_append_right _ hx)).1 fun y hy => ⟨(rg y (List.mem_append_left _ hy)).1, n3 y hy x hx⟩
theorem famN_ok {n m : Nat} {f : List (List Int)} (v : Valid n f) (hm : m < 2 ^ n) : famN n m f < 2 ^ n ∧ fil n (famN n m f) = sortAlong (fil n m) f := famF f m v.nd v.rg (fun _ _ => rfl) hm
def rowN (n : Nat) (m : Nat) (R : List (List (List Int))) : Nat := R.foldl (famN n) m
theorem rowN_ok {n : Nat} : ∀ (R : List (List (List Int))) (m : Nat), (∀ f ∈ R, Valid n f) → m < 2 ^ n → rowN n m R < 2 ^ n ∧ fil n (rowN n m R) = afterRow (fil n m) R
  | [], m, _, hm => ⟨hm, rfl⟩
  | f :: R, m, v, hm => by
    obtain ⟨h1, h2⟩ := famN_ok (v f List.mem_cons_self) hm
    show rowN n (famN n m f) R < 2 ^ n ∧ fil n (rowN n (famN n m f) R) = afterRow (sortAlong (fil n m) f) R
    rw [← h2]
    exact rowN_ok R _ (fun d hd => v d (List.mem_cons_of_mem _ hd)) h1
/-! ### how many ones, for all numbers -/
def pops (n : Nat) : List Nat := (List.range (2 ^ n)).map (pop n)
theorem pop_low {n m : Nat} (h : m < 2 ^ n) : pop (n + 1) m = pop n m := by
  unfold pop
  rw [List.range_succ, List.countP_append, List.countP_singleton, Nat.testBit_lt_two_pow h]
  rfl
theorem pop_high {n m : Nat} (h : m < 2 ^ n) : pop (n + 1) (2 ^ n + m) = pop n m + 1 := by
  unfold pop
  rw [List.range_succ, List.countP_append, List.countP_singleton, Nat.testBit_two_pow_add_eq, Nat.testBit_lt_two_pow h]
  rw [countP_eq_on (q := m.testBit) fun i hi => Nat.testBit_two_pow_add_gt (List.mem_range.mp hi) _]
  rfl
theorem pops_succ (n : Nat) : pops (n + 1) = pops n ++ (pops n).map (· + 1) := by
  unfold pops
  rw [show 2 ^ (n + 1) = 2 ^ n + 2 ^ n by rw [Nat.pow_succ]; omega, List.range_add, List.map_append, List.map_map, List.map_map]
  congr 1
  · exact List.map_congr_left fun m hm => pop_low (List.mem_range.mp hm)
  · exact List.map_congr_left fun m hm => pop_high (List.mem_range.mp hm)
theorem pops_at {n m : Nat} (h : m < 2 ^ n) : (pops n)[m]? = some (pop n m) := by
  unfold pops
  rw [List.getElem?_map, List.getElem?_range h]
  rfl
theorem pop_le (n m : Nat) : pop n m ≤ n := by
  have := List.countP_le_length (p := m.testBit) (l := List.range n)
  rw [List.length_range] at this
  exact this
/-! ### the last places of a chain, from none to all -/
def rsts (n : Nat) : List Int → List Nat
  | [] => [0]
  | p :: c => rsts n c ++ [rest n (p :: c)]
theorem rsts_last (n : Nat) : ∀ c : List Int, ∃ z, rsts n c = z ++ [rest n c]
  | [] => ⟨[], rfl⟩
  | p :: c => ⟨rsts n c, rfl⟩
theorem rsts_len (n : Nat) : ∀ c : List Int, (rsts n c).length = c.length + 1
  | [] => rfl
  | p :: c => by
    show (rsts n c ++ [rest n (p :: c)]).length = _
    rw [List.length_append, rsts_len n c]
    rfl
theorem rsts_at (n : Nat) : ∀ (c : List Int) (k : Nat), k ≤ c.length → (rsts n c)[k]? = some (rest n (c.drop (c.length - k)))
  | [], 0, _ => rfl
  | p :: c, k, h => by
    show (rsts n c ++ [rest n (p :: c)])[k]? = _
    by_cases e : k = c.length + 1
    · subst e
      rw [← rsts_len n c, List.getElem?_concat_length, rsts_len]
      show _ = some (rest n ((p :: c).drop (c.length + 1 - (c.length + 1))))
      rw [Nat.sub_self]
      rfl
    · have h' : k ≤ c.length := by
        have : k ≤ c.length + 1 := h
        omega
      rw [List.getElem?_append_left (by rw [rsts_len]; omega), rsts_at n c k h']
      show _ = some (rest n ((p :: c).drop (c.length + 1 - k)))
      rw [show c.length + 1 - k = (c.length - k) + 1 by omega]
      rfl
theorem chN_lt {n m : Nat} {c : List Int} (rg : ∀ x ∈ c, 1 ≤ x ∧ x ≤ (n : Int)) (hm : m < 2 ^ n) : chN n m c < 2 ^ n := by
  unfold chN
  split
  · exact oneC_lt rg hm
  · exact hm
theorem fam_lt {n : Nat} : ∀ (f : List (List Int)) (ms : List Nat), (∀ c ∈ f, ∀ x ∈ c, 1 ≤ x ∧ x ≤ (n : Int)) → (∀ m ∈ ms, m < 2 ^ n) → ∀ m ∈ f.foldl (fun ms c => ms.map fun m => chN n m c) ms, m < 2 ^ n
  | [], _, _, h => h
  | c :: f, ms, rg, h => by
    rw [List.foldl_cons]
    refine fam_lt f _ (fun d hd => rg d (List.mem_cons_of_mem _ hd)) fun m hm => ?_
    obtain ⟨m', h1, rfl⟩ := List.mem_map.mp hm
    exact chN_lt (rg c List.mem_cons_self) (h m' h1)
theorem fam_map {n : Nat} : ∀ (f : List (List Int)) (ms : List Nat), f.foldl (fun ms c => ms.map fun m => chN n m c) ms = ms.map fun m => famN n m f
  | [], ms => (List.map_id' ms).symm
  | c :: f, ms => by
    rw [List.foldl_cons, fam_map f, List.map_map]
    rfl
def afterN (n : Nat) (f : List (List Int)) : List Nat := (List.range (2 ^ n)).map fun m => famN n m f
def afterR (n : Nat) (R : List (List (List Int))) : List Nat := (List.range (2 ^ n)).map fun m => rowN n m R
theorem row_map_fold {n : Nat} : ∀ (R : List (List (List Int))) (ms : List Nat), R.foldl (fun ms f => ms.map fun m => famN n m f) ms = ms.map fun m => rowN n m R
  | [], ms => (List.map_id' ms).symm
  | f :: R, ms => by
    rw [List.foldl_cons, row_map_fold R, List.map_map]
    rfl
end Kt


set_option autoImplicit true
set_option Elab.async false
set_option linter.all false
set_option maxRecDepth 100000
set_option maxHeartbeats 4000000
/-! Two families in turns: when their order does not matter. -/
namespace Kt
open PySem L2 PyProof.Rows
/-! ### what sorting leaves -/
/-- sorting along chains that lie in a set or apart from it leaves the set's values -/
theorem set_perm {load : List Int} {f : List (List Int)} (v : Valid load.length f) (Dl : List Int) (nd : Dl.Nodup) (rg : ∀ x ∈ Dl, 1 ≤ x ∧ x ≤ (load.length : Int)) (cl : ∀ c ∈ f, (∀ x ∈ c, x ∈ Dl) ∨ ∀ x ∈ c, x ∉ Dl) : (Dl.map (at1 (sortAlong load f))).Perm (Dl.map (at1 load)) := by
  refine sort_keeps (Φ := fun r => (Dl.map (at1 r)).Perm (Dl.map (at1 load))) v (List.Perm.refl _) fun r c hc hl h => ?_
  have cr : ∀ x ∈ c, 1 ≤ x ∧ x ≤ (r.length : Int) := fun x hx => by rw [hl]; exact v.rg x (flatten_mem hc hx)
  rcases cl c hc with s | s
  · have nc := flat_nodup v.nd hc
    have p : Dl.Perm (c ++ Dl.filter fun x => decide (x ∉ c)) := by
      refine (List.perm_ext_iff_of_nodup nd (List.nodup_append.mpr ⟨nc, nd.sublist List.filter_sublist, fun a ha b hb e => ?_⟩)).mpr fun x => ?_
      · subst e
        exact of_decide_eq_true (List.mem_filter.mp hb).2 ha
      · rw [List.mem_append, List.mem_filter]
        constructor
        · intro h
          by_cases q : x ∈ c
          · exact .inl q
          · exact .inr ⟨h, decide_eq_true q⟩
        · rintro (h | h)
          · exact s x h
          · exact h.1
    have e1 : c.map (at1 (along1 r r c)) = srt (c.map (at1 r)) := put_own (n := (r.length : Int)) c _ r nc cr (Int.le_refl _) (by rw [srt_len, List.length_map])
    have e2 : (Dl.filter fun x => decide (x ∉ c)).map (at1 (along1 r r c)) = (Dl.filter fun x => decide (x ∉ c)).map (at1 r) := List.map_congr_left fun x hx => by
      have hx' := List.mem_filter.mp hx
      exact put_other (rg x hx'.1).1 fun y hy => ⟨(cr y hy).1, fun z => of_decide_eq_true hx'.2 (z ▸ hy)⟩
    refine (p.map _).trans ?_
    rw [List.map_append, e1, e2]
    refine ((srt_perm _).append_right _).trans ?_
    rw [← List.map_append]
    exact (p.map _).symm.trans h
  · have e2 : Dl.map (at1 (along1 r r c)) = Dl.map (at1 r) := List.map_congr_left fun x hx => put_other (rg x hx).1 fun y hy => ⟨(cr y hy).1, fun z => s y hy (z ▸ hx)⟩
    rw [e2]
    exact h
theorem places_map {n : Nat} {l : List Int} (hl : l.length = n) : (placesTo n).map (at1 l) = l := by
  subst hl
  refine List.ext_getElem? fun i => ?_
  unfold placesTo
  rw [List.map_map, List.getElem?_map]
  by_cases h : i < l.length
  · have := at1_get (load := l) (p := (i : Int) + 1) (by omega) (by omega)
    rw [show ((i : Int) + 1 - 1).toNat = i by omega] at this
    rw [List.getElem?_range h, this]
    rfl
  · rw [List.getElem?_eq_none (l := List.range l.length) (by rw [List.length_range]; omega), List.getElem?_eq_none (l := l) (by omega)]
    rfl
theorem sort_perm {load : List Int} {f : List (List Int)} (v : Valid load.length f) : (sortAlong load f).Perm load := by
  have h := set_perm v (placesTo load.length) (placesTo_nodup _) (fun x hx => placesTo_mem.mp hx) fun c hc => .inl fun x hx => placesTo_mem.mpr (v.rg x (flatten_mem hc hx))
  rwa [places_map (sortAlong_len _ _), places_map rfl] at h
theorem row_perm : ∀ (R : List (List (List Int))) (load : List Int), (∀ f ∈ R, Valid load.length f) → (afterRow load R).Perm load
  | [], load, _ => List.Perm.refl _
  | f :: R, load, v => by
    show (afterRow (sortAlong load f) R).Perm load
    exact (row_perm R _ fun g hg => by rw [sortAlong_len]; exact v g (List.mem_cons_of_mem _ hg)).trans (sort_perm (v f List.mem_cons_self))
theorem bits_sort {load : List Int} {f : List (List Int)} (v : Valid load.length f) (h : bits load) : bits (sortAlong load f) := fun x hx => h x ((sort_perm v).mem_iff.mp hx)
/-! ### two places exchanged -/
def swp (p q z : Int) : Int := if z = p then q else if z = q then p else z
theorem at1_exch {b : List Int} {p q z : Int} (p1 : 1 ≤ p) (p2 : p ≤ (b.length : Int)) (q1 : 1 ≤ q) (q2 : q ≤ (b.length : Int)) (z1 : 1 ≤ z) (ne : p ≠ q) : at1 (exch b p q) z = at1 b (swp p q z) := by
  unfold swp
  by_cases h : z = p
  · rw [if_pos h, h]
    exact exch_p p1 p2 q1 ne
  · rw [if_neg h]
    by_cases h2 : z = q
    · rw [if_pos h2, h2]
      exact exch_q q1 q2
    · rw [if_neg h2]
      exact exch_other z1 p1 q1 h h2
theorem swp_swp (p q z : Int) : swp p q (swp p q z) = z := by
  unfold swp
  by_cases h : z = p
  · rw [if_pos h]
    by_cases h2 : q = p
    · rw [if_pos h2, h2, h]
    · rw [if_neg h2, if_pos rfl, h]
  · rw [if_neg h]
    by_cases h2 : z = q
    · rw [if_pos h2, if_pos rfl, h2]
    · rw [if_neg h2, if_neg h, if_neg h2]
theorem swp_in {c : List Int} {p q z : Int} (hp : p ∈ c) (hq : q ∈ c) (hz : z ∈ c) : swp p q z ∈ c := by
  unfold swp
  split
  · exact hq
  · split
    · exact hp
    · exact hz
theorem swp_perm {c : List Int} {p q : Int} (nd : c.Nodup) (hp : p ∈ c) (hq : q ∈ c) : (c.map (swp p q)).Perm c := by
  have inj : ∀ a b, swp p q a = swp p q b → a = b := fun a b e => (swp_swp p q a).symm.trans ((congrArg (swp p q) e).trans (swp_swp p q b))
  refine (List.perm_ext_iff_of_nodup (List.pairwise_map.mpr (nd.imp fun ne e => ne (inj _ _ e))) nd).mpr fun x => ?_
  rw [List.mem_map]
  constructor
  · rintro ⟨z, hz, rfl⟩
    exact swp_in hp hq hz
  · intro hx
    exact ⟨swp p q x, swp_in hp hq hx, swp_swp p q x⟩
theorem sort_exch {b : List Int} {f : List (List Int)} (v : Valid b.length f) {c : List Int} (hc : c ∈ f) {p q : Int} (hp : p ∈ c) (hq : q ∈ c) (ne : p ≠ q) : sortAlong (exch b p q) f = sortAlong b f := by
  have rp := v.rg p (flatten_mem hc hp)
  have rq := v.rg q (flatten_mem hc hq)
  have v' : Valid (exch b p q).length f := by rw [exch_len]; exact v
  refine ext_at1 (by rw [sortAlong_len, sortAlong_len, exch_len]) fun x x1 x2 => ?_
  rw [sortAlong_len, exch_len] at x2
  by_cases hx : x ∈ f.flatten
  · obtain ⟨d, hd, hxd⟩ := List.mem_flatten.mp hx
    obtain ⟨i, hi⟩ := List.mem_iff_getElem?.mp hxd
    have cnt : ∀ t, d.countP (low (exch b p q) t) = d.countP (low b t) := fun t => by
      have e : d.countP (low (exch b p q) t) = (d.map (swp p q)).countP (low b t) := by
        rw [List.countP_map]
        refine countP_eq_on fun z hz => ?_
        have rz := v.rg z (flatten_mem hd hz)
        unfold low
        rw [at1_exch rp.1 rp.2 rq.1 rq.2 rz.1 ne]
        rfl
      rw [e]
      by_cases h : p ∈ d
      · have : d = c := flat_once v.nd hd hc h hp
        subst this
        exact (swp_perm (flat_nodup v.nd hd) hp hq).countP_eq _
      · have h2 : q ∉ d := fun z => by
          have : d = c := flat_once v.nd hd hc z hq
          subst this
          exact h hp
        have : d.map (swp p q) = d := by
          refine (List.map_congr_left fun z hz => ?_).trans (List.map_id' d)
          unfold swp
          rw [if_neg (fun (y : z = p) => h (y ▸ hz)), if_neg (fun (y : z = q) => h2 (y ▸ hz))]
        rw [this]
    have k : ∀ t, at1 (sortAlong (exch b p q) f) x ≤ t ↔ at1 (sortAlong b f) x ≤ t := fun t => by rw [rank_after v' hd hi t, rank_after v hd hi t, cnt]
    exact Int.le_antisymm ((k _).mpr (Int.le_refl _)) ((k _).mp (Int.le_refl _))
  · have a : ∀ l : List Int, at1 (sortAlong l f) x = at1 l x := fun l => fold_along_other x1 f l fun y hy => ⟨(v.rg y hy).1, fun z => hx (z ▸ hy)⟩
    rw [a, a]
    exact exch_other x1 rp.1 rq.1 (fun z => hx (z ▸ flatten_mem hc hp)) (fun z => hx (z ▸ flatten_mem hc hq))
theorem sort_mono {b b' : List Int} {f : List (List Int)} (v : Valid b.length f) (hl : b'.length = b.length) (h : ∀ x : Int, 1 ≤ x → x ≤ (b.length : Int) → at1 b x ≤ at1 b' x) : ∀ x : Int, 1 ≤ x → x ≤ (b.length : Int) → at1 (sortAlong b f) x ≤ at1 (sortAlong b' f) x := by
  intro x x1 x2
  have v' : Valid b'.length f := by rw [hl]; exact v
  by_cases hx : x ∈ f.flatten
  · obtain ⟨d, hd, hxd⟩ := List.mem_flatten.mp hx
    obtain ⟨i, hi⟩ := List.mem_iff_getElem?.mp hxd
    refine (rank_after v hd hi _).mpr (Nat.lt_of_lt_of_le ((rank_after v' hd hi _).mp (Int.le_refl _)) (List.countP_mono_left fun z hz q => ?_))
    have rz := v.rg z (flatten_mem hd hz)
    have := h z rz.1 rz.2
    have q := of_decide_eq_true q
    exact decide_eq_true (by omega)
  · have a : ∀ l : List Int, at1 (sortAlong l f) x = at1 l x := fun l => fold_along_other x1 f l fun y hy => ⟨(v.rg y hy).1, fun z => hx (z ▸ hy)⟩
    rw [a, a]
    exact h x x1 x2
theorem countP_lt {α : Type} {p q : α → Bool} : ∀ {l : List α}, (∀ x ∈ l, p x = true → q x = true) → (∃ x ∈ l, q x = true ∧ p x = false) → l.countP p < l.countP q
  | [], _, ⟨x, hx, _⟩ => by cases hx
  | a :: l, h, ⟨x, hx, h1, h2⟩ => by
    rw [List.countP_cons, List.countP_cons]
    have le := List.countP_mono_left (l := l) fun y hy => h y (List.mem_cons_of_mem _ hy)
    rcases List.mem_cons.mp hx with e | hx
    · subst e
      rw [h1, h2]
      simp
      omega
    · have := countP_lt (l := l) (fun y hy => h y (List.mem_cons_of_mem _ hy)) ⟨x, hx, h1, h2⟩
      by_cases e : p a = true
      · rw [if_pos e, if_pos (h a List.mem_cons_self e)]
        omega
      · rw [if_neg e]
        omega
theorem sorted_by_steps {b : List Int} {f : List (List Int)} : isSorted b f = true ↔ ∀ c ∈ f, ∀ q ∈ c.zip c.tail, at1 b q.1 ≤ at1 b q.2 := by
  unfold isSorted ascends
  rw [List.all_eq_true]
  exact ⟨fun h c hc q hq => of_decide_eq_true (List.all_eq_true.mp (h c hc) q hq), fun h c hc => List.all_eq_true.mpr fun q hq => decide_eq_true (h c hc q hq)⟩
/-- ones just at the places of a list -/
def onesAt (n : Nat) (T : Int → Bool) : List Int := marks n fun z => !T z
theorem onesAt_len (n : Nat) (T : Int → Bool) : (onesAt n T).length = n := marks_len _ _
theorem onesAt_bits (n : Nat) (T : Int → Bool) : bits (onesAt n T) := marks_bits _ _
theorem at1_ones {n : Nat} {T : Int → Bool} {x : Int} (h1 : 1 ≤ x) (h2 : x ≤ (n : Int)) : at1 (onesAt n T) x = if T x = true then 1 else 0 := by
  unfold onesAt
  rw [at1_marks h1 h2]
  cases T x <;> rfl
theorem ones_sorted {n : Nat} {T : Int → Bool} {f : List (List Int)} (v : Valid n f) (h : ∀ c ∈ f, ∀ q ∈ c.zip c.tail, T q.1 = true → T q.2 = true) : isSorted (onesAt n T) f = true := by
  refine sorted_by_steps.mpr fun c hc q hq => ?_
  obtain ⟨m1, m2⟩ := List.of_mem_zip (show (q.1, q.2) ∈ c.zip c.tail from hq)
  have r1 := v.rg _ (flatten_mem hc m1)
  have r2 := v.rg _ (flatten_mem hc (List.mem_of_mem_tail m2))
  rw [at1_ones r1.1 r1.2, at1_ones r2.1 r2.2]
  by_cases e : T q.1 = true
  · rw [if_pos e, if_pos (h c hc q hq e)]
    decide
  · rw [if_neg e]
    split <;> decide
section
variable {n : Nat} {f g : List (List Int)} {T J : Int → List Int}
/-- which places lie behind each one, and which hang together with it -/
structure Turned (n : Nat) (f g : List (List Int)) (T J : Int → List Int) : Prop where
  t0 : ∀ x : Int, 1 ≤ x → x ≤ (n : Int) → x ∈ T x
  ts : ∀ x : Int, 1 ≤ x → x ≤ (n : Int) → ∀ y ∈ T x, ∀ b : List Int, b.length = n → isSorted b f = true → isSorted b g = true → at1 b x ≤ at1 b y
  tc : ∀ x : Int, 1 ≤ x → x ≤ (n : Int) → ∀ c, c ∈ f ∨ c ∈ g → ∀ q ∈ c.zip c.tail, q.1 ∈ T x → q.2 ∈ T x
  j0 : ∀ x : Int, 1 ≤ x → x ≤ (n : Int) → x ∈ J x
  jr : ∀ x : Int, 1 ≤ x → x ≤ (n : Int) → ∀ y ∈ J x, 1 ≤ y ∧ y ≤ (n : Int)
  jn : ∀ x : Int, 1 ≤ x → x ≤ (n : Int) → (J x).Nodup
  js : ∀ x : Int, 1 ≤ x → x ≤ (n : Int) → ∀ y ∈ J x, ∀ E : Int → Prop, E x → (∀ c, c ∈ f ∨ c ∈ g → (∃ z ∈ c, E z) → ∀ z ∈ c, E z) → E y
  jc : ∀ x : Int, 1 ≤ x → x ≤ (n : Int) → ∀ c, c ∈ f ∨ c ∈ g → (∃ z ∈ c, z ∈ J x) → ∀ z ∈ c, z ∈ J x
theorem turned_to (vf : Valid n f) (vg : Valid n g) (t : Turned n f g T J) (h : ∀ b : List Int, b.length = n → bits b → afterRow b [f, g] = afterRow b [g, f]) :
    (∀ x : Int, 1 ≤ x → x ≤ (n : Int) → ∀ y ∈ J x, y ∈ T x ∨ x ∈ T y) ∧ Keeps01 n f g ∧ Keeps01 n g f := by
  have hh : ∀ b : List Int, b.length = n → bits b → sortAlong (sortAlong b f) g = sortAlong (sortAlong b g) f := h
  have lv : ∀ b : List Int, b.length = n → Valid b.length f ∧ Valid b.length g := fun b hb => by rw [hb]; exact ⟨vf, vg⟩
  refine ⟨fun x x1 x2 y hy => ?_, fun b hl hb hs => ?_, fun b hl hb hs => ?_⟩
  · have ry := t.jr x x1 x2 y hy
    refine Classical.byContradiction fun no => ?_
    have n1 : y ∉ T x := fun z => no (.inl z)
    have n2 : x ∉ T y := fun z => no (.inr z)
    let C : List Int → List Int := fun b => sortAlong (sortAlong b f) g
    have Cl : ∀ b, (C b).length = b.length := fun b => by show (sortAlong _ _).length = _; rw [sortAlong_len, sortAlong_len]
    have exb : ∀ (b : List Int) (p q : Int), 1 ≤ p → p ≤ (n : Int) → 1 ≤ q → q ≤ (n : Int) → p ≠ q → b.length = n → bits b → bits (exch b p q) := fun b p q p1 p2 q1 q2 ne hl hb v hv => by
      obtain ⟨i, hi⟩ := List.mem_iff_getElem?.mp hv
      have il := (List.getElem?_eq_some_iff.mp hi).1
      rw [exch_len] at il
      have e := at1_get (load := exch b p q) (p := (i : Int) + 1) (by omega) (by rw [exch_len]; omega)
      rw [show ((i : Int) + 1 - 1).toNat = i by omega, hi, at1_exch p1 (by omega) q1 (by omega) (by omega) ne] at e
      rw [Option.some.inj e]
      have r : 1 ≤ swp p q ((i : Int) + 1) ∧ swp p q ((i : Int) + 1) ≤ (b.length : Int) := by
        unfold swp
        split
        · omega
        · split <;> omega
      exact hb _ (at1_mem r.1 r.2)
    have one : ∀ c, c ∈ f ∨ c ∈ g → ∀ p ∈ c, ∀ q ∈ c, p ≠ q → ∀ b : List Int, b.length = n → bits b → C (exch b p q) = C b := fun c hc p hp q hq ne b hl hb => by
      have rg : ∀ z ∈ c, 1 ≤ z ∧ z ≤ (n : Int) := fun z hz => by
        rcases hc with hc | hc
        · exact vf.rg z (flatten_mem hc hz)
        · exact vg.rg z (flatten_mem hc hz)
      rcases hc with hc | hc
      · show sortAlong (sortAlong (exch b p q) f) g = sortAlong (sortAlong b f) g
        rw [sort_exch (lv b hl).1 hc hp hq ne]
      · show sortAlong (sortAlong (exch b p q) f) g = sortAlong (sortAlong b f) g
        rw [hh _ (by rw [exch_len, hl]) (exb b p q (rg p hp).1 (rg p hp).2 (rg q hq).1 (rg q hq).2 ne hl hb), sort_exch (lv b hl).2 hc hp hq ne, hh b hl hb]
    have all : y = x ∨ ∀ b : List Int, b.length = n → bits b → C (exch b x y) = C b := by
      refine (t.js x x1 x2 y hy (fun z => (1 ≤ z ∧ z ≤ (n : Int)) ∧ (z = x ∨ ∀ b : List Int, b.length = n → bits b → C (exch b x z) = C b)) ⟨⟨x1, x2⟩, .inl rfl⟩ ?_).2
      rintro c hc ⟨z, hz, ⟨z1, z2⟩, hE⟩ z' hz'
      have rg : 1 ≤ z' ∧ z' ≤ (n : Int) := by
        rcases hc with hc | hc
        · exact vf.rg z' (flatten_mem hc hz')
        · exact vg.rg z' (flatten_mem hc hz')
      refine ⟨rg, ?_⟩
      by_cases e1 : z' = x
      · exact .inl e1
      by_cases e2 : z' = z
      · exact e2 ▸ hE
      refine .inr fun b hl hb => ?_
      rcases hE with e3 | hE
      · subst e3
        exact one c hc z hz z' hz' (Ne.symm e1) b hl hb
      by_cases e3 : z = x
      · subst e3
        exact one c hc z hz z' hz' (Ne.symm e1) b hl hb
      have b1 := exb b z z' z1 z2 rg.1 rg.2 (Ne.symm e2) hl hb
      have l1 : (exch b z z').length = n := by rw [exch_len, hl]
      have b2 := exb (exch b z z') x z x1 x2 z1 z2 (Ne.symm e3) l1 b1
      have l2 : (exch (exch b z z') x z).length = n := by rw [exch_len, l1]
      have e : exch b x z' = exch (exch (exch b z z') x z) z z' := by
        refine ext_at1 (by simp only [exch_len]) fun w w1 w2 => ?_
        rw [exch_len, hl] at w2
        have sr : ∀ p q w : Int, 1 ≤ p → 1 ≤ q → 1 ≤ w → 1 ≤ swp p q w := fun p q w h1 h2 h3 => by
          unfold swp
          split
          · exact h2
          · split
            · exact h1
            · exact h3
        rw [at1_exch x1 (by omega) rg.1 (by omega) w1 (Ne.symm e1), at1_exch z1 (by omega) rg.1 (by omega) w1 (Ne.symm e2), at1_exch x1 (by omega) z1 (by omega) (sr _ _ _ z1 rg.1 w1) (Ne.symm e3), at1_exch z1 (by omega) rg.1 (by omega) (sr _ _ _ x1 z1 (sr _ _ _ z1 rg.1 w1)) (Ne.symm e2)]
        congr 1
        unfold swp
        by_cases a1 : w = x
        · subst a1
          simp [e1, e2, e3, Ne.symm e1, Ne.symm e2, Ne.symm e3]
        · by_cases a2 : w = z
          · subst a2
            simp [e1, e2, e3, Ne.symm e1, Ne.symm e2, Ne.symm e3]
          · by_cases a3 : w = z'
            · subst a3
              simp [e1, e2, e3, Ne.symm e1, Ne.symm e2, Ne.symm e3]
            · simp [a1, a2, a3]
      rw [e, one c hc z hz z' hz' (Ne.symm e2) _ l2 b2, hE _ l1 b1, one c hc z hz z' hz' (Ne.symm e2) b hl hb]
    have nxy : y ≠ x := fun z => n1 (z ▸ t.t0 x x1 x2)
    have all := all.resolve_left nxy
    let U : Int → Bool := fun z => decide (z ∈ T x) && decide (z ∈ T y)
    let b1 := onesAt n fun z => U z || decide (z = x)
    have lb : b1.length = n := onesAt_len _ _
    have bb : bits b1 := onesAt_bits _ _
    have Ux : U x = false := by show (_ && decide (x ∈ T y)) = false; rw [decide_eq_false n2, Bool.and_false]
    have Uy : U y = false := by show (decide (y ∈ T x) && _) = false; rw [decide_eq_false n1, Bool.false_and]
    have vb := lv b1 lb
    have fixed : ∀ a : Int, 1 ≤ a → a ≤ (n : Int) → C (onesAt n fun z => decide (z ∈ T a)) = onesAt n fun z => decide (z ∈ T a) := fun a a1 a2 => by
      have la : (onesAt n fun z => decide (z ∈ T a)).length = n := onesAt_len _ _
      have sf : isSorted (onesAt n fun z => decide (z ∈ T a)) f = true := ones_sorted vf fun c hc q hq h => decide_eq_true (t.tc a a1 a2 c (.inl hc) q hq (of_decide_eq_true h))
      have sg : isSorted (onesAt n fun z => decide (z ∈ T a)) g = true := ones_sorted vg fun c hc q hq h => decide_eq_true (t.tc a a1 a2 c (.inr hc) q hq (of_decide_eq_true h))
      show sortAlong (sortAlong _ f) g = _
      rw [sort_still (lv _ la).1 sf, sort_still (lv _ la).2 sg]
    have mono : ∀ b b' : List Int, b.length = n → b'.length = n → (∀ z : Int, 1 ≤ z → z ≤ (n : Int) → at1 b z ≤ at1 b' z) → ∀ z : Int, 1 ≤ z → z ≤ (n : Int) → at1 (C b) z ≤ at1 (C b') z := fun b b' hb hb' le z z1 z2 => by
      have h1 := sort_mono (lv b hb).1 (by rw [hb, hb']) fun z z1 z2 => le z z1 (by omega)
      exact sort_mono (f := g) (b := sortAlong b f) (b' := sortAlong b' f) (by rw [sortAlong_len, hb]; exact vg) (by rw [sortAlong_len, sortAlong_len, hb, hb']) (fun z z1 z2 => h1 z z1 (by rw [sortAlong_len] at z2; exact z2)) z z1 (by rw [sortAlong_len, hb]; exact z2)
    have m1 : ∀ z : Int, 1 ≤ z → z ≤ (n : Int) → at1 (C b1) z ≤ at1 (onesAt n fun z => decide (z ∈ T x)) z := fun z z1 z2 => by
      have := mono b1 (onesAt n fun z => decide (z ∈ T x)) lb (onesAt_len _ _) (fun w w1 w2 => ?_) z z1 z2
      · rw [fixed x x1 x2] at this
        exact this
      · rw [at1_ones w1 w2, at1_ones w1 w2]
        by_cases q : w ∈ T x
        · rw [if_pos (decide_eq_true q)]
          split
          · exact Int.le_refl _
          · exact Int.zero_le_ofNat 1
        · have : (U w || decide (w = x)) = false := by
            show ((decide (w ∈ T x) && _) || _) = false
            rw [decide_eq_false q, Bool.false_and, Bool.false_or]
            exact decide_eq_false fun e => q (e ▸ t.t0 x x1 x2)
          rw [this, if_neg (by decide)]
          split
          · exact Int.zero_le_ofNat 1
          · exact Int.le_refl _
    have m2 : ∀ z : Int, 1 ≤ z → z ≤ (n : Int) → at1 (C b1) z ≤ at1 (onesAt n fun z => decide (z ∈ T y)) z := fun z z1 z2 => by
      have := mono (exch b1 x y) (onesAt n fun z => decide (z ∈ T y)) (by rw [exch_len, lb]) (onesAt_len _ _) (fun w w1 w2 => ?_) z z1 z2
      · rw [fixed y ry.1 ry.2, all b1 lb bb] at this
        exact this
      · rw [at1_exch x1 (by omega) ry.1 (by omega) w1 (Ne.symm nxy), at1_ones w1 w2]
        have rs : 1 ≤ swp x y w ∧ swp x y w ≤ (n : Int) := by
          unfold swp
          split
          · exact ry
          · split
            · exact ⟨x1, x2⟩
            · exact ⟨w1, w2⟩
        rw [at1_ones rs.1 rs.2]
        by_cases q : w ∈ T y
        · rw [if_pos (decide_eq_true q)]
          split
          · exact Int.le_refl _
          · exact Int.zero_le_ofNat 1
        · have : (U (swp x y w) || decide (swp x y w = x)) = false := by
            unfold swp
            by_cases e1 : w = x
            · rw [if_pos e1, Uy, Bool.false_or]
              exact decide_eq_false nxy
            · rw [if_neg e1]
              by_cases e2 : w = y
              · exact absurd (e2 ▸ t.t0 y ry.1 ry.2) q
              · rw [if_neg e2]
                show ((_ && decide (w ∈ T y)) || _) = false
                rw [decide_eq_false q, Bool.and_false, Bool.false_or]
                exact decide_eq_false e1
          rw [this, if_neg (by decide)]
          split
          · exact Int.zero_le_ofNat 1
          · exact Int.le_refl _
    have pc : (C b1).Perm b1 := (sort_perm (by rw [sortAlong_len]; exact vb.2)).trans (sort_perm vb.1)
    have c1 : (C b1).countP (fun v => decide (v = 1)) = b1.countP fun v => decide (v = 1) := pc.countP_eq _
    have ec : ∀ l : List Int, l.length = n → l.countP (fun v => decide (v = 1)) = (placesTo n).countP fun z => decide (at1 l z = 1) := fun l hl => by
      conv => lhs; rw [← places_map hl]
      rw [List.countP_map]
      rfl
    rw [ec _ ((Cl b1).trans lb), ec _ lb] at c1
    have lt := countP_lt (l := placesTo n) (p := fun z => decide (at1 (C b1) z = 1)) (q := fun z => decide (at1 b1 z = 1)) (fun z hz h => ?_) ⟨x, placesTo_mem.mpr ⟨x1, x2⟩, ?_, ?_⟩
    · omega
    · have rz := placesTo_mem.mp hz
      have h := of_decide_eq_true h
      have k1 := m1 z rz.1 rz.2
      have k2 := m2 z rz.1 rz.2
      rw [h, at1_ones rz.1 rz.2] at k1 k2
      refine decide_eq_true ?_
      show at1 (onesAt n _) z = 1
      rw [at1_ones rz.1 rz.2]
      by_cases q1 : z ∈ T x
      · by_cases q2 : z ∈ T y
        · have : (U z || decide (z = x)) = true := by
            show ((decide (z ∈ T x) && decide (z ∈ T y)) || _) = true
            rw [decide_eq_true q1, decide_eq_true q2]
            rfl
          rw [this]
          rfl
        · rw [if_neg (by rw [decide_eq_false q2]; decide)] at k2
          omega
      · rw [if_neg (by rw [decide_eq_false q1]; decide)] at k1
        omega
    · refine decide_eq_true ?_
      show at1 (onesAt n _) x = 1
      rw [at1_ones x1 x2, if_pos (by rw [decide_eq_true rfl, Bool.or_true])]
    · refine decide_eq_false fun h => ?_
      have k2 := m2 x x1 x2
      rw [h, at1_ones x1 x2, if_neg (by rw [decide_eq_false n2]; decide)] at k2
      omega
  · have e := hh b hl hb
    rw [sort_still (lv b hl).2 hs] at e
    have s := sorted_after (load := sortAlong b f) (f := g) (by rw [sortAlong_len]; exact (lv b hl).2)
    rw [e] at s
    exact s
  · have e := hh b hl hb
    rw [sort_still (lv b hl).1 hs] at e
    have s := sorted_after (load := sortAlong b g) (f := f) (by rw [sortAlong_len]; exact (lv b hl).1)
    rw [← e] at s
    exact s
theorem turned_of (vf : Valid n f) (vg : Valid n g) (t : Turned n f g T J) (up : ∀ x : Int, 1 ≤ x → x ≤ (n : Int) → ∀ y ∈ J x, y ∈ T x ∨ x ∈ T y) (k1 : Keeps01 n f g) (k2 : Keeps01 n g f) :
    ∀ b : List Int, b.length = n → bits b → afterRow b [f, g] = afterRow b [g, f] := by
  intro b hl hb
  show sortAlong (sortAlong b f) g = sortAlong (sortAlong b g) f
  have vb : Valid b.length f ∧ Valid b.length g := by rw [hl]; exact ⟨vf, vg⟩
  have lf : (sortAlong b f).length = n := by rw [sortAlong_len, hl]
  have lg : (sortAlong b g).length = n := by rw [sortAlong_len, hl]
  have vfg : Valid (sortAlong b f).length g := by rw [lf]; exact vg
  have vgf : Valid (sortAlong b g).length f := by rw [lg]; exact vf
  have y1 := k2 _ lf (bits_sort vb.1 hb) (sorted_after vb.1)
  have y2 := sorted_after vfg
  have z1 := sorted_after vgf
  have z2 := k1 _ lg (bits_sort vb.2 hb) (sorted_after vb.2)
  have yb := bits_sort vfg (bits_sort vb.1 hb)
  have zb := bits_sort vgf (bits_sort vb.2 hb)
  have ly : (sortAlong (sortAlong b f) g).length = n := by rw [sortAlong_len, lf]
  have lz : (sortAlong (sortAlong b g) f).length = n := by rw [sortAlong_len, lg]
  have dich : ∀ x : Int, 1 ≤ x → x ≤ (n : Int) → ∀ c, c ∈ f ∨ c ∈ g → (∀ w ∈ c, w ∈ J x) ∨ ∀ w ∈ c, w ∉ J x := fun x x1 x2 c hc => by
    by_cases q : ∃ z ∈ c, z ∈ J x
    · exact .inl (t.jc x x1 x2 c hc q)
    · exact .inr fun w hw z => q ⟨w, hw, z⟩
  have py : ∀ x : Int, 1 ≤ x → x ≤ (n : Int) → ((J x).map (at1 (sortAlong (sortAlong b f) g))).Perm ((J x).map (at1 b)) := fun x x1 x2 =>
    (set_perm vfg (J x) (t.jn x x1 x2) (fun w hw => by rw [lf]; exact t.jr x x1 x2 w hw) fun c hc => dich x x1 x2 c (.inr hc)).trans (set_perm vb.1 (J x) (t.jn x x1 x2) (fun w hw => by rw [hl]; exact t.jr x x1 x2 w hw) fun c hc => dich x x1 x2 c (.inl hc))
  have pz : ∀ x : Int, 1 ≤ x → x ≤ (n : Int) → ((J x).map (at1 (sortAlong (sortAlong b g) f))).Perm ((J x).map (at1 b)) := fun x x1 x2 =>
    (set_perm vgf (J x) (t.jn x x1 x2) (fun w hw => by rw [lg]; exact t.jr x x1 x2 w hw) fun c hc => dich x x1 x2 c (.inl hc)).trans (set_perm vb.2 (J x) (t.jn x x1 x2) (fun w hw => by rw [hl]; exact t.jr x x1 x2 w hw) fun c hc => dich x x1 x2 c (.inr hc))
  generalize sortAlong (sortAlong b f) g = Y at *
  generalize sortAlong (sortAlong b g) f = Z at *
  have key : ∀ A B : List Int, A.length = n → B.length = n → bits A → bits B → isSorted A f = true → isSorted A g = true → isSorted B f = true → isSorted B g = true → (∀ x : Int, 1 ≤ x → x ≤ (n : Int) → ((J x).map (at1 A)).Perm ((J x).map (at1 B))) → ∀ x : Int, 1 ≤ x → x ≤ (n : Int) → at1 A x = 0 → at1 B x = 1 → False := by
    intro A B lA lB bA bB a1 a2 b1 b2 pm x x1 x2 ax bx
    have c : (J x).countP (fun z => decide (at1 A z = 1)) = (J x).countP fun z => decide (at1 B z = 1) := by
      have := (pm x x1 x2).countP_eq fun v => decide (v = 1)
      rw [List.countP_map, List.countP_map] at this
      exact this
    have ex : ∃ w ∈ J x, at1 A w = 1 ∧ at1 B w = 0 := Classical.byContradiction fun no => by
      have := countP_lt (l := J x) (p := fun z => decide (at1 A z = 1)) (q := fun z => decide (at1 B z = 1)) (fun w hw h => ?_) ⟨x, t.j0 x x1 x2, decide_eq_true bx, decide_eq_false (by rw [ax]; decide)⟩
      · omega
      · have rw' := t.jr x x1 x2 w hw
        rcases bB _ (at1_mem (load := B) rw'.1 (by rw [lB]; exact rw'.2)) with q | q
        · exact absurd ⟨w, hw, of_decide_eq_true h, q⟩ no
        · exact decide_eq_true q
    obtain ⟨w, hw, aw, bw⟩ := ex
    have rw' := t.jr x x1 x2 w hw
    rcases up x x1 x2 w hw with q | q
    · have := t.ts x x1 x2 w q B lB b1 b2
      omega
    · have := t.ts w rw'.1 rw'.2 x q A lA a1 a2
      omega
  refine ext_at1 (by rw [ly, lz]) fun x x1 x2 => ?_
  rw [ly] at x2
  rcases yb _ (at1_mem x1 (by rw [ly]; exact x2)) with q | q <;> rcases zb _ (at1_mem x1 (by rw [lz]; exact x2)) with r | r
  · rw [q, r]
  · exact (key Y Z ly lz yb zb y1 y2 z1 z2 (fun x x1 x2 => (py x x1 x2).trans (pz x x1 x2).symm) x x1 x2 q r).elim
  · exact (key Z Y lz ly zb yb z1 z2 y1 y2 (fun x x1 x2 => (pz x x1 x2).trans (py x x1 x2).symm) x x1 x2 r q).elim
  · rw [q, r]
end
end Kt


set_option autoImplicit true
set_option Elab.async false
set_option linter.all false
set_option maxRecDepth 100000
set_option maxHeartbeats 4000000
/-! Snakes and columns in turns: after each round at most half of the rows hold noughts and ones. -/
namespace Kt
open PySem L2 PyProof.Rows
/-! ### tables -/
def place (w r c : Nat) : Int := ((r * w + c + 1 : Nat) : Int)
def lineF (w r : Nat) : List Int := (List.range w).map (place w r)
def colF (h w c : Nat) : List Int := (List.range h).map fun r => place w r c
def bentL (w r : Nat) : List Int := if r % 2 = 1 then (lineF w r).reverse else lineF w r
def bentF (h w : Nat) : List (List Int) := (List.range h).map (bentL w)
def downF (h w : Nat) : List (List Int) := (List.range w).map (colF h w)
theorem place_inj {w r c r' c' : Nat} (h : c < w) (h' : c' < w) (e : place w r c = place w r' c') : r = r' ∧ c = c' := by
  have e : r * w + c + 1 = r' * w + c' + 1 := Int.ofNat_inj.mp e
  have e : r * w + c = r' * w + c' := by omega
  have d : (r * w + c) / w = (r' * w + c') / w := by rw [e]
  have w0 : 0 < w := by omega
  rw [Nat.add_comm, Nat.add_mul_div_right _ _ w0, Nat.div_eq_of_lt h, Nat.add_comm (r' * w), Nat.add_mul_div_right _ _ w0, Nat.div_eq_of_lt h'] at d
  have r0 : r = r' := by omega
  subst r0
  exact ⟨rfl, by omega⟩
theorem place_rg {h w r c : Nat} (hr : r < h) (hc : c < w) : 1 ≤ place w r c ∧ place w r c ≤ ((h * w : Nat) : Int) := by
  unfold place
  have : (r + 1) * w ≤ h * w := Nat.mul_le_mul_right w hr
  rw [Nat.succ_mul] at this
  constructor
  · omega
  · exact Int.ofNat_le.mpr (by omega)
theorem line_mem {w r : Nat} {x : Int} : x ∈ lineF w r ↔ ∃ c, c < w ∧ place w r c = x := by
  unfold lineF
  rw [List.mem_map]
  exact ⟨fun ⟨c, hc, e⟩ => ⟨c, List.mem_range.mp hc, e⟩, fun ⟨c, hc, e⟩ => ⟨c, List.mem_range.mpr hc, e⟩⟩
theorem bentL_mem {w r : Nat} {x : Int} : x ∈ bentL w r ↔ ∃ c, c < w ∧ place w r c = x := by
  unfold bentL
  split
  · rw [List.mem_reverse, line_mem]
  · exact line_mem
theorem col_mem {h w c : Nat} {x : Int} : x ∈ colF h w c ↔ ∃ r, r < h ∧ place w r c = x := by
  unfold colF
  rw [List.mem_map]
  exact ⟨fun ⟨r, hr, e⟩ => ⟨r, List.mem_range.mp hr, e⟩, fun ⟨r, hr, e⟩ => ⟨r, List.mem_range.mpr hr, e⟩⟩
theorem line_nodup (w r : Nat) : (lineF w r).Nodup := List.pairwise_map.mpr (pairwise_of List.nodup_range fun a ha b hb ne e => ne (place_inj (List.mem_range.mp ha) (List.mem_range.mp hb) e).2)
theorem col_nodup {h w c : Nat} (hc : c < w) : (colF h w c).Nodup := List.pairwise_map.mpr (pairwise_of List.nodup_range fun a ha b hb ne e => ne (place_inj hc hc e).1)
theorem bentL_nodup (w r : Nat) : (bentL w r).Nodup := by
  unfold bentL
  split
  · exact (List.reverse_perm _).nodup_iff.mpr (line_nodup w r)
  · exact line_nodup w r
theorem bent_valid (h w : Nat) : Valid (h * w) (bentF h w) := by
  constructor
  · refine List.pairwise_flatten.mpr ⟨fun c hc => ?_, ?_⟩
    · unfold bentF at hc
      obtain ⟨r, _, rfl⟩ := List.mem_map.mp hc
      exact bentL_nodup w r
    · unfold bentF
      refine List.pairwise_map.mpr (List.nodup_range.imp fun {r r'} ne x hx y hy e => ?_)
      obtain ⟨c, hc, rfl⟩ := bentL_mem.mp hx
      obtain ⟨c', hc', e'⟩ := bentL_mem.mp hy
      exact ne (place_inj hc hc' (e.trans e'.symm)).1
  · intro x hx
    obtain ⟨l, hl, hx⟩ := List.mem_flatten.mp hx
    unfold bentF at hl
    obtain ⟨r, hr, rfl⟩ := List.mem_map.mp hl
    obtain ⟨c, hc, rfl⟩ := bentL_mem.mp hx
    exact place_rg (List.mem_range.mp hr) hc
theorem down_valid (h w : Nat) : Valid (h * w) (downF h w) := by
  constructor
  · refine List.pairwise_flatten.mpr ⟨fun c hc => ?_, ?_⟩
    · unfold downF at hc
      obtain ⟨r, hr, rfl⟩ := List.mem_map.mp hc
      exact col_nodup (List.mem_range.mp hr)
    · unfold downF
      refine List.pairwise_map.mpr (pairwise_of List.nodup_range fun c hc c' hc' ne x hx y hy e => ?_)
      obtain ⟨r, hr, rfl⟩ := col_mem.mp hx
      obtain ⟨r', hr', e'⟩ := col_mem.mp hy
      exact ne (place_inj (List.mem_range.mp hc) (List.mem_range.mp hc') (e.trans e'.symm)).2
  · intro x hx
    obtain ⟨l, hl, hx⟩ := List.mem_flatten.mp hx
    unfold downF at hl
    obtain ⟨c, hc, rfl⟩ := List.mem_map.mp hl
    obtain ⟨r, hr, rfl⟩ := col_mem.mp hx
    exact place_rg hr (List.mem_range.mp hc)
/-! ### what each of the two does -/
def val (b : List Int) (w r c : Nat) : Int := at1 b (place w r c)
section
variable {h w : Nat} {b : List Int}
theorem snakes_up (hb : b.length = h * w) {r : Nat} (hr : r < h) {c c' : Nat} (lt : c < c') (hc' : c' < w) : (r % 2 = 1 → val (sortAlong b (bentF h w)) w r c' ≤ val (sortAlong b (bentF h w)) w r c) ∧ (r % 2 ≠ 1 → val (sortAlong b (bentF h w)) w r c ≤ val (sortAlong b (bentF h w)) w r c') := by
  have s := isSorted_iff.mp (sorted_after (load := b) (f := bentF h w) (by rw [hb]; exact bent_valid h w)) (bentL w r) (List.mem_map.mpr ⟨r, List.mem_range.mpr hr, rfl⟩)
  have g : ∀ c, c < w → (lineF w r)[c]? = some (place w r c) := fun c hc => by
    unfold lineF
    rw [List.getElem?_map, List.getElem?_range hc]
    rfl
  unfold bentL at s
  constructor
  · intro odd
    rw [if_pos odd, List.pairwise_reverse] at s
    exact pairwise_get (R := fun y x => at1 _ x ≤ at1 _ y) s lt (g c (by omega)) (g c' hc')
  · intro even
    rw [if_neg even] at s
    exact pairwise_get s lt (g c (by omega)) (g c' hc')
theorem snakes_perm (hb : b.length = h * w) {r : Nat} (hr : r < h) : ((lineF w r).map (at1 (sortAlong b (bentF h w)))).Perm ((lineF w r).map (at1 b)) := by
  refine set_perm (by rw [hb]; exact bent_valid h w) (lineF w r) (line_nodup w r) (fun x hx => ?_) fun l hl => ?_
  · obtain ⟨c, hc, rfl⟩ := line_mem.mp hx
    rw [hb]
    exact place_rg hr hc
  · unfold bentF at hl
    obtain ⟨r', _, rfl⟩ := List.mem_map.mp hl
    by_cases e : r' = r
    · subst e
      exact .inl fun x hx => line_mem.mpr (bentL_mem.mp hx)
    · refine .inr fun x hx z => ?_
      obtain ⟨c, hc, rfl⟩ := bentL_mem.mp hx
      obtain ⟨c', hc', e'⟩ := line_mem.mp z
      exact e (place_inj hc hc' e'.symm).1
theorem snakes_of (hb : b.length = h * w) {r c : Nat} (hr : r < h) (hc : c < w) : ∃ c', c' < w ∧ val b w r c' = val (sortAlong b (bentF h w)) w r c := by
  have m : val (sortAlong b (bentF h w)) w r c ∈ (lineF w r).map (at1 (sortAlong b (bentF h w))) := List.mem_map.mpr ⟨_, line_mem.mpr ⟨c, hc, rfl⟩, rfl⟩
  obtain ⟨x, hx, e⟩ := List.mem_map.mp ((snakes_perm hb hr).mem_iff.mp m)
  obtain ⟨c', hc', rfl⟩ := line_mem.mp hx
  exact ⟨c', hc', e⟩
theorem down_up (hb : b.length = h * w) {c : Nat} (hc : c < w) {r r' : Nat} (lt : r < r') (hr' : r' < h) : val (sortAlong b (downF h w)) w r c ≤ val (sortAlong b (downF h w)) w r' c := by
  have s := isSorted_iff.mp (sorted_after (load := b) (f := downF h w) (by rw [hb]; exact down_valid h w)) (colF h w c) (List.mem_map.mpr ⟨c, List.mem_range.mpr hc, rfl⟩)
  have g : ∀ r, r < h → (colF h w c)[r]? = some (place w r c) := fun r hr => by
    unfold colF
    rw [List.getElem?_map, List.getElem?_range hr]
    rfl
  exact pairwise_get s lt (g r (by omega)) (g r' hr')
theorem down_perm (hb : b.length = h * w) {c : Nat} (hc : c < w) : ((colF h w c).map (at1 (sortAlong b (downF h w)))).Perm ((colF h w c).map (at1 b)) := by
  refine set_perm (by rw [hb]; exact down_valid h w) (colF h w c) (col_nodup hc) (fun x hx => ?_) fun l hl => ?_
  · obtain ⟨r, hr, rfl⟩ := col_mem.mp hx
    rw [hb]
    exact place_rg hr hc
  · unfold downF at hl
    obtain ⟨c', hc', rfl⟩ := List.mem_map.mp hl
    by_cases e : c' = c
    · subst e
      exact .inl fun x hx => hx
    · refine .inr fun x hx z => ?_
      obtain ⟨r, hr, rfl⟩ := col_mem.mp hx
      obtain ⟨r', hr', e'⟩ := col_mem.mp z
      exact e (place_inj (List.mem_range.mp hc') hc e'.symm).2
/-! ### ones in columns -/
def ones (b : List Int) (h w c : Nat) : Nat := (List.range h).countP fun r => decide (val b w r c = 1)
theorem ones_down (hb : b.length = h * w) {c : Nat} (hc : c < w) : ones (sortAlong b (downF h w)) h w c = ones b h w c := by
  have := (down_perm hb hc).countP_eq fun v => decide (v = 1)
  unfold colF at this
  rw [List.countP_map, List.countP_map, List.countP_map, List.countP_map] at this
  exact this
end
theorem countP_from (k : Nat) : ∀ h, (List.range h).countP (fun x => decide (k ≤ x)) = h - k
  | 0 => (Nat.zero_sub k).symm
  | h + 1 => by
    rw [List.range_succ, List.countP_append, countP_from k h, List.countP_singleton]
    by_cases e : k ≤ h
    · rw [if_pos (decide_eq_true e)]
      omega
    · rw [if_neg (by rw [decide_eq_false e]; decide)]
      omega
theorem rank_mono {f : Nat → Bool} {h : Nat} (up : ∀ r r', r < r' → r' < h → f r = true → f r' = true) {r : Nat} (hr : r < h) : f r = true ↔ h - r ≤ (List.range h).countP f := by
  constructor
  · intro e
    rw [← countP_from r h]
    refine List.countP_mono_left fun x hx le => ?_
    have le := of_decide_eq_true le
    by_cases q : x = r
    · rw [q]; exact e
    · exact up r x (by omega) (List.mem_range.mp hx) e
  · intro le
    cases e : f r with
    | true => rfl
    | false =>
      have : (List.range h).countP f ≤ (List.range h).countP fun x => decide (r + 1 ≤ x) := List.countP_mono_left fun x hx q => decide_eq_true (by
        refine Classical.byContradiction fun n => ?_
        by_cases z : x = r
        · rw [z, e] at q; cases q
        · rw [up x r (by omega) hr q] at e; cases e)
      rw [countP_from] at this
      omega
/-- how many of so many from the first one on -/
def cnt3 (f : Nat → Bool) : Nat → Nat → Nat
  | _, 0 => 0
  | lo, n + 1 => (if f lo = true then 1 else 0) + cnt3 f (lo + 1) n
theorem cnt3_add (f : Nat → Bool) : ∀ n m lo, cnt3 f lo (n + m) = cnt3 f lo n + cnt3 f (lo + n) m
  | 0, m, lo => by rw [Nat.zero_add]; show _ = 0 + cnt3 f (lo + 0) m; rw [Nat.add_zero, Nat.zero_add]
  | n + 1, m, lo => by
    rw [show n + 1 + m = (n + m) + 1 by omega]
    show _ + cnt3 f (lo + 1) (n + m) = _ + cnt3 f (lo + 1) n + _
    rw [cnt3_add f n m (lo + 1), show lo + 1 + n = lo + (n + 1) by omega, Nat.add_assoc]
theorem countP_cnt (f : Nat → Bool) : ∀ h, (List.range h).countP f = cnt3 f 0 h
  | 0 => rfl
  | h + 1 => by
    rw [List.range_succ, List.countP_append, countP_cnt f h, cnt3_add, List.countP_singleton, Nat.zero_add]
    rfl
theorem cnt3_same {f g : Nat → Bool} : ∀ n lo, (∀ r, lo ≤ r → r < lo + n → f r = g r) → cnt3 f lo n = cnt3 g lo n
  | 0, _, _ => rfl
  | n + 1, lo, h => by
    show _ + cnt3 f (lo + 1) n = _ + cnt3 g (lo + 1) n
    rw [h lo (Nat.le_refl _) (by omega), cnt3_same n (lo + 1) fun r h1 h2 => h r (by omega) (by omega)]
theorem cnt3_pairs {f g : Nat → Bool} : ∀ n lo, (∀ r, lo ≤ r → r + 1 < lo + n → (f r = true → g r = true) ∨ (f (r + 1) = true → g (r + 1) = true)) → cnt3 f lo n ≤ cnt3 g lo n + (n + 1) / 2
  | 0, _, _ => Nat.zero_le _
  | 1, lo, _ => by
    show (if f lo = true then 1 else 0) + 0 ≤ (if g lo = true then 1 else 0) + 0 + 1
    split <;> split <;> omega
  | n + 2, lo, h => by
    have ih := cnt3_pairs n (lo + 2) fun r h1 h2 => h r (by omega) (by omega)
    have p := h lo (Nat.le_refl _) (by omega)
    show (if f lo = true then 1 else 0) + ((if f (lo + 1) = true then 1 else 0) + cnt3 f (lo + 2) n) ≤ (if g lo = true then 1 else 0) + ((if g (lo + 1) = true then 1 else 0) + cnt3 g (lo + 2) n) + (n + 2 + 1) / 2
    have k : (n + 2 + 1) / 2 = (n + 1) / 2 + 1 := by omega
    rw [k]
    have q : (if f lo = true then 1 else 0) + (if f (lo + 1) = true then 1 else 0) ≤ (if g lo = true then 1 else 0) + (if g (lo + 1) = true then 1 else 0) + 1 := by
      rcases p with p | p
      · by_cases z : f lo = true
        · rw [if_pos z, if_pos (p z)]
          split <;> split <;> omega
        · rw [if_neg z]
          split <;> split <;> split <;> omega
      · by_cases z : f (lo + 1) = true
        · rw [if_pos z, if_pos (p z)]
          split <;> split <;> omega
        · rw [if_neg z]
          split <;> split <;> split <;> omega
    omega
theorem cnt3_split (f : Nat → Bool) {h s d : Nat} (sd : s + d ≤ h) : (List.range h).countP f = cnt3 f 0 s + (cnt3 f s d + cnt3 f (s + d) (h - s - d)) := by
  rw [countP_cnt]
  have e := cnt3_add f s (d + (h - s - d)) 0
  rw [Nat.zero_add, cnt3_add f d, show s + (d + (h - s - d)) = h by omega] at e
  exact e
/-! ### the rows that hold both -/
/-- all rows but so many from one on hold one value each -/
def Band (h w : Nat) (b : List Int) (s d : Nat) : Prop := ∀ r, r < h → r < s ∨ s + d ≤ r → ∀ c, c < w → ∀ c', c' < w → val b w r c = val b w r c'
theorem exists_min (f : Nat → Nat) : ∀ w, 1 ≤ w → ∃ c, c < w ∧ ∀ c', c' < w → f c ≤ f c'
  | 0, h => absurd h (by decide)
  | 1, _ => ⟨0, by omega, fun c' h => by rw [show c' = 0 by omega]; exact Nat.le_refl _⟩
  | w + 2, _ => by
    obtain ⟨c, hc, hm⟩ := exists_min f (w + 1) (by omega)
    by_cases z : f c ≤ f (w + 1)
    · exact ⟨c, by omega, fun c' h => if q : c' = w + 1 then by rw [q]; exact z else hm c' (by omega)⟩
    · exact ⟨w + 1, by omega, fun c' h => if q : c' = w + 1 then by rw [q]; exact Nat.le_refl _ else by have := hm c' (by omega); omega⟩
section
variable {h w : Nat} {b : List Int}
theorem val_bits (hb : b.length = h * w) (bb : bits b) {r c : Nat} (hr : r < h) (hc : c < w) : val b w r c = 0 ∨ val b w r c = 1 := by
  have rg := place_rg hr hc
  exact bb _ (at1_mem rg.1 (by rw [hb]; exact rg.2))
theorem band_snakes (hb : b.length = h * w) {s d : Nat} (B : Band h w b s d) : Band h w (sortAlong b (bentF h w)) s d := fun r hr out c hc c' hc' => by
  obtain ⟨x, hx, e⟩ := snakes_of hb hr hc
  obtain ⟨y, hy, e'⟩ := snakes_of hb hr hc'
  rw [← e, ← e']
  exact B r hr out x hx y hy
theorem ones_near (hb : b.length = h * w) (bb : bits b) {s d : Nat} (sd : s + d ≤ h) (B : Band h w b s d) {c c' : Nat} (hc : c < w) (hc' : c' < w) : ones (sortAlong b (bentF h w)) h w c ≤ ones (sortAlong b (bentF h w)) h w c' + (d + 1) / 2 := by
  have vb : Valid b.length (bentF h w) := by rw [hb]; exact bent_valid h w
  have lx : (sortAlong b (bentF h w)).length = h * w := by rw [sortAlong_len, hb]
  have xb := bits_sort vb bb
  have B' := band_snakes hb B
  unfold ones
  rw [cnt3_split _ sd, cnt3_split _ sd]
  have e1 := cnt3_same (f := fun r => decide (val (sortAlong b (bentF h w)) w r c = 1)) (g := fun r => decide (val (sortAlong b (bentF h w)) w r c' = 1)) s 0 fun r h1 h2 => by
    show decide _ = decide _
    rw [B' r (by omega) (.inl (by omega)) c hc c' hc']
  have e3 := cnt3_same (f := fun r => decide (val (sortAlong b (bentF h w)) w r c = 1)) (g := fun r => decide (val (sortAlong b (bentF h w)) w r c' = 1)) (h - s - d) (s + d) fun r h1 h2 => by
    show decide _ = decide _
    rw [B' r (by omega) (.inr (by omega)) c hc c' hc']
  have e2 := cnt3_pairs (f := fun r => decide (val (sortAlong b (bentF h w)) w r c = 1)) (g := fun r => decide (val (sortAlong b (bentF h w)) w r c' = 1)) d s fun r h1 h2 => by
    -- of two rows one goes up, the other one down
    rcases Nat.lt_trichotomy c c' with lt | e | lt
    · by_cases odd : r % 2 = 1
      · refine .inr fun q => decide_eq_true ?_
        have q := of_decide_eq_true q
        have := (snakes_up hb (r := r + 1) (by omega) lt hc').2 (by omega)
        rcases val_bits lx xb (r := r + 1) (by omega) hc' with z | z <;> omega
      · refine .inl fun q => decide_eq_true ?_
        have q := of_decide_eq_true q
        have := (snakes_up hb (r := r) (by omega) lt hc').2 odd
        rcases val_bits lx xb (r := r) (by omega) hc' with z | z <;> omega
    · rw [e]
      exact .inl id
    · by_cases odd : r % 2 = 1
      · refine .inl fun q => decide_eq_true ?_
        have q := of_decide_eq_true q
        have := (snakes_up hb (r := r) (by omega) lt hc).1 odd
        rcases val_bits lx xb (r := r) (by omega) hc' with z | z <;> omega
      · refine .inr fun q => decide_eq_true ?_
        have q := of_decide_eq_true q
        have := (snakes_up hb (r := r + 1) (by omega) lt hc).1 (by omega)
        rcases val_bits lx xb (r := r + 1) (by omega) hc' with z | z <;> omega
  omega
/-- one round -/
def roundF (h w : Nat) (b : List Int) : List Int := sortAlong (sortAlong b (bentF h w)) (downF h w)
theorem round_len (hb : b.length = h * w) : (roundF h w b).length = h * w := by unfold roundF; rw [sortAlong_len, sortAlong_len, hb]
theorem round_bits (hb : b.length = h * w) (bb : bits b) : bits (roundF h w b) :=
  bits_sort (by rw [sortAlong_len, hb]; exact down_valid h w) (bits_sort (by rw [hb]; exact bent_valid h w) bb)
theorem round_up (hb : b.length = h * w) {c r r' : Nat} (hc : c < w) (lt : r < r') (hr' : r' < h) : val (roundF h w b) w r c ≤ val (roundF h w b) w r' c := down_up (by rw [sortAlong_len, hb]) hc lt hr'
theorem round_rank (hb : b.length = h * w) (bb : bits b) {r c : Nat} (hr : r < h) (hc : c < w) : val (roundF h w b) w r c = 1 ↔ h - r ≤ ones (sortAlong b (bentF h w)) h w c := by
  have lx : (sortAlong b (bentF h w)).length = h * w := by rw [sortAlong_len, hb]
  rw [← ones_down lx hc]
  have := rank_mono (f := fun r => decide (val (roundF h w b) w r c = 1)) (h := h) (fun r r' lt hr' q => decide_eq_true (by
    have q := of_decide_eq_true q
    have up := round_up hb hc lt hr'
    rcases val_bits (round_len hb) (round_bits hb bb) hr' hc with z | z <;> omega)) hr
  rw [decide_eq_true_iff] at this
  exact this
theorem band_round (hb : b.length = h * w) (bb : bits b) (w1 : 1 ≤ w) {s d : Nat} (sd : s + d ≤ h) (B : Band h w b s d) : ∃ s', s' + (d + 1) / 2 ≤ h ∧ Band h w (roundF h w b) s' ((d + 1) / 2) := by
  obtain ⟨c0, hc0, mn⟩ := exists_min (ones (sortAlong b (bentF h w)) h w) w w1
  have near : ∀ c, c < w → ones (sortAlong b (bentF h w)) h w c ≤ ones (sortAlong b (bentF h w)) h w c0 + (d + 1) / 2 := fun c hc => ones_near hb bb sd B hc hc0
  have le : ones (sortAlong b (bentF h w)) h w c0 ≤ h := by
    have := List.countP_le_length (p := fun r => decide (val (sortAlong b (bentF h w)) w r c0 = 1)) (l := List.range h)
    rw [List.length_range] at this
    exact this
  generalize hm : ones (sortAlong b (bentF h w)) h w c0 = m at *
  have vb : ∀ {r c : Nat}, r < h → c < w → val (roundF h w b) w r c = 0 ∨ val (roundF h w b) w r c = 1 := fun hr hc => val_bits (round_len hb) (round_bits hb bb) hr hc
  have key : ∀ s', s' = h - (m + (d + 1) / 2) → Band h w (roundF h w b) s' ((d + 1) / 2) := by
    rintro s' rfl r hr out c hc c' hc'
    have r1 := round_rank hb bb hr hc
    have r2 := round_rank hb bb hr hc'
    have n1 := near c hc
    have n2 := near c' hc'
    have m1 := mn c hc
    have m2 := mn c' hc'
    rcases out with out | out
    · have a1 : val (roundF h w b) w r c ≠ 1 := fun q => by have := r1.mp q; omega
      have a2 : val (roundF h w b) w r c' ≠ 1 := fun q => by have := r2.mp q; omega
      rw [(vb hr hc).resolve_right a1, (vb hr hc').resolve_right a2]
    · rw [r1.mpr (by omega), r2.mpr (by omega)]
  by_cases fit : m + (d + 1) / 2 ≤ h
  · exact ⟨h - (m + (d + 1) / 2), by omega, key _ rfl⟩
  · have z : h - (m + (d + 1) / 2) = 0 := by omega
    have k := key _ rfl
    rw [z] at k
    by_cases q : (d + 1) / 2 ≤ h
    · exact ⟨0, by omega, k⟩
    · omega
end
/-! ### halves -/
def halve (x : Nat) : Nat := (x + 1) / 2
def halves (x : Nat) : Nat → Nat
  | 0 => x
  | k + 1 => halve (halves x k)
def rounds (h w : Nat) (b : List Int) : Nat → List Int
  | 0 => b
  | k + 1 => roundF h w (rounds h w b k)
section
variable {h w : Nat} {b : List Int}
theorem rounds_ok (hb : b.length = h * w) (bb : bits b) (w1 : 1 ≤ w) : ∀ k, (rounds h w b k).length = h * w ∧ bits (rounds h w b k) ∧ ∃ s, s + halves h k ≤ h ∧ Band h w (rounds h w b k) s (halves h k)
  | 0 => ⟨hb, bb, 0, by show 0 + h ≤ h; omega, fun r hr out => by
    have out : r < 0 ∨ 0 + h ≤ r := out
    omega⟩
  | k + 1 => by
    obtain ⟨h1, h2, s, h3, h4⟩ := rounds_ok hb bb w1 k
    exact ⟨round_len h1, round_bits h1 h2, band_round h1 h2 w1 h3 h4⟩
/-- how many rows hold both -/
def both (b : List Int) (h w : Nat) : Nat := (List.range h).countP fun r => decide (∃ c, c < w ∧ val b w r c = 0) && decide (∃ c, c < w ∧ val b w r c = 1)
theorem band_both {s d : Nat} (B : Band h w b s d) : both b h w ≤ d := by
  have e : both b h w ≤ (List.range h).countP fun x => decide (s ≤ x) && !decide (s + d ≤ x) := by
    unfold both
    refine List.countP_mono_left fun r hr q => ?_
    rw [Bool.and_eq_true] at q
    obtain ⟨c, hc, e0⟩ := of_decide_eq_true q.1
    obtain ⟨c', hc', e1⟩ := of_decide_eq_true q.2
    have out : ¬ (r < s ∨ s + d ≤ r) := fun o => by
      have := B r (List.mem_range.mp hr) o c hc c' hc'
      omega
    rw [Bool.and_eq_true]
    exact ⟨decide_eq_true (by omega), by rw [decide_eq_false (by omega)]; rfl⟩
  refine Nat.le_trans e ?_
  have split_ : ∀ l : List Nat, l.countP (fun x => decide (s ≤ x) && !decide (s + d ≤ x)) + l.countP (fun x => decide (s + d ≤ x)) = l.countP fun x => decide (s ≤ x) := by
    intro l
    induction l with
    | nil => rfl
    | cons x l ih =>
      rw [List.countP_cons, List.countP_cons, List.countP_cons]
      by_cases q1 : s + d ≤ x
      · rw [decide_eq_true q1, decide_eq_true (show s ≤ x by omega)]
        simp
        omega
      · rw [decide_eq_false q1]
        by_cases q2 : s ≤ x
        · rw [decide_eq_true q2]
          simp
          omega
        · rw [decide_eq_false q2]
          simp
          omega
  have := split_ (List.range h)
  rw [countP_from, countP_from] at this
  omega
/-- in snake order -/
def InSnake (h w : Nat) (b : List Int) : Prop := (bentF h w).flatten.Pairwise fun x y => at1 b x ≤ at1 b y
theorem in_snake (hb : b.length = h * w) (bb : bits b) (up : ∀ c r r', c < w → r < r' → r' < h → val b w r c ≤ val b w r' c) {s : Nat} (B : Band h w b s 1) : InSnake h w (sortAlong b (bentF h w)) := by
  have vb : Valid b.length (bentF h w) := by rw [hb]; exact bent_valid h w
  have lx : (sortAlong b (bentF h w)).length = h * w := by rw [sortAlong_len, hb]
  have xb := bits_sort vb bb
  refine List.pairwise_flatten.mpr ⟨fun l hl => isSorted_iff.mp (sorted_after vb) l hl, ?_⟩
  unfold bentF
  refine List.pairwise_map.mpr (pairwise_of List.pairwise_lt_range fun r hr r' hr' lt x hx y hy => ?_)
  have hr := List.mem_range.mp hr
  have hr' := List.mem_range.mp hr'
  obtain ⟨c, hc, rfl⟩ := bentL_mem.mp hx
  obtain ⟨c', hc', rfl⟩ := bentL_mem.mp hy
  refine Classical.byContradiction fun n => ?_
  have v1 := val_bits lx xb hr hc
  have v2 := val_bits lx xb hr' hc'
  have n : ¬ val (sortAlong b (bentF h w)) w r c ≤ val (sortAlong b (bentF h w)) w r' c' := n
  obtain ⟨x, hx, e1⟩ := snakes_of hb hr hc
  obtain ⟨y, hy, e2⟩ := snakes_of hb hr' hc'
  have a1 : val b w r x = 1 := by omega
  have a2 : val b w r' y = 0 := by omega
  have b1 := up x r r' hx lt hr'
  have b2 := up y r r' hy lt hr'
  have d1 : ¬ (r < s ∨ s + 1 ≤ r) := fun o => by
    have := B r hr o x hx y hy
    rcases val_bits hb bb hr hy with z | z <;> omega
  have d2 : ¬ (r' < s ∨ s + 1 ≤ r') := fun o => by
    have := B r' hr' o x hx y hy
    rcases val_bits hb bb hr' hx with z | z <;> omega
  omega
theorem shear01 (hb : b.length = h * w) (bb : bits b) (w1 : 1 ≤ w) {k : Nat} (hk : halves h k = 1) (k1 : 1 ≤ k ∨ h = 1) : InSnake h w (sortAlong (rounds h w b k) (bentF h w)) := by
  obtain ⟨h1, h2, s, h3, h4⟩ := rounds_ok hb bb w1 k
  rw [hk] at h4
  refine in_snake h1 h2 (fun c r r' hc lt hr' => ?_) h4
  match k, k1 with
  | 0, .inr e => omega
  | k + 1, _ =>
    obtain ⟨g1, g2, _⟩ := rounds_ok hb bb w1 k
    exact round_up g1 hc lt hr'
end
end Kt


set_option autoImplicit true
set_option Elab.async false
set_option linter.all false
set_option maxRecDepth 100000
set_option maxHeartbeats 4000000
/-! sorted(range(..), key=lambda y: xs[y]): the lambda is made, called for each number, the numbers are sorted by what it answers. -/
namespace Kt
open PySem PySem.Spec L2 PyProof.Rows PySem.W LamX
section
variable {prog : Program} {w : World} {A : Around} {E : Value → Shared → Prop} {s : Shared}
def intIs (v : Value) (i : Int) : Prop := ∃ t, v = .int i t
theorem each_ints : ∀ (vs : List Value) (g : Nat → Int), (∀ j v, vs[j]? = some v → intIs v (g j)) → EachIs intIs vs ((List.range vs.length).map g)
  | [], _, _ => .nil
  | v :: vs, g, h => by
    rw [List.length_cons, List.range_succ_eq_map, List.map_cons, List.map_map]
    exact .cons (h 0 v rfl) (each_ints vs (g ∘ Nat.succ) fun j u e => h (j + 1) u e)
theorem each_vals : ∀ {vs : List Value} {ns : List Int}, EachIs intIs vs ns → Vals (ns.map V.int) vs
  | _, _, .nil => .nil
  | _, _, .cons ⟨t, e⟩ r => .cons ⟨t, e⟩ (each_vals r)
/-- the numbers by their keys -/
def byKey (g : Int → Int) (ns : List Int) : List Int := ns.mergeSort fun a b => decide (g a ≤ g b)
theorem dataLe_int (g : Int → Int) : dataLe false (fun i => PyData.int (g i)) = fun a b => decide (g a ≤ g b) := by
  funext a b
  show (!(listOrd itemOrd).blt (keyToks (.int (g b))) (keyToks (.int (g a)))) = decide (g a ≤ g b)
  show (!(decide (g b < g a) || (!decide (g a < g b) && false))) = decide (g a ≤ g b)
  rw [Bool.and_false, Bool.or_false, ← decide_not]
  exact decide_eq_decide.mpr Int.not_lt
theorem byKey_perm (g : Int → Int) (ns : List Int) : (byKey g ns).Perm ns := List.mergeSort_perm _ _
theorem alike_ints (g : Int → Int) (ns : List Int) : AllAlike (ns.map fun i => PyData.int (g i)) := fun d hd d' hd' => by
  obtain ⟨i, _, rfl⟩ := List.mem_map.mp hd
  obtain ⟨j, _, rfl⟩ := List.mem_map.mp hd'
  rfl
theorem sortable_ints (g : Int → Int) (ns : List Int) : Sortable (ns.map fun i => PyData.int (g i)) := .inr fun d hd => by
  obtain ⟨i, _, rfl⟩ := List.mem_map.mp hd
  exact ⟨(fun z => by cases z), (fun xs z => by cases z)⟩
/-- sorted(range(lo, hi), key=f) -/
theorem sorted_rgK {r q : Addr} {lo hi : Int} {t u v : Tok} {n : Nat} {Q : Value → Shared → Prop} (g : Int → Int) (hh : A.handled = none) (hr : IsRange s.heap r lo hi 1 t u v) (hsmall : Builtin.Range.small lo hi 1 = true) (hn : Builtin.Range.rangeSize lo hi 1 = n) (hlen : n ≤ 2 ^ 20)
    (hu : A.units + 70 < cLine)
    (turn : ∀ (v : Value) (i : Int), intIs v i → i ∈ ((List.range n).map fun (j : Nat) => lo + (j : Int) * 1) → ∀ (h : Heap) (tk : Nat), (∀ b o, s.heap.get? b = some o → h.get? b = some o) →
      wpAny (model prog w) A.in1.in1 (call (.ref q) [v]) (KeyPure (.int (g i)) { s with heap := h, toks := tk }) (fun _ _ => False) { s with heap := h, toks := tk })
    (h : ∀ (out : List Value) (c : Nat) (h1 h' : Heap) (tk : Nat) (p : Addr), (∀ b o, s.heap.get? b = some o → h1.get? b = some o) → (∀ b o, h1.get? b = some o → h'.get? b = some o) → h1.objs.size = p → h'.get? p = some (seqObj "list" (List.toArray out) c) → out.length = n → EachIs intIs out (byKey g ((List.range n).map fun (j : Nat) => lo + (j : Int) * 1)) → Q (.ref p) { s with heap := h', toks := tk }) :
    wpAny (model prog w) A (call (.builtin "sorted") [.ref r] [(Str.ofString "key", .ref q)]) Q E s := by
  refine call_function_entry_kw kind_sorted plain_sorted entry_sorted (ksk_s1 _ _) ?_
  unfold Builtin.«sorted»
  refine wpAny_bind (m := checkCount "sorted" 1 1 _) (wpAny_pure ?_)
  refine wpAny_bind (collect_range (A := A.in1) hh hr hsmall hn (Nat.le_trans hlen (by decide)) fun h1 tk1 acc kp it => ?_)
  obtain ⟨sz, its⟩ := it
  have al : acc.toList.length = n := by rw [Array.length_toList]; exact sz
  have ei : EachIs intIs acc.toList ((List.range n).map fun (j : Nat) => lo + (j : Int) * 1) := by
    rw [← al]
    exact each_ints acc.toList _ fun j v e => its j v (by rw [← Array.getElem?_toList]; exact e)
  have nl : acc.toList.length ≤ sizeLine := by
    rw [al]
    exact Nat.le_trans hlen (by decide)
  refine wpAny_bind (wpAny_newList ?_ nl)
  have new : ∀ (b : Addr) (o : Obj), h1.get? b = some o → b ≠ h1.objs.size := fun b o e z => by
    have := Heap.lt_size e
    rw [z] at this
    exact Nat.lt_irrefl _ this
  refine wpAny_bind (wpAny_holding ?_)
  refine list_sort_key_data (A := A.in1) (s := { s with heap := h1.push { cls := .type "list", data := .seq acc.toList.toArray }, toks := tk1 }) (vs := acc.toList) (bs := (List.range n).map fun (j : Nat) => lo + (j : Int) * 1) (R := intIs) (b := false) (n := 0)
    (fun i => .int (g i)) (Heap.get?_push_size _ rfl) ei (alike_ints g _) (sortable_ints g _) (by rw [List.length_map, List.length_range]; exact Nat.le_trans hlen (by decide)) (fun x _ => ?_) (ksk_l1 _ _) (ksk_t1 _ _) (fun v x hR hx h tk kb => ?_) fun out c h' tk kb hp hl he => ?_
  · show A.units + 1 + 1 + 0 < cLine
    omega
  · exact turn v x hR hx h tk fun b o e => kb b o (new b o (kp b o e)) (Heap.get?_push_of_some _ (kp b o e))
  · rw [dataLe_int] at he
    exact wpAny_pure ⟨_, rfl, h out c h1 h' tk h1.objs.size kp (fun b o e => kb b o (new b o e) (Heap.get?_push_of_some _ e)) rfl hp (by rw [hl, List.length_map, List.length_range]) he⟩
/-- a call of the lambda -/
theorem lam_turn {f c' c a : Addr} {q x y : Str} {params : Arguments} {scope : Scope} {cl : List (Str × Addr)} {pm ctv : Value} {p1 p2 p3 : Pos} {its : Array Value} {i k : Int} {t t' : Tok} (hd : A.depth < recursionLimit)
    (hf : s.heap.get? f = some (kla_obj (Str.ofString "<lambda>") q params (.Subscript (.Name x p1) (.Name y p2) p3) scope cl pm c' ctv)) (hk : scope.kind = .function) (hco : scope.isCoroutine = false) (hgen : scope.isGenerator = false) (hnc : ∀ z ∈ scope.names, z.2 ≠ .cell)
    (hy : scope.names.lookup y = some .local) (hx : scope.names.lookup x = some .free) (hcl : cl.lookup x = some c) (hcell : s.heap.IsCell c (some (.ref a))) (hrec : s.heap.CodeRec (.ref c') q) (lim : s.heap.NoLimit) (hl : s.heap.IsList a its)
    (hbind : bindArgs (kla_fn (Str.ofString "<lambda>") q params (.Subscript (.Name x p1) (.Name y p2) p3) scope cl pm (.ref c') ctv) ⟨[.int i t], []⟩ = pure [(y, .int i t)]) (h0 : 0 ≤ i) (h63 : i < 2 ^ 63) (hi : its[i.toNat]? = some (.int k t'))
    (dx : (x == Str.ofString "__debug__") = false) (dy : (y == Str.ofString "__debug__") = false) (dc : (x == Str.ofString "__classdict__") = false) :
    wpAny (model prog w) A (call (.ref f) [.int i t]) (KeyPure (.int k) s) (fun _ _ => False) s := by
  refine wpAny_call (kla_callFunE hd hf rfl hco hgen rfl hrec ?_)
  rw [hbind]
  refine wpAny_pure (wpAny_newFunctionEnv hnc (fun z hz => by rw [List.mem_singleton.mp hz]; exact hy) (fun g1 hns hsb => ⟨lim.fresh _ hsb, ?_⟩) hk)
  have up : ∀ b o, s.heap.get? b = some o → g1.get? b = some o := fun b o z => hsb.extBut b o (Nat.ne_of_lt (Heap.lt_size z)) (Heap.get?_push_of_some _ z)
  have cellK : g1.IsCell c (some (.ref a)) := let ⟨o, ho, hdt⟩ := hcell; ⟨o, up _ _ ho, hdt⟩
  have listK : g1.IsList a its := let ⟨o, ho, r⟩ := hl; ⟨o, up _ _ ho, r⟩
  refine kla_codeExpr (Subscript_ (wpAny_Name (wpAny_loadName_free hk hx hcl cellK ?_ dc) dx))
  refine wpAny_Name (wpAny_loadName_local hk hy hns (v := .int i t) ?_ ?_) dy
  · show List.lookup y [(y, Value.int i t)] = _
    rw [List.lookup_cons_self]
  · exact item_listR listK h0 h63 hi ⟨g1, _, rfl, up, .int k t'⟩ rfl
end
/-! ### making the lambda -/
/-- what was told stays told: tables stay tables, all else as it is -/
def Kp (H H' : Hp) : Prop := ∀ b o, H b = some o → ∃ o', H' b = some o' ∧ ((∀ ts, o ≠ .tbl ts) → o' = o) ∧ ∀ ts, o = .tbl ts → ∃ ts', o' = .tbl ts'
theorem Kp.of {H H' : Hp} (e : ∀ b o, H b = some o → H' b = some o) : Kp H H' := fun b o z => ⟨o, e b o z, fun _ => rfl, fun ts q => ⟨ts, q⟩⟩
theorem Kp.refl (H : Hp) : Kp H H := Kp.of fun _ _ z => z
theorem Kp.trans {H H1 H2 : Hp} (k1 : Kp H H1) (k2 : Kp H1 H2) : Kp H H2 := fun b o z => by
  obtain ⟨o1, a1, a2, a3⟩ := k1 b o z
  obtain ⟨o2, b1, b2, b3⟩ := k2 b o1 a1
  refine ⟨o2, b1, fun n => ?_, fun ts q => ?_⟩
  · have e := a2 n
    subst e
    exact b2 n
  · obtain ⟨ts', q'⟩ := a3 ts q
    exact b3 ts' q'
theorem Kp.same {H H' : Hp} (k : Kp H H') {b : Addr} {o : HO} (z : H b = some o) (n : ∀ ts, o ≠ .tbl ts) : H' b = some o := by
  obtain ⟨o', a1, a2, _⟩ := k b o z
  rw [a2 n] at a1
  exact a1
theorem Kp.has {H H' : Hp} (k : Kp H H') {b : Addr} (z : H' b = none) : H b = none := by
  cases e : H b with
  | none => rfl
  | some o =>
    obtain ⟨o', a1, _⟩ := k b o e
    rw [z] at a1
    cases a1
/-- no table tells of what stands at a -/
def NoCode (T : List (Addr × Str)) (H : Hp) (a : Addr) : Prop := ∀ p ∈ T, ∀ ts, H p.1 = some (HO.tbl ts) → ∀ at_, codeAmong at_ ts.toList ≠ some (.ref a)
section
variable {X : Cx} {pins : List (Addr × Obj)} {σ : L2.St} {H : Hp} {s : Shared}
theorem lam_new {T : List (Addr × Str)} {d R : Addr} {pr : Arguments} {bd : Expr} {sc : Scope} {at_ : Pos} {E Q : Value → Shared → Prop} (J : Inv X pins σ H s) (B : TabB X.base X.mg d R) (hd : X.env.code = .ref d) (hR : (R, X.env.qual ++ "<lambda>") ∈ T)
    (one : ∀ p ∈ T, p.1 = R → p.2 = X.env.qual ++ "<lambda>") (tb : Tabs T H) (nodef : defaultsOf pr X.env = ([], [])) (fre : ∀ y ∈ sc.names, y.2 = .free → ∃ c, X.env.cells.lookup y.1 = some c)
    (go : ∀ (f e : Addr) (pm ctv : Value) (H1 : Hp) (s' : Shared), Inv X pins σ H1 s' → Kp H H1 → Tabs T H1 → (∀ b u, H b = some u → NoCode T H b → NoCode T H1 b) → s'.heap.get? f = some (kla_obj (Str.ofString "<lambda>") (X.env.qual ++ "<lambda>") pr bd sc (cloFrom X.env.cells sc.names []) pm e ctv) → H1 e = some (CodeO e (X.env.qual ++ "<lambda>")) → Q (.ref f) s') :
    wpAny (model X.prog X.w) X.A (eval (.Lambda pr bd sc at_) X.env) Q E s := by
  obtain ⟨us, r1, r2, r3⟩ := tb _ hR
  have bR : s.heap.BuiltinsAt X.mg R := B.bm.keeps J.bk
  have oR : s.heap.get? R = some { cls := .none, data := .fields us } := J.hok R _ r1
  refine kla_eval nodef ?_
  cases e : codeAmong at_ us.toList with
  | some cv =>
    obtain ⟨e', rfl, k3⟩ := r3 at_ cv e
    exact kla_makeFunctionHit (c := d) (P := R) (closure_ok fre) J.ok.glob (J.mod.glob.keeps J.bk) hd (B.code.keeps J.bk) oR r2 e bR fun ctv h' tk up sz =>
      go h'.objs.size e' _ ctv H _ (J.kept fun b o z => Heap.get?_push_of_some _ (up b o z)) (Kp.refl H) tb (fun _ _ _ z => z) (Heap.get?_push_size _ rfl) k3
  | none =>
    refine kla_makeFunction (c := d) (P := R) (closure_ok fre) J.ok.glob (J.mod.glob.keeps J.bk) hd (B.code.keeps J.bk) oR r2 e B.gP bR fun e' ctv h' tk but ge lt rec tab => ?_
    obtain ⟨_, oc, fs, t, z, o1, o2, o3⟩ := rec
    cases z
    have fresh : H e' = none := J.hok.fresh ge
    have J1 := inv_table (t' := tk) (more := #[rawInt at_.line, rawInt at_.col, .ref e']) (h' := h'.push (kla_obj (Str.ofString "<lambda>") (X.env.qual ++ "<lambda>") pr bd sc (cloFrom X.env.cells sc.names []) ((X.mg "__name__").getD .none) e' ctv)) J r1
      (fun b o nb z => Heap.get?_push_of_some _ (but b o nb z)) (Heap.get?_push_of_some _ tab) ge ⟨oc, fs, t, Heap.get?_push_of_some _ o1, o2, o3⟩
    have kp : Kp H (upd (upd H R (.tbl (us ++ #[rawInt at_.line, rawInt at_.col, .ref e']))) e' (CodeO e' (X.env.qual ++ "<lambda>"))) := fun b o z => by
      have n1 : b ≠ e' := ne_of_none z fresh
      by_cases n2 : b = R
      · subst n2
        rw [r1] at z
        cases z
        exact ⟨_, (upd_ne n1).trans upd_same, fun n => absurd rfl (n us), fun _ _ => ⟨_, rfl⟩⟩
      · exact ⟨o, ((upd_ne n1).trans (upd_ne n2)).trans z, fun _ => rfl, fun ts q => ⟨ts, q⟩⟩
    have ls : (us ++ #[rawInt at_.line, rawInt at_.col, .ref e']).toList = us.toList ++ [rawInt at_.line, rawInt at_.col, .ref e'] := by simp
    refine go h'.objs.size e' _ ctv _ _ J1 kp (fun p hp => ?_) (fun b u hb nb p hp ts hts w' y => ?_) (Heap.get?_push_size _ rfl) upd_same
    rotate_left
    · by_cases n : p.1 = R
      · have z : p.1 ≠ e' := fun z => by rw [n] at z; exact ne_of_none r1 fresh z
        rw [upd_ne z, n, upd_same] at hts
        cases hts
        rw [ls] at y
        rcases among_app _ r2 y with y | y
        · exact nb p hp us (by rw [n]; exact r1) w' y
        · cases y
          exact ne_of_none hb fresh rfl
      · by_cases z : p.1 = e'
        · rw [z, upd_same] at hts
          exact codeO_ne _ (Option.some.inj hts)
        · rw [upd_ne z, upd_ne n] at hts
          exact nb p hp ts hts w' y
    by_cases n : p.1 = R
    · rw [one p hp n, n]
      refine ⟨_, (upd_ne (ne_of_none r1 fresh)).trans upd_same, ls ▸ TriplesOk_snoc _ _ _ _ r2, fun w' cv y => ?_⟩
      rw [ls] at y
      rcases among_app _ r2 y with y | y
      · obtain ⟨e0, y1, y2⟩ := r3 w' cv y
        exact ⟨e0, y1, kp.same y2 codeO_ne⟩
      · exact ⟨e', y, upd_same⟩
    · obtain ⟨us', y1, y2, y3⟩ := tb p hp
      refine ⟨us', ((upd_ne (ne_of_none y1 fresh)).trans (upd_ne n)).trans y1, y2, fun w' cv y => ?_⟩
      obtain ⟨e0, x1, x2⟩ := y3 w' cv y
      exact ⟨e0, x1, kp.same x2 codeO_ne⟩
/-- sorted(range(n), key=lambda y: xs[y]): i is the slot of xs, that the lambda captures -/
def tSortLam (T : List (Addr × Str)) (i : Nat) (te : TE) : TE := fun σ H Q => te σ H fun v H1 => ∃ (r a : Addr) (n : Nat) (ks : List Int), v = .ref r ∧ H1 r = some (.rng 0 (n : Int)) ∧ n ≤ 2 ^ 20 ∧ σ[i]? = some (some (.ref a)) ∧ H1 a = some (.lst (ks.map V.int)) ∧ n ≤ ks.length ∧ Tabs T H1 ∧
  ∀ (p : Addr) (H2 : Hp), Kp H1 H2 → Tabs T H2 → (∀ b u, H1 b = some u → NoCode T H1 b → NoCode T H2 b) → H2 p = none → Q (.ref p) (upd H2 p (.lst ((byKey (fun j => ks.getD j.toNat 0) ((List.range n).map fun (j : Nat) => 0 + (j : Int) * 1)).map V.int)))
end
theorem pe_sortLam {X : Cx} {T : List (Addr × Str)} {d R : Addr} {x y : Str} {e : Expr} {te : TE} {i k : Nat} {pr : Arguments} {sc : Scope} {p p1 p2 p3 lp kp pos : Pos} (hg : Gl X "sorted") (hm : X.mg "sorted" = none) (he : PE X e te) (hi : X.N[i]? = some x) (hkx : X.env.scope.names.lookup x = some .cell)
    (B : TabB X.base X.mg d R) (hd : X.env.code = .ref d) (hR : (R, X.env.qual ++ "<lambda>") ∈ T) (one : ∀ p ∈ T, p.1 = R → p.2 = X.env.qual ++ "<lambda>") (nodef : defaultsOf pr X.env = ([], [])) (freB : (sc.names.all fun z => !decide (z.2 = .free) || decide (X.env.scope.names.lookup z.1 = some .cell)) = true)
    (hk : sc.kind = .function) (hco : sc.isCoroutine = false) (hgen : sc.isGenerator = false) (hnc : ∀ z ∈ sc.names, z.2 ≠ .cell) (hy : sc.names.lookup y = some .local) (hx : sc.names.lookup x = some .free)
    (hbind : ∀ (q : Str) (cl : List (Str × Addr)) (pm cv ctv v : Value), bindArgs (kla_fn (Str.ofString "<lambda>") q pr (.Subscript (.Name x p1) (.Name y p2) p3) sc cl pm cv ctv) ⟨[v], []⟩ = pure [(y, v)])
    (hr : Room k X.A) (dx : (x == Str.ofString "__debug__") = false) (dy : (y == Str.ofString "__debug__") = false) (dc : (x == Str.ofString "__classdict__") = false) (na : starEach [e] X.env = (false, eval e X.env) :: starEach [] X.env) (nb : (backTo pos (starEach [e] X.env)).any (·.1) = false) (nc : backTo pos (starEach [e] X.env) = (false, eval e X.env) :: backTo pos (starEach [] X.env)) :
    PE X (.Call (.Name "sorted" p) [e] [⟨some "key", .Lambda pr (.Subscript (.Name x p1) (.Name y p2) p3) sc lp, kp⟩] pos) (tSortLam T i te) := by
  have fre : ∀ z ∈ sc.names, z.2 = .free → X.env.scope.names.lookup z.1 = some .cell ∨ X.env.scope.names.lookup z.1 = some .free := fun z hz e => by
    have := List.all_eq_true.mp freB z hz
    rw [decide_eq_true e, Bool.not_true, Bool.false_or] at this
    exact .inl (of_decide_eq_true this)
  refine ⟨fun pins s σ H Q I h => ?_⟩
  refine wpAny_Call_Name_kw (ld_blt I hg hm boot_sorted ?_)
  refine callWith_kw (one_arg he I h (fun v s1 xv H1 I1 r1 q1 => ?_) na) nc nb rfl rfl
  obtain ⟨r, a, n, ks, rfl, hrg, hn, hs, ha, hnk, tb, q⟩ := q1
  obtain rfl : v = .ref r := r1
  show wpAny _ _ (evalAll [(do let v ← eval (.Lambda pr (.Subscript (.Name x p1) (.Name y p2) p3) sc lp) X.env; standAt pos; pure v)]) _ _ s1
  have hfr : ∀ z ∈ sc.names, z.2 = .free → ∃ c, X.env.cells.lookup z.1 = some c := fun z hz hz2 => (fre z hz hz2).elim (fun u => I.ok.has _ (.inl u)) fun u => I.ok.has _ (.inr u)
  refine wpAny_evalAll_cons (wpAny_bind (lam_new I1 B hd hR one tb nodef hfr fun f e' pm ctv H2 s2 I2 k2 tb2 nc2 hf hc => wpAny_bind (wpAny_standAt (wpAny_pure (wpAny_evalAll_nil ?_)))))
  show wpAny _ _ (call (.builtin "sorted") [.ref r] [(Str.ofString "key", .ref f)]) _ _ s2
  have hrg2 : H2 r = some (.rng 0 (n : Int)) := k2.same hrg fun ts z => by cases z
  have ha2 : H2 a = some (.lst (ks.map V.int)) := k2.same ha fun ts z => by cases z
  obtain ⟨t, u, v', ho⟩ : ∃ t u v, s2.heap.get? r = some ({ cls := .type "range", data := .fields #[.int 0 t, .int (n : Int) u, .int 1 v] } : Obj) := I2.hok r _ hrg2
  obtain ⟨m, hns, hl⟩ := I2.loc
  obtain ⟨ua, ra, look⟩ := hl i x _ hi hs (.inr (.inl hkx))
  obtain rfl : ua = .ref a := ra
  obtain ⟨c, hc1, hc2⟩ : ∃ c, X.env.cells.lookup x = some c ∧ s2.heap.IsCell c (some (.ref a)) := by
    rcases look with ⟨z, _⟩ | ⟨_, z⟩
    · have z : X.env.scope.names.lookup x = some .local := z
      rw [hkx] at z
      cases z
    · exact z
  have hcl : (cloFrom X.env.cells sc.names []).lookup x = some c := NdefX.clo_has hfr (mem_of_lookup hx) hc1
  refine sorted_rgK (n := n) (fun j => ks.getD j.toNat 0) hr.hd ho (small_one (by omega) (by omega) (by omega) (by omega)) (by rw [rangeSize_nat]; omega) hn (by have := hr.un; omega) (fun v j hv hj h tk up => ?_) fun out c' h1 h' tk p kp1 kp2 hp ho2 hlen hei => ?_
  · obtain ⟨t, rfl⟩ := hv
    obtain ⟨j', hj', rfl⟩ := List.mem_map.mp hj
    have hj' := List.mem_range.mp hj'
    have I3 : Inv X pins σ H2 { s2 with heap := h, toks := tk } := I2.kept up
    obtain ⟨its, rv, pl, hz⟩ := I3.list (SqL.of ha2)
    have hjk : j' < ks.length := by omega
    obtain ⟨w1, e1, tk', e2⟩ := rv.get (i := j') (x := V.int ks[j']) (by rw [List.getElem?_map, List.getElem?_eq_getElem hjk]; rfl)
    have e0 : (0 + (j' : Int) * 1).toNat = j' := by omega
    have eg : ks.getD (0 + (j' : Int) * 1).toNat 0 = ks[j'] := by
      rw [e0, List.getD_eq_getElem?_getD, List.getElem?_eq_getElem hjk]
      rfl
    show wpAny _ _ _ (KeyPure (.int (ks.getD (0 + (j' : Int) * 1).toNat 0)) _) _ _
    rw [eg]
    refine lam_turn (s := { s2 with heap := h, toks := tk }) (its := its.toArray) (t' := tk') hr.depth (up _ _ hf) hk hco hgen hnc hy hx hcl ?_ (NdefX.codeO_at I3.hok hc) I3.nolimit pl.isList (hbind _ _ _ _ _ _) (by omega) (by omega) ?_ dx dy dc
    · obtain ⟨o, h3, h4⟩ := hc2
      exact ⟨o, up _ _ h3, h4⟩
    · rw [e0, ← e2]
      simpa using e1
  · have I3 : Inv X pins σ H2 { s2 with heap := h1, toks := tk } := I2.kept kp1
    have hlen2 := hei.length
    have ok : ObjOk X.prog X.w (upd H2 p (.lst ((byKey (fun j => ks.getD j.toNat 0) ((List.range n).map fun (j : Nat) => 0 + (j : Int) * 1)).map V.int))) h' p (.lst ((byKey (fun j => ks.getD j.toNat 0) ((List.range n).map fun (j : Nat) => 0 + (j : Int) * 1)).map V.int)) := by
      refine ⟨?_, out, c', each_vals hei, ho2⟩
      rw [List.length_map, ← hlen2, hlen]
      exact Nat.le_trans hn (by decide)
    exact ⟨.ref p, _, I3.laid (t' := tk) kp2 (Nat.le_of_eq hp) ok, rfl, q p H2 k2 tb2 nc2 (I3.hok.fresh (Nat.le_of_eq hp))⟩
/-- range(n), as a value -/
def rRng1 : List V → Hp → VK → Prop := fun vs H Q => ∃ n, vs = [V.int n] ∧ ∀ p, H p = none → Q (.ref p) (upd H p (.rng 0 n))
theorem cr_rng1 {X : Cx} : CallR X (.type "range") rRng1 := by
  intro pins s σ H vs us Q I r h
  obtain ⟨n, rfl, go⟩ := h
  match us, r with
  | [u], .cons ⟨t, e⟩ .nil =>
    subst e
    have ok : ObjOk X.prog X.w (upd H s.heap.objs.size (.rng 0 n)) (s.heap.push { cls := .type "range", data := .fields #[.int 0 s.toks, .int n t, .int 1 (s.toks + 1)] }) s.heap.objs.size (.rng 0 n) := ⟨_, _, _, Heap.get?_push_size _ rfl⟩
    exact call_range_1 ⟨.ref s.heap.objs.size, _, I.laid (t' := s.toks + 2) (fun b o z => Heap.get?_push_of_some _ z) (Nat.le_refl _) ok, rfl, go _ (I.hok.fresh (Nat.le_refl _))⟩
end Kt


set_option autoImplicit true
set_option Elab.async false
set_option linter.all false
set_option maxRecDepth 100000
set_option maxHeartbeats 4000000
/-! set(xs) of a list of ints: a set that can be walked. -/
namespace Kt
open PySem PySem.Spec L2 PyProof.Rows
abbrev sOb (w : World) : Obj := { cls := .type "set", dict := none, data := .set #[] 0 (.fresh 0 0 (!w.params.followText "set-order")) }
section
variable {P : Program} {w : World} {A : Around} {E : Value → Shared → Prop} {s : Shared}
theorem set_ofL {p : Addr} {vs : Array Value} (ks : List Int) {Q : Value → Shared → Prop} (nh : A.handled = none) (lp : s.heap.IsList p vs) (ik : IntsAre vs.toList ks) (bd : ks.length + 1 < scanBound)
    (go : ∀ (g : Heap) (tk n : Nat), SetR w g s.heap.objs.size (fun j => decide (j ∈ ks)) n → n ≤ ks.length → (∀ b o, s.heap.get? b = some o → g.get? b = some o) → Q (.ref s.heap.objs.size) { s with heap := g, toks := tk }) :
    wpAny (model P w) A (call (.type "set") [.ref p]) Q E s := by
  have nk : vs.size = ks.length := by
    have z := IntsAre.length ik
    rwa [Array.length_toList] at z
  obtain ⟨c0, tl0, mro0⟩ := F.called_set.mro
  have md := F.called_set.made
  have sb := F.called_set.sub
  refine wpAny_call <| codeAny_of_tree ?_
  show wpAny _ _ (callAny (.type "set") ⟨[.ref p], []⟩) _ _ _
  refine wpAny_pure ⟨Code.quiet_builtin _ (by decide +kernel), ?_⟩
  refine codeAny_builtin F.entry_type_call ?_
  rw [Around.under_plain (weight_type_call_type "set" [.ref p] []) rfl]
  have nt := F.called_set.notType
  have cc := F.called_set.canCreate
  have tc := F.typeCall_set_1 (.ref p)
  repeat any_goals first | assumption | wp_step
  refine codeAny_mono (code_set_led1 (.ref p) (E := E) (Q₁ := fun u z => u = .ref s.heap.objs.size ∧ z = { s with heap := s.heap.push (sOb w) }) ⟨rfl, rfl⟩) fun r z hr => ?_
  match r, hr with
  | .error e, hr => exact hr
  | .ok .next, hr => exact hr.elim
  | .ok .brk, hr => exact hr.elim
  | .ok .cont, hr => exact hr.elim
  | .ok (.ret u), ⟨eu, ez⟩ =>
    subst eu
    subst ez
    have at0 : (s.heap.push (sOb w)).get? s.heap.objs.size = some (sOb w) := Heap.get?_push_size _ rfl
    have ty0 : Shared.TypeIs { s with heap := s.heap.push (sOb w) } (.ref s.heap.objs.size) "set" := ⟨_, at0, rfl⟩
    have li := F.called_set.init.lookup
    have bi := F.called_set.init.bind (.ref s.heap.objs.size)
    repeat any_goals first | assumption | wp_step
    refine codeAny_mono (codeAny_call_builtin (R := wants (fun r z => r = .none ∧ ∃ g tk n, z = { s with heap := g, toks := tk } ∧ SetR w g s.heap.objs.size (fun j => decide (j ∈ ks)) n ∧ n ≤ ks.length ∧ ∀ b o, s.heap.get? b = some o → g.get? b = some o) E)
      F.called_set.init.plain F.entry_set_init (check_set_init_1 ty0 ?_)) fun r2 z2 hr2 => ?_
    · obtain ⟨⟨oc, od, odt, osl⟩, po, pc, pn, pd⟩ := lp
      simp only at pc pd
      subst pc
      subst pd
      have po1 : (s.heap.push (sOb w)).get? p = some { cls := .type "list", dict := od, data := .seq vs pn, slots := osl } := Heap.get?_push_of_some _ po
      have s1 := F.sub_list_set
      have s2 := F.sub_list_frozenset
      have nd : (Value.type "list" == Value.type "dict") = false := by decide +kernel
      have lp1 : (s.heap.push (sOb w)).IsList p vs := ⟨_, po1, rfl, pn, rfl⟩
      unfold Builtin.«set.__init__» noKeywords
      unfold Builtin.Frozenset.updateFrom
      generalize eI : pyIter = PI
      wp_walk
      subst eI
      refine wpAny_pyIter_list lp1 ?_
      refine wpAny_bind <| wpAny_runValue ?_
      have lt0 : p < s.heap.objs.size := Heap.lt_size po
      have nh3 : A.in1.in1.in1.handled = none := nh
      have sz1 : (s.heap.push (sOb w)).objs.size = s.heap.objs.size + 1 := Heap.size_push ..
      have up1 : ∀ {b : Nat}, b < s.heap.objs.size → b ≠ (s.heap.push (sOb w)).objs.size := fun {b} l => by
        rw [sz1]
        exact Nat.ne_of_lt (Nat.lt_succ_of_lt l)
      have ne1 : p ≠ (s.heap.push (sOb w)).objs.size := up1 lt0
      have out1 : s.heap.objs.size ∉ [(s.heap.push (sOb w)).objs.size, p] := fun h => by
        rcases List.mem_cons.mp h with h | h
        · rw [sz1] at h
          exact Nat.ne_of_lt (Nat.lt_succ_self _) h
        · exact Nat.ne_of_gt lt0 (List.mem_singleton.mp h)
      have vals : ∀ (i : Nat) (v : Value), vs[i]? = some v → ∃ k t, ks[i]? = some k ∧ v = .int k t := fun i v hv => by
        have il : i < ks.length := by
          rw [← nk]
          exact (Array.getElem?_eq_some_iff.mp hv).1
        obtain ⟨t, e⟩ := IntsAre.int_at ik i v ((Array.getElem?_toList).trans hv)
        have e2 : ks.getD i 0 = ks[i] := by
          rw [List.getD_eq_getElem?_getD, List.getElem?_eq_getElem il]
          rfl
        exact ⟨ks[i], t, List.getElem?_eq_getElem il, by rw [e, e2]⟩
      refine set_update_ints ((Walks.list nh3 _ p ne1 vs).toS) s.heap.objs.size out1 ks nk bd vals (vs.size - 0) 0 _ (by omega) (Nat.zero_le _) ⟨⟨_, Heap.get?_push_size _ rfl, rfl, rfl⟩, lp1.push _⟩ ?start ?fin
      case start => exact ⟨0, Nat.le_refl 0, setR_new_at (Heap.get?_push_of_some _ at0)⟩
      case fin =>
        intro z n mv nl sr
        obtain ⟨g, gg, dd, tk, oo⟩ := z
        have e1 : gg = s.gens := mv.gens
        have e2 : dd = s.drawn := mv.drawn
        have e3 : oo = s.os := mv.os
        subst e1 e2 e3
        show wpAny _ _ _ _ _ _
        refine wpAny_pure ?_
        show wpAny _ _ (ret Value.none) _ _ (_ : Shared)
        refine wpAny_pure ⟨rfl, g, tk, n, rfl, sr, nk ▸ nl, fun b o e => ?_⟩
        have bl : b < s.heap.objs.size := Heap.lt_size e
        refine mv.heap b o (fun h => ?_) (Heap.get?_push_of_some _ (Heap.get?_push_of_some _ e))
        rcases List.mem_cons.mp h with h | h
        · exact Nat.ne_of_lt bl h
        · exact up1 bl (List.mem_singleton.mp h)
    · match r2, hr2 with
      | .error e, hr2 => exact hr2
      | .ok .next, hr2 => exact hr2.elim
      | .ok .brk, hr2 => exact hr2.elim
      | .ok .cont, hr2 => exact hr2.elim
      | .ok (.ret v), ⟨ev, g, tk, n, eg, sr, nl, kp⟩ =>
        subst ev
        subst eg
        repeat any_goals first | assumption | wp_step
        exact go _ _ _ sr nl kp
end
section
variable {X : Cx}
/-- set(xs), xs a list of ints -/
def rSetOfL (K : PySem.W.Frag) (w : World) : List V → Hp → VK → Prop := fun vs H Q => ∃ (a : Addr) (ks : List Int), vs = [V.ref a] ∧ SqL K H a (ks.map V.int) ∧ ks.length + 1 < scanBound ∧
  ∀ (p : Addr) (n : Nat), H p = none → n ≤ ks.length → Q (.ref p) (upd H p (SetO w p (fun j => decide (j ∈ ks)) n))
theorem ints_vals : ∀ {ks : List Int} {us : List Value}, Vals (ks.map V.int) us → IntsAre us ks
  | [], _, .nil => .nil
  | k :: ks, _, .cons ⟨t, e⟩ r => by
    subst e
    exact .cons _ _ (ints_vals r)
theorem cr_setOfL (hc : X.calm = true) : CallR X (.type "set") (rSetOfL X.K X.w) := by
  intro pins s σ H vs us Q I r h
  obtain ⟨a, ks, rfl, ha, bd, go⟩ := h
  rw [Vals.ref1 r]
  obtain ⟨its, rv, pl, _⟩ := I.list ha
  refine set_ofL ks (I.ok.hd hc) pl.isList (by simpa using ints_vals rv) bd fun g tk n sr nl up => ?_
  exact ⟨.ref _, _, I.laid (t' := tk) up (Nat.le_refl _) (setO_new sr), rfl, go _ n (I.hok.fresh (Nat.le_refl _)) nl⟩
end
end Kt


set_option autoImplicit true
set_option Elab.async false
set_option linter.all false
set_option maxRecDepth 100000
set_option maxHeartbeats 4000000
/-! sorted(found) of a set of ints, however many. -/
namespace Kt
open PySem PySem.Spec L2 PyProof.Rows
section
variable {P : Program} {w : World} {A : Around} {E : Value → Shared → Prop} {s : Shared} {a : Addr}
theorem sorted_setB {S : Int → Bool} {n : Nat} {Q : Value → Shared → Prop} (R : SetR w s.heap a S n) (nh : A.handled = none)
    (go : ∀ s2 p (arr : Array Value) (c : Nat) (ns : List Int), (∀ b u, s.heap.get? b = some u → s2.heap.get? b = some u) → s2.gens = s.gens → s2.os = s.os → s.heap.objs.size ≤ p →
      s2.heap.get? p = some (seqObj "list" arr c) → IntsAre arr.toList ns → ns.Pairwise (· < ·) → (∀ k, k ∈ ns ↔ S k = true) → ns.length = n → Q (.ref p) s2) :
    wpAny (model P w) A (call (.builtin "sorted") [.ref a]) Q E s := by
  have R0 := R
  obtain ⟨ob, rows, num, tab, r1, r2, r3, r4, r5, r6, r7, r8, r9, r10, r11⟩ := R0
  have begin_ := args_sorted1 (.ref a)
  refine Calls.call_function_entry kind_sorted
    plain_sorted entry_sorted begin_ ?_
  unfold Builtin.«sorted»
  refine wpAny_bind
    (m := checkCount "sorted" 1 1 _) (wpAny_pure ?_)
  have in_set : SetAt s.heap a rows num tab := ⟨ob, r1, r2.1, r3⟩
  refine wpAny_bind (collect_set (A := A.in1) nh in_set
    r8 r7 r10 r11 fun s1 held keep1 big1 gens1 os1 perm1 => ?_)
  have len1 : held.length = n := (perm1.length_eq).trans ((List.length_map _).trans (Array.length_toList.trans r9))
  have small1 : held.length ≤ sizeLine := by
    rw [len1, ← r9, sizeLine_eq]
    have : scanBound = 4096 := rfl
    omega
  have each1 : ∀ v ∈ held, ∃ k tk, v = Value.int k tk := fun v hv => by
    obtain ⟨e, he, q⟩ := List.mem_map.mp (perm1.mem_iff.mp hv)
    obtain ⟨k, tk, h1, _⟩ := r4 e he
    exact ⟨k, tk, q.symm.trans h1⟩
  have ints1 := ints_of held each1
  have keys1 : (held.map Builtin.Re.reRawOf).Perm (rows.toList.map keyOf) := by
    have q := perm1.map Builtin.Re.reRawOf
    rwa [List.map_map] at q
  refine wpAny_bind
    (wpAny_newList ?_ small1)
  have new1 : (s1.heap.push (seqObj "list" held.toArray 0)).get? s1.heap.objs.size
      = some (seqObj "list" held.toArray 0) := Heap.get?_push_size _ rfl
  refine wpAny_bind (wpAny_holding (wpAny_call_entry slot_list_sort ⟨_, new1, rfl⟩ entry_list_sort
    (SrtO.list_sort_ord SrtO.swo_int new1 small1 (fun h2 => SrtO.ints_sortable ints1 h2) fun out h1 h2 => ⟨_, rfl, ?_⟩)
    (args_list_sort _)))
  obtain ⟨k1, k2, k3⟩ := SrtO.ints_out ints1 h1 h2
  obtain ⟨c, hc⟩ := sortedHeap_at (out := out.toArray) new1
  have all2 : (out.map SrtO.iv).Perm (rows.toList.map keyOf) := k2.trans keys1
  have up2 := lt_of_le_nodup _ k3 (all2.nodup_iff.mpr r5)
  have old2 : ∀ b u, s.heap.get? b = some u → (sortedHeap (s1.heap.push (seqObj "list" held.toArray 0)) s1.heap.objs.size held out.toArray).get? b = some u := fun b u e => by
    have q := keep1 b u e
    have lt := Heap.lt_size q
    rw [sortedHeap_old (Nat.ne_of_lt lt)
      (by rw [size_push']; exact Nat.lt_succ_of_lt lt)]
    exact Heap.get?_push_of_some _ q
  refine wpAny_pure ⟨_, rfl, go _ s1.heap.objs.size out.toArray c (out.map SrtO.iv) old2 gens1 os1 big1 hc k1 up2 (fun k => ?_) ?_⟩
  · rw [all2.mem_iff, r6 k]
  · rw [all2.length_eq, List.length_map, Array.length_toList, r9]
end
section
variable {X : Cx}
/-- sorted(found), ints, fewer than the model's bound of sets -/
def rSortedSetB (w : World) : List V → Hp → VK → Prop := fun vs H Q => ∃ (a : Addr) (S : Int → Bool) (n : Nat), vs = [V.ref a] ∧ H a = some (SetO w a S n) ∧
  ∀ (ns : List Int) (p : Addr), ns.Pairwise (· < ·) → (∀ k : Int, k ∈ ns ↔ S k = true) → ns.length = n → H p = none → Q (.ref p) (upd H p (.lst (ns.map V.int)))
theorem cr_sortedSetB (hc : X.calm = true) : CallR X (.builtin "sorted") (rSortedSetB X.w) := by
  intro pins s σ H vs us Q I r h
  obtain ⟨a, S, n, rfl, ha, q⟩ := h
  have R := setO_get I ha
  rw [Vals.ref1 r]
  have nb : n < scanBound := by
    obtain ⟨_, _, _, _, _, _, _, _, _, _, r7, _, r9, _⟩ := R
    omega
  refine sorted_setB R (I.ok.hd hc) fun s2 p arr c ns keep g o big hg hi up mem len => ?_
  have small : (ns.map V.int).length ≤ sizeLine := by
    rw [List.length_map, len, sizeLine_eq]
    have : scanBound = 4096 := rfl
    omega
  have free : H p = none := I.hok.fresh big
  have J : Inv X pins σ (upd H p (.lst (ns.map V.int))) { s with heap := s2.heap, gens := s2.gens, drawn := s2.drawn, toks := s2.toks } :=
    I.call (ch := []) (Un.laid keep big free) (I.hok.laid keep big ⟨small, arr.toList, c, vals_of_ints hi, hg⟩)
      (by rw [g]; exact I.bare) (fun _ z => nomatch z)
  have same : s2 = { s with heap := s2.heap, gens := s2.gens, drawn := s2.drawn, toks := s2.toks } := by
    cases s2
    cases s
    cases o
    rfl
  rw [same]
  exact ⟨V.ref p, _, J, rfl, q ns p up mem len free⟩
end
end Kt


set_option autoImplicit true
set_option Elab.async false
set_option linter.all false
set_option maxRecDepth 100000
set_option maxHeartbeats 2000000
/-! {an int for x in ..}: the set comprehension of ints, with no test. -/
namespace Kt
open PySem PySem.Spec PyProof.Rows L2 PpSet
section
variable {X : Cx}
theorem intoI {pins : List (Addr × Obj)} {σ : L2.St} {H : Hp} {s : Shared} {E : Value → Shared → Prop} {D : Addr} {S : Int → Bool} {n : Nat} {k : Int} {tk : Tok} {Q : Value → Shared → Prop} (I : Inv X pins σ H s) (hD : H D = some (SetO X.w D S n)) (room : n + 1 < scanBound)
    (h : ∀ s', Inv X pins σ (upd H D (SetO X.w D (fun j => S j || decide (j = k)) (if S k = true then n else n + 1))) s' → Q .none s') : wpAny (model X.prog X.w) X.A (call (.builtin "set.add") [.ref D, .int k tk]) Q E s :=
  setR_add (setO_get I hD) room fun h' sb new => h _ (I.write (e := D) (t' := s.toks + 1) (by rw [hD]; trivial) (.inl rfl) (fun b u hb hu => (sb.2 b hb).trans hu) (by obtain ⟨o, _, _, _, ho, _⟩ := new; exact ⟨o, ho⟩) (setO_new new))
/-- the turn's end -/
def putI (w : World) (D : Addr) (Nx : Hp → Prop) : VK := fun y H => ∃ (c : Int) (S : Int → Bool) (n : Nat), y = .int c ∧ H D = some (SetO w D S n) ∧ n + 1 < scanBound ∧ Nx (upd H D (SetO w D (fun j => S j || decide (j = c)) (if S c = true then n else n + 1)))
def tScI (w : World) (wi : TI) (g : TG) (te : TE) (vs : List Nat) : TE := fun σ H Q => wi σ H fun J H1 => ∀ D, H1 D = none → ∃ Wv : Nat → Nat → Hp → Prop, (∃ m, Wv 0 m (upd H1 D (SetO w D (fun _ => false) 0))) ∧ ∀ i m H, Wv i m H →
  (J.stop i H ∧ Q (.ref D) H) ∨ (J.go i H ∧ ∃ Nx : Hp → Prop, (∀ H', Nx H' → ∃ m', m' < m ∧ Wv (i + 1) m' H') ∧ ∀ x H', J.yld i H x H' → g x (wipe σ vs) H' fun σ2 H2 => wipe σ2 vs = wipe σ vs ∧ te σ2 H2 (putI w D Nx))
/-- the empty set that a comprehension starts with -/
abbrev emptyS (w : World) : Obj := { cls := .type "set", dict := none, data := .set #[] 0 (.fresh 0 0 (!w.params.followText "set-order")) }
theorem pe_scI {elt tg iter : Expr} {scope : Scope} {own : List (PySem.Str × Nat)} {pos : Pos} {wi : TI} {g : TG} {te : TE} (hc : X.calm = true) (hN : X.N.Nodup) (hi : PI X tg iter wi) (ok : BlkOk X.N X.env.scope scope own)
    (hg : ∀ (s : Shared) (H : Hp) (C : Addr) (cl : List (PySem.Str × Addr)) (fp : List Addr), PG (X.blk s H scope (compEnvC scope cl C X.env) fp) tg g)
    (he : ∀ (s : Shared) (H : Hp) (C : Addr) (cl : List (PySem.Str × Addr)) (fp : List Addr), PE (X.blk s H scope (compEnvC scope cl C X.env) fp) elt te) (hs : ∀ x, foldedSetIterable iter X.env x = pure x := by intro _; rfl) :
    PE X (.SetComp elt [⟨tg, iter, [], 0⟩] scope pos) (tScI X.w wi g te (own.map (·.2))) := by
  refine ⟨fun pins s σ H Q I h => ?_⟩
  rw [eval_SetComp]
  have free : ∀ y ∈ scope.names, y.2 = .free → ∃ c, X.env.cells.lookup y.1 = some c := fun y hy e => (ok.free y hy e).elim (fun k => I.ok.has _ (.inl k)) fun k => I.ok.has _ (.inr k)
  refine wpAny_comprehension_free rfl hs (closure_ok free) ok.kind (fun y hy e => by rw [ok.uniq y hy, e]) (thn (hi.run pins s σ H _ I h) fun xv s1 hx => thn hx fun itv s2 ⟨it, fp, tn, J, H2, e, I2, T, st2, f2, q⟩ => ?_)
  subst e
  refine newSet_ok (newEnv_comp ?_)
  -- the new set lies at D
  obtain ⟨D, hD⟩ : ∃ D, s2.heap.objs.size = D := ⟨_, rfl⟩
  obtain ⟨Wv, ⟨m0, w0⟩, turn⟩ := q D (I2.hok.fresh (Nat.le_of_eq hD))
  obtain ⟨H3, hH3⟩ : ∃ H3, upd H2 D (SetO X.w D (fun _ => false) 0) = H3 := ⟨_, rfl⟩
  obtain ⟨s3, h3⟩ : ∃ s3 : Shared, ({ s2 with heap := s2.heap.push (emptyS X.w) } : Shared) = s3 := ⟨_, rfl⟩
  have hp3 : s3.heap = s2.heap.push (emptyS X.w) := by rw [← h3]
  have I3 : Inv X pins σ H3 s3 := by
    subst h3 hH3 hD
    exact I2.laid (t' := s2.toks) (fun b o e => Heap.get?_push_of_some _ e) (Nat.le_refl _) (setO_new (setR_fresh X.w))
  have old : ∀ b ∈ fp, FpOk X pins H3 b ∧ b < s3.heap.objs.size := fun b hb => by
    obtain ⟨o, e, _⟩ := T.obj _ _ st2 b hb
    have lt := Heap.lt_size e
    refine ⟨⟨?_, (f2 b hb).2⟩, by rw [hp3, Heap.size_push]; exact Nat.lt_succ_of_lt lt⟩
    rw [← hH3, upd_ne (by rw [← hD]; exact Nat.ne_of_lt lt)]
    exact (f2 b hb).1
  have st3 : tn 0 s3.heap := T.keep _ _ _ st2 fun b _ o e => by rw [hp3]; exact Heap.get?_push_of_some _ e
  have I4 := block_start I3 ok hN old
  have pg := hg s3 H3 s3.heap.objs.size (cellsFrom (s3.heap.objs.size + 1) scope.names (cloFrom X.env.cells scope.names [])) fp
  have pe := he s3 H3 s3.heap.objs.size (cellsFrom (s3.heap.objs.size + 1) scope.names (cloFrom X.env.cells scope.names [])) fp
  rw [hH3] at w0
  have none3 : ∀ b ∈ fp, H3 b = none := fun b hb => (old b hb).1.1
  rw [show ({ s2 with heap := s2.heap.push { cls := .type "set", dict := none, data := .set #[] 0 (.fresh 0 0 (!X.w.params.followText "set-order")) } } : Shared) = s3 from h3]
  rw [show s2.heap.objs.size = D from hD]
  obtain ⟨ce, hce⟩ : ∃ ce, compEnvC scope (cellsFrom (s3.heap.objs.size + 1) scope.names (cloFrom X.env.cells scope.names [])) s3.heap.objs.size X.env = ce := ⟨_, rfl⟩
  have cl : ce.locals = s3.heap.objs.size := by subst hce; rfl
  obtain ⟨s4, h4⟩ : ∃ s4 : Shared, ({ s3 with heap := pushCells (s3.heap.push { cls := .type "dict", data := .dict #[] }) scope.names } : Shared) = s4 := ⟨_, rfl⟩
  have st4 : tn 0 s4.heap := T.keep _ _ _ st3 fun b _ o e => by rw [← h4]; exact pushCells_keeps _ _ _ _ (Heap.get?_push_of_some _ e)
  rw [hce] at I4 pg pe
  rw [h4] at I4
  have fpk : ∀ {σ' : L2.St} {H' : Hp} {s' : Shared}, Inv (X.blk s3 H3 scope ce fp) [] σ' H' s' → (∀ b ∈ fp, H' b = none) → ∀ b ∈ fp, FpOk (X.blk s3 H3 scope ce fp) [] H' b := fun {σ' H' s'} J hn b hb =>
    ⟨hn b hb, (J.ok.exf b hb).1, J.ok.exfs b hb, .inl hb, fun x c e => (J.ok.exf b hb).2 x c e, fun p hp => absurd (show p ∈ ([] : List (Addr × Obj)) ++ [] from hp) (by simp)⟩
  let Lp : Nat → Shared → Prop := fun n s' => ∃ i H', Inv (X.blk s3 H3 scope ce fp) [] (wipe σ (own.map (·.2))) H' s' ∧ tn i s'.heap ∧ (∀ b ∈ fp, H' b = none) ∧ Wv i n H'
  have loop : codeAny (model X.prog X.w) X.A (.compLoop (.SetComp elt [⟨tg, iter, [], 0⟩] scope pos) 0 (.ref it) (.ref D) ce) (compPost (model X.prog X.w) X.A X.xe none (EP X pins σ Q) (.ref D) s3.heap.objs.size) s4 := by
    refine compLoopS_any Lp ?_ m0 ⟨0, H3, I4, st4, none3, w0⟩
    rintro n s5 ⟨i, H5, I5, st5, n5, w5⟩
    rcases turn i n H5 w5 with ⟨stop, qq⟩ | ⟨go, Nx, hNx, step⟩
    · refine thnF (T.done (X.blk s3 H3 scope ce fp) rfl rfl rfl hc i [] s5 _ H5 (fun _ _ => False) I5 (fpk I5 n5) st5 stop) fun r s6 ⟨hr, I6⟩ => ?_
      subst hr
      have I7 : Inv X pins σ H5 s6 := I3.call' (ch := fp) I6.os I6.base I6.hok I6.bare fun b hb => ⟨(old b hb).1.2.2.2.1, (old b hb).1.2.1, (old b hb).1.2.2.2.2.1, (old b hb).1.2.2.2.2.2⟩
      have nC : H5 s3.heap.objs.size = none := cl ▸ (show H5 ce.locals = none from I6.free)
      obtain ⟨m, hn, _⟩ := I6.loc
      refine ⟨m, cl ▸ (show s6.heap.Ns ce.locals m from hn), fun h'' sb => ?_⟩
      obtain ⟨f0, f1, _, f3, f4, f5⟩ := I3.fpOk (Nat.le_refl _) nC
      exact ⟨.ref D, H5, I7.turned (t' := s6.toks) (fun b o hb e => (sb.2 b hb).trans e) f0 f1 f3 f4 f5, rfl, qq⟩
    · refine thnF (T.item (X.blk s3 H3 scope ce fp) rfl rfl rfl hc i [] s5 _ H5 (fun _ _ => False) I5 (fpk I5 n5) st5 go) fun r s6 ⟨u, hr, h6⟩ => ?_
      subst hr
      refine thnF h6 fun _ s7 ⟨x, H7, I7, r7, y7, st7, n7⟩ => ?_
      refine thnF (pg.run _ s7 _ H7 x u _ (I7.pinned (fpk I7 n7) (T.obj _ _ st7)) r7 (step x H7 y7)) fun _ s8 ⟨σ8, H8, I8, hw8, q8⟩ => ?_
      refine thnF ((pts_nil (X := X.blk s3 H3 scope ce fp)).run _ s8 σ8 H8 (fun b H => b = true ∧ H = H8) I8 ⟨rfl, rfl⟩) fun b s9 ⟨H9, I9, hb, hH9⟩ => ?_
      subst hb
      subst hH9
      simp only [if_true]
      refine thnF (pe.run _ s9 σ8 _ _ I9 q8) fun z s10 ⟨yv, H10, I10, r10, c, S0, n0, ey, hD10, room, nx⟩ => ?_
      subst ey
      obtain ⟨tk, hz⟩ : ∃ tk, z = Value.int c tk := r10
      subst hz
      refine intoI (X := X.blk s3 H3 scope ce fp) I10 hD10 room fun s11 I11 => ?_
      -- the turn is over
      obtain ⟨m', hm, w'⟩ := hNx _ nx
      have pin : ∀ b ∈ fp, ∀ o, s7.heap.get? b = some o → s11.heap.get? b = some o ∧ _ := fun b hb o e =>
        let z := I11.pin (b, o) (List.mem_append_right _ (List.mem_append_right _ (mem_pinsAt hb e)))
        ⟨z.1, z.2.1⟩
      refine ⟨m', hm, i + 1, _, (I11.unpinned (pins := [])).weak (by rw [← hw8, wipe_length]) (fun j v e => ?_), T.keep _ _ _ st7 fun b hb o e => (pin b hb o e).1, fun b hb => ?_, w'⟩
      · rw [← hw8] at e
        exact (wipe_some e).1
      · obtain ⟨o, e, _⟩ := T.obj _ _ st7 b hb
        exact (pin b hb o e).2
  show codeAny _ _ (.compStart (.SetComp elt [⟨tg, iter, [], 0⟩] scope pos) 0 (.ref it) (.ref D) (compEnvC scope (cellsFrom (s3.heap.objs.size + 1) scope.names (cloFrom X.env.cells scope.names [])) s3.heap.objs.size X.env)) _ { s3 with heap := pushCells (s3.heap.push { cls := .type "dict", data := .dict #[] }) scope.names }
  rw [hce, h4]
  exact codeAny_compStart_set loop (T.self X.A 0 _ _ _ st4 loop)
end
end Kt


set_option autoImplicit false
set_option Elab.async false
set_option autoImplicit false
set_option linter.all false
set_option maxRecDepth 100000
set_option maxHeartbeats 4000000
/-! The data layer: readings over plain data (PyData) instead of slots and heaps. -/
namespace Dt
open PySem L2 Kt

/-! ### data as it lies in the frozen part of the heap -/
mutual
inductive Rep (F : Hp) : V → PyData → Prop
  | non : Rep F .non .none
  | bl (b : Bool) : Rep F (.bl b) (.bool b)
  | int (i : Int) : Rep F (.int i) (.int i)
  | str (x : Str) : Rep F (.str x) (.str x)
  | lst {a : Addr} {xs : List V} {ds : List PyData} : F a = some (.lst xs) → RepA F xs ds → Rep F (.ref a) (.list ds)
  | tup {a : Addr} {xs : List V} {ds : List PyData} : F a = some (.tup xs) → RepA F xs ds → Rep F (.ref a) (.tuple ds)
inductive RepA (F : Hp) : List V → List PyData → Prop
  | nil : RepA F [] []
  | cons {v : V} {vs : List V} {d : PyData} {ds : List PyData} : Rep F v d → RepA F vs ds → RepA F (v :: vs) (d :: ds)
end
mutual
theorem Rep.mono {F F' : Hp} (s : ∀ a o, (∃ xs, o = .lst xs ∨ o = .tup xs) → F a = some o → F' a = some o) : ∀ (d : PyData) (v : V), Rep F v d → Rep F' v d
  | .none, _, h => by cases h; exact .non
  | .bool b, _, h => by cases h; exact .bl b
  | .int i, _, h => by cases h; exact .int i
  | .str x, _, h => by cases h; exact .str x
  | .list ds, _, h => by
    cases h with
    | lst e t => exact .lst (s _ _ ⟨_, .inl rfl⟩ e) (RepA.mono s ds _ t)
  | .tuple ds, _, h => by
    cases h with
    | tup e t => exact .tup (s _ _ ⟨_, .inr rfl⟩ e) (RepA.mono s ds _ t)
  | .dict _, _, h => by cases h
theorem RepA.mono {F F' : Hp} (s : ∀ a o, (∃ xs, o = .lst xs ∨ o = .tup xs) → F a = some o → F' a = some o) : ∀ (ds : List PyData) (vs : List V), RepA F vs ds → RepA F' vs ds
  | [], _, h => by cases h; exact .nil
  | d :: ds, _, h => by
    cases h with
    | cons a b => exact .cons (Rep.mono s d _ a) (RepA.mono s ds _ b)
end
theorem RepA.len {F : Hp} : ∀ {vs : List V} {ds : List PyData}, RepA F vs ds → vs.length = ds.length
  | _, _, .nil => rfl
  | _, _, .cons _ t => by rw [List.length_cons, List.length_cons, t.len]
theorem RepA.get {F : Hp} : ∀ {vs : List V} {ds : List PyData} {i : Nat} {v : V}, RepA F vs ds → vs[i]? = some v → ∃ d, ds[i]? = some d ∧ Rep F v d
  | _, _, _, _, .nil, e => by simp at e
  | _, _, 0, _, .cons r _, e => by simp at e; subst e; exact ⟨_, rfl, r⟩
  | _, _, i + 1, _, .cons _ t, e => by
    obtain ⟨y, h1, h2⟩ := RepA.get (i := i) t (by simpa using e)
    exact ⟨y, by simpa using h1, h2⟩
theorem RepA.get' {F : Hp} : ∀ {vs : List V} {ds : List PyData} {i : Nat} {d : PyData}, RepA F vs ds → ds[i]? = some d → ∃ v, vs[i]? = some v ∧ Rep F v d
  | _, _, _, _, .nil, e => by simp at e
  | _, _, 0, _, .cons r _, e => by simp at e; subst e; exact ⟨_, rfl, r⟩
  | _, _, i + 1, _, .cons _ t, e => by
    obtain ⟨y, h1, h2⟩ := RepA.get' (i := i) t (by simpa using e)
    exact ⟨y, by simpa using h1, h2⟩
theorem RepA.append {F : Hp} : ∀ {vs us : List V} {ds es : List PyData}, RepA F vs ds → RepA F us es → RepA F (vs ++ us) (ds ++ es)
  | _, _, _, _, .nil, s => s
  | _, _, _, _, .cons r t, s => .cons r (RepA.append t s)
theorem RepA.take {F : Hp} : ∀ {vs : List V} {ds : List PyData} (n : Nat), RepA F vs ds → RepA F (vs.take n) (ds.take n)
  | _, _, 0, _ => .nil
  | _, _, _ + 1, .nil => .nil
  | _, _, n + 1, .cons r t => .cons r (RepA.take n t)
theorem RepA.drop {F : Hp} : ∀ {vs : List V} {ds : List PyData} (n : Nat), RepA F vs ds → RepA F (vs.drop n) (ds.drop n)
  | _, _, 0, r => r
  | _, _, _ + 1, .nil => .nil
  | _, _, n + 1, .cons _ t => RepA.drop n t
theorem RepA.reverse {F : Hp} : ∀ {vs : List V} {ds : List PyData}, RepA F vs ds → RepA F vs.reverse ds.reverse
  | _, _, .nil => .nil
  | _, _, .cons r t => by rw [List.reverse_cons, List.reverse_cons]; exact (RepA.reverse t).append (.cons r .nil)
theorem RepA.set {F : Hp} {v : V} {d : PyData} (r : Rep F v d) : ∀ {vs : List V} {ds : List PyData} (i : Nat), RepA F vs ds → RepA F (vs.set i v) (ds.set i d)
  | _, _, _, .nil => .nil
  | _, _, 0, .cons _ t => .cons r t
  | _, _, i + 1, .cons q t => .cons q (RepA.set r i t)
theorem RepA.erase {F : Hp} : ∀ {vs : List V} {ds : List PyData} (i : Nat), RepA F vs ds → RepA F (vs.eraseIdx i) (ds.eraseIdx i)
  | _, _, _, .nil => .nil
  | _, _, 0, .cons _ t => t
  | _, _, i + 1, .cons q t => .cons q (RepA.erase i t)
theorem RepA.ints {F : Hp} : ∀ ns : List Int, RepA F (ns.map V.int) (ns.map PyData.int)
  | [] => .nil
  | n :: ns => .cons (.int n) (RepA.ints ns)
theorem RepA.ofInts {F : Hp} : ∀ {ns : List Int} {vs : List V}, RepA F vs (ns.map PyData.int) → vs = ns.map V.int
  | [], _, h => by cases h; rfl
  | n :: ns, _, h => by
    cases h with
    | cons r t =>
      cases r
      rw [RepA.ofInts t]
      rfl
theorem Rep.dp {K : PySem.W.Frag} {F H : Hp} (s : ∀ a o, (∃ xs, o = .lst xs ∨ o = .tup xs) → F a = some o → H a = some o) {v : V} {d : PyData} (r : Rep F v d) : Dp K H v d := by
  have r' := Rep.mono s d v r
  clear r s
  revert v
  suffices h : (∀ (d : PyData) (v : V), Rep H v d → Dp K H v d) from fun v r => h d v r
  exact go
where
  go : ∀ (d : PyData) (v : V), Rep H v d → Dp K H v d
  | .none, _, h => by cases h; exact .non
  | .bool b, _, h => by cases h; exact .bl b
  | .int i, _, h => by cases h; exact .int i
  | .str x, _, h => by cases h; exact .str x
  | .list ds, _, h => by
    cases h with
    | lst e t => exact .lst (SqL.of e) (goA ds _ t)
  | .tuple ds, _, h => by
    cases h with
    | tup e t => exact .tup (SqT.of e) (goA ds _ t)
  | .dict _, _, h => by cases h
  goA : ∀ (ds : List PyData) (vs : List V), RepA H vs ds → DpAll K H vs ds
  | [], _, h => by cases h; exact .nil
  | d :: ds, _, h => by
    cases h with
    | cons a b => exact .cons (go d _ a) (goA ds _ b)

inductive RepK (F : Hp) : List (L2.Key × V) → List (Int × PyData) → Prop
  | nil : RepK F [] []
  | cons {k : Int} {v : V} {d : PyData} {kvs : List (L2.Key × V)} {ds : List (Int × PyData)} : Rep F v d → RepK F kvs ds → RepK F ((Sum.inl k, v) :: kvs) ((k, d) :: ds)
theorem RepK.mono {F F' : Hp} (s : ∀ a o, (∃ xs, o = .lst xs ∨ o = .tup xs) → F a = some o → F' a = some o) : ∀ {kvs : List (L2.Key × V)} {ds : List (Int × PyData)}, RepK F kvs ds → RepK F' kvs ds
  | _, _, .nil => .nil
  | _, _, .cons r t => .cons (Rep.mono s _ _ r) (RepK.mono s t)
theorem RepK.len {F : Hp} : ∀ {vs : List (L2.Key × V)} {ds : List (Int × PyData)}, RepK F vs ds → vs.length = ds.length
  | _, _, .nil => rfl
  | _, _, .cons _ t => by rw [List.length_cons, List.length_cons, t.len]

/-! ### values, objects, states -/
/-- the world; the tables of code objects, each with the one name that it tells -/
structure Ww where
  w : World
  T : List (Addr × Str)
/-- without the tables -/
def strip (H : Hp) : Hp := fun a => match H a with
  | some (.tbl _) => none
  | o => o
theorem strip_of {H : Hp} {a : Addr} {o : HO} (h : H a = some o) (n : ∀ ts, o ≠ .tbl ts) : strip H a = some o := by
  unfold strip
  rw [h]
  cases o <;> first | rfl | exact absurd rfl (n _)
theorem strip_some {H : Hp} {a : Addr} {o : HO} (h : strip H a = some o) : H a = some o ∧ ∀ ts, o ≠ .tbl ts := by
  unfold strip at h
  split at h
  · cases h
  · next n =>
    refine ⟨h, fun ts z => ?_⟩
    subst z
    exact n ts h
theorem strip_none {H : Hp} {a : Addr} (h : H a = none) : strip H a = none := by
  unfold strip
  rw [h]
theorem none_of_strip {H : Hp} {a : Addr} {o : HO} (h : strip H a = none) (e : H a = some o) : ∃ ts, o = .tbl ts := by
  refine Classical.byContradiction fun n => ?_
  rw [strip_of e fun ts z => n ⟨ts, z⟩] at h
  cases h
/-- the tables are as told; nothing that is held is one -/
structure Tx (T : List (Addr × Str)) (gh : Hp) (nc : Addr → Prop) (F : Hp) (α : Nat → Option Addr) (H : Hp) : Prop where
  tb : LamX.Tabs T H
  fn : ∀ a ts, F a ≠ some (HO.tbl ts)
  gn : ∀ a ts, gh a ≠ some (HO.tbl ts)
  an : ∀ n a, α n = some a → (∀ ts, H a ≠ some (HO.tbl ts)) ∧ NoCode T H a
  gc : ∀ b u, gh b = some u → nc b → NoCode T H b
theorem noCode_of {T : List (Addr × Str)} {H : Hp} {a : Addr} (t : LamX.Tabs T H) (h : ∀ c q, H a ≠ some (LamX.CodeO c q)) : NoCode T H a := fun p hp ts e w' z => by
  obtain ⟨ps, h1, h2, h3⟩ := t p hp
  rw [h1] at e
  cases e
  obtain ⟨c, e1, e2⟩ := h3 w' _ z
  cases e1
  exact h _ _ e2
theorem noCode_tab {T : List (Addr × Str)} {H H' : Hp} {a : Addr} (t : LamX.Tabs T H) (e : ∀ p ∈ T, H' p.1 = H p.1) (n : NoCode T H a) : NoCode T H' a := fun p hp ts h w' z => n p hp ts ((e p hp).symm.trans h) w' z
theorem tabs_upd {T : List (Addr × Str)} {H : Hp} {a : Addr} {u : HO} (t : LamX.Tabs T H) (n1 : ∀ ts, H a ≠ some (HO.tbl ts)) (n2 : NoCode T H a) : LamX.Tabs T (upd H a u) := fun p hp => by
  obtain ⟨ps, h1, h2, h3⟩ := t p hp
  refine ⟨ps, (upd_ne fun z => n1 ps (by rw [← z]; exact h1)).trans h1, h2, fun pos cv hc => ?_⟩
  obtain ⟨c, e1, e2⟩ := h3 pos cv hc
  exact ⟨c, e1, (upd_ne fun z => n2 p hp ps h1 pos (by rw [hc, e1, z])).trans e2⟩
theorem Tx.same {T : List (Addr × Str)} {gh F : Hp} {nc : Addr → Prop} {α : Nat → Option Addr} {H H' : Hp} (t : Tx T gh nc F α H) (e : Same H H') (al : ∀ n a, α n = some a → ∃ u, H a = some u) : Tx T gh nc F α H' :=
  ⟨t.tb.ext e, t.fn, t.gn, fun n a q => ⟨fun ts z => by
    obtain ⟨u, hu⟩ := al n a q
    have := e _ _ hu
    rw [z] at this
    cases this
    exact (t.an n a q).1 ts hu, noCode_tab t.tb (fun p hp => by
    obtain ⟨ps, h1, _⟩ := t.tb p hp
    rw [h1]
    exact e _ _ h1) (t.an n a q).2⟩, fun b u q z => noCode_tab t.tb (fun p hp => by
    obtain ⟨ps, h1, _⟩ := t.tb p hp
    rw [h1]
    exact e _ _ h1) (t.gc b u q z)⟩
theorem Tx.upd {T : List (Addr × Str)} {gh F : Hp} {nc : Addr → Prop} {α : Nat → Option Addr} {H : Hp} {a : Addr} {u : HO} (t : Tx T gh nc F α H) (n1 : ∀ ts, H a ≠ some (HO.tbl ts)) (n2 : NoCode T H a) (nu : ∀ ts, u ≠ HO.tbl ts) : Tx T gh nc F α (L2.upd H a u) :=
  ⟨tabs_upd t.tb n1 n2, t.fn, t.gn, fun n b q => ⟨fun ts z => by
    by_cases y : b = a
    · subst y
      rw [upd_same] at z
      exact nu ts (Option.some.inj z)
    · rw [upd_ne y] at z
      exact (t.an n b q).1 ts z, noCode_tab t.tb (fun p hp => upd_ne fun z => by
    obtain ⟨ps, h1, _⟩ := t.tb p hp
    exact n1 ps (by rw [← z]; exact h1)) (t.an n b q).2⟩, fun b u q z => noCode_tab t.tb (fun p hp => upd_ne fun z => by
    obtain ⟨ps, h1, _⟩ := t.tb p hp
    exact n1 ps (by rw [← z]; exact h1)) (t.gc b u q z)⟩
theorem Tx.updO {T : List (Addr × Str)} {gh F : Hp} {nc : Addr → Prop} {α : Nat → Option Addr} {H : Hp} {a : Addr} {o u : HO} (t : Tx T gh nc F α H) (h : H a = some o) (n1 : ∀ ts, o ≠ HO.tbl ts) (n2 : ∀ c q, o ≠ LamX.CodeO c q) (nu : ∀ ts, u ≠ HO.tbl ts) : Tx T gh nc F α (L2.upd H a u) :=
  t.upd (fun ts z => n1 ts (Option.some.inj (h.symm.trans z))) (noCode_of t.tb fun c q z => n2 c q (Option.some.inj (h.symm.trans z))) nu
theorem Tx.frz {T : List (Addr × Str)} {gh F : Hp} {nc : Addr → Prop} {α : Nat → Option Addr} {H : Hp} {p : Addr} {o : HO} (t : Tx T gh nc F α H) (no : ∀ ts, o ≠ HO.tbl ts) : Tx T gh nc (L2.upd F p o) α H :=
  ⟨t.tb, fun a ts z => by
    by_cases y : a = p
    · subst y
      rw [upd_same] at z
      exact no ts (Option.some.inj z)
    · rw [upd_ne y] at z
      exact t.fn a ts z, t.gn, t.an, t.gc⟩
/-- a value: frozen data; a frozen dict; the n-th object of this def's own; the law's draws -/
inductive Vd where
  | d (x : PyData) | dc (kvs : List (Int × PyData)) | p (n : Nat) | dr
/-- an object that may change: a list, a dict of data, a set of ints -/
inductive Ob where
  | lst (xs : List Vd) | dk (kvs : List (Int × PyData)) | st (S : Int → Bool) (n : Nat)
abbrev Drw := Option Int
structure Sd where
  r : List (Option Vd)
  o : List (Option Ob)
  d : Drw
/-- what is fixed through a def's run: the heap at its start, where the draws lie -/
structure Gm where
  h : Hp
  f : Hp
  δ : Option Addr
  z : Hp := fun _ => none
  nc : Addr → Prop := fun _ => False
/-- the frozen part, where the own objects lie, the dicts that are walked now -/
structure Wd where
  F : Hp
  α : Nat → Option Addr
  lk : List Addr
def Ext (W W' : Wd) : Prop := (∀ a o, W.F a = some o → W'.F a = some o) ∧ (∀ n a, W.α n = some a → W'.α n = some a) ∧ W'.lk = W.lk
theorem Ext.refl (W : Wd) : Ext W W := ⟨fun _ _ e => e, fun _ _ e => e, rfl⟩
theorem Ext.trans {W W1 W2 : Wd} (a : Ext W W1) (b : Ext W1 W2) : Ext W W2 := ⟨fun x o e => b.1 x o (a.1 x o e), fun n x e => b.2.1 n x (a.2.1 n x e), b.2.2.trans a.2.2⟩
def RepV (W : Wd) (δ : Option Addr) : V → Vd → Prop
  | v, .d x => Rep W.F v x
  | v, .dc kvs => ∃ a ks, v = .ref a ∧ W.F a = some (.dK ks) ∧ RepK W.F ks kvs
  | v, .p n => ∃ a, v = .ref a ∧ W.α n = some a
  | v, .dr => ∃ a, v = .ref a ∧ δ = some a
theorem RepV.ext {W W' : Wd} {δ : Option Addr} (e : Ext W W') {v : V} : ∀ {x : Vd}, RepV W δ v x → RepV W' δ v x
  | .d x, h => Rep.mono (fun a o _ q => e.1 a o q) x v h
  | .dc kvs, ⟨a, ks, h1, h2, h3⟩ => ⟨a, ks, h1, e.1 _ _ h2, h3.mono fun a o _ q => e.1 a o q⟩
  | .p n, ⟨a, h1, h2⟩ => ⟨a, h1, e.2.1 _ _ h2⟩
  | .dr, h => h
theorem repVs_ext {W W' : Wd} {δ : Option Addr} (e : Ext W W') {vs : List V} {xs : List Vd} (h : Paired (RepV W δ) vs xs) : Paired (RepV W' δ) vs xs := Paired.mapP h fun _ _ q => q.ext e
def RepOb (w : Ww) (W : Wd) (δ : Option Addr) (H : Hp) (a : Addr) : Ob → Prop
  | .lst xs => ∃ vs, H a = some (.lst vs) ∧ Paired (RepV W δ) vs xs
  | .dk kvs => ∃ ks, H a = some (.dK ks) ∧ RepK W.F ks kvs
  | .st S n => H a = some (SetO w.w a S n)
theorem RepOb.stay {w : Ww} {W W' : Wd} {δ : Option Addr} {H H' : Hp} {a : Addr} (e : Ext W W') (h : H' a = H a) : ∀ {o : Ob}, RepOb w W δ H a o → RepOb w W' δ H' a o
  | .lst xs, ⟨vs, h1, h2⟩ => ⟨vs, h.trans h1, repVs_ext e h2⟩
  | .dk kvs, ⟨ks, h1, h2⟩ => ⟨ks, h.trans h1, h2.mono fun a o _ q => e.1 a o q⟩
  | .st S n, h1 => h.trans h1
theorem RepOb.some {w : Ww} {W : Wd} {δ : Option Addr} {H : Hp} {a : Addr} : ∀ {o : Ob}, RepOb w W δ H a o → ∃ u, H a = some u
  | .lst xs, ⟨vs, h1, _⟩ => ⟨_, h1⟩
  | .dk kvs, ⟨ks, h1, _⟩ => ⟨_, h1⟩
  | .st S n, h1 => ⟨_, h1⟩

theorem repOb_notab {w : Ww} {W : Wd} {δ : Option Addr} {H : Hp} {a : Addr} : ∀ {o : Ob}, RepOb w W δ H a o → ∀ ts, H a ≠ some (HO.tbl ts)
  | .lst xs, ⟨vs, h1, _⟩, ts, z => by rw [h1] at z; cases z
  | .dk kvs, ⟨ks, h1, _⟩, ts, z => by rw [h1] at z; cases z
  | .st S n, h1, ts, z => by
    have h1 : H a = some (SetO w.w a S n) := h1
    rw [h1] at z
    cases z
/-- the state of plain data is held by slots and heap -/
structure M (w : Ww) (G : Gm) (W : Wd) (s : Sd) (σ : List (Option V)) (H : Hp) : Prop where
  fz : ∀ a o, W.F a = some o → a ∉ W.lk → H a = some o
  lk : ∀ a ∈ W.lk, ∃ ks od, W.F a = some (.dK ks) ∧ H a = some (.frz od (.dK ks))
  fr : ∀ b o, G.h b = some o → G.δ ≠ some b → b ∉ W.lk → H b = some o
  len : s.r.length = σ.length
  sl : ∀ (i : Nat) (x : Vd), s.r[i]? = some (some x) → ∃ v, σ[i]? = some (some v) ∧ RepV W G.δ v x
  ob : ∀ (n : Nat) (o : Ob), s.o[n]? = some (some o) → ∃ a, W.α n = some a ∧ W.F a = none ∧ RepOb w W G.δ H a o
  al : ∀ (n : Nat) (a : Addr), W.α n = some a → n < s.o.length ∧ G.h a = none ∧ G.δ ≠ some a ∧ ∃ u, H a = some u
  inj : ∀ m n a, W.α m = some a → W.α n = some a → m = n
  dw : ∀ a, G.δ = some a → ∃ t, s.d = some t ∧ W.F a = none ∧ ∃ n k c, H a = some (DrO n k c) ∧ 0 ≤ k ∧ k ≤ t
  dn : ∀ t, s.d = some t → ∃ a, G.δ = some a
  nf : ∀ a o, W.F a = some o → G.f a = some o ∨ G.h a = none
  gf : ∀ a o, G.f a = some o → ∃ u, G.h a = some u
  lz : ∀ b od u, G.z b = some (.frz od u) → H b = some (.frz od u)
  tx : Tx w.T G.h G.nc W.F W.α H

section
variable {w : Ww} {G : Gm} {W : Wd} {s : Sd} {σ : List (Option V)} {H : Hp}
theorem M.fz' (m : M w G W s σ H) : ∀ a o, (∃ xs, o = HO.lst xs ∨ o = .tup xs) → W.F a = some o → H a = some o := fun a o ⟨xs, h⟩ e => by
  refine m.fz a o e fun hl => ?_
  obtain ⟨ks, od, h1, _⟩ := m.lk a hl
  rw [e] at h1
  rcases h with rfl | rfl <;> cases h1
theorem M.dp {K : PySem.W.Frag} (m : M w G W s σ H) {v : V} {d : PyData} (r : Rep W.F v d) : Dp K H v d := Rep.dp m.fz' r
/-- claimed by none -/
def Unc (G : Gm) (W : Wd) (p : Addr) : Prop := W.F p = none ∧ p ∉ W.lk ∧ G.h p = none ∧ G.δ ≠ some p ∧ ∀ n, W.α n ≠ some p
theorem Unc.ext {W W' : Wd} {G' : Gm} {p : Addr} (u : Unc G W p) (hF : W'.F p = none) (hl : W'.lk = W.lk) (hh : G'.h p = none) (hd : G'.δ = G.δ) (ha : ∀ n, W'.α n ≠ some p) : Unc G' W' p := ⟨hF, by rw [hl]; exact u.2.1, hh, by rw [hd]; exact u.2.2.2.1, ha⟩
theorem M.free (m : M w G W s σ H) {p : Addr} (hp : H p = none) : Unc G W p := by
  have h2 : p ∉ W.lk := fun z => by
    obtain ⟨_, _, _, e⟩ := m.lk p z
    rw [hp] at e
    cases e
  have h3 : G.δ ≠ some p := fun z => by
    obtain ⟨_, _, _, _, _, _, e, _⟩ := m.dw p z
    rw [hp] at e
    cases e
  refine ⟨?_, h2, ?_, h3, fun n z => ?_⟩
  · cases e : W.F p with
    | none => rfl
    | some o => rw [m.fz p o e h2] at hp; cases hp
  · cases e : G.h p with
    | none => rfl
    | some o => rw [m.fr p o e h3 h2] at hp; cases hp
  · obtain ⟨_, _, _, u, e⟩ := m.al n p z
    rw [hp] at e
    cases e
/-- the heap grows -/
theorem M.same {H' : Hp} (m : M w G W s σ H) (e : Same H H') : M w G W s σ H' where
  fz := fun a o q l => e _ _ (m.fz a o q l)
  lk := fun a l => let ⟨ks, od, h1, h2⟩ := m.lk a l; ⟨ks, od, h1, e _ _ h2⟩
  fr := fun b o q h l => e _ _ (m.fr b o q h l)
  len := m.len
  sl := m.sl
  ob := fun n o q => by
    obtain ⟨a, h1, h2, h3⟩ := m.ob n o q
    obtain ⟨u, hu⟩ := h3.some
    exact ⟨a, h1, h2, h3.stay (Ext.refl W) ((e _ _ hu).trans hu.symm)⟩
  al := fun n a q => let ⟨h0, h1, h2, u, h3⟩ := m.al n a q; ⟨h0, h1, h2, u, e _ _ h3⟩
  inj := m.inj
  dw := fun a q => let ⟨t, h1, h2, n, k, c, h3, h4⟩ := m.dw a q; ⟨t, h1, h2, n, k, c, e _ _ h3, h4⟩
  dn := m.dn
  nf := m.nf
  gf := m.gf
  lz := fun b od u q => e _ _ (m.lz b od u q)
  tx := m.tx.same e fun n a q => (m.al n a q).2.2.2
/-- a new thing, frozen -/
def Wd.frz (W : Wd) (p : Addr) (o : HO) : Wd := { W with F := upd W.F p o }
theorem Wd.frz_ext {W : Wd} {p : Addr} {o : HO} (h : W.F p = none) : Ext W (W.frz p o) := ⟨fun a u e => (upd_ne (ne_of_none e h)).trans e, fun _ _ e => e, rfl⟩
theorem M.claimF {p : Addr} {o : HO} (m' : M w G W s σ H) (fr : Unc G W p) (hp : H p = some o) (nt : ∀ ts, o ≠ .tbl ts := by intro ts z; cases z) : Ext W (W.frz p o) ∧ M w G (W.frz p o) s σ H := by
  obtain ⟨f1, f2, f3, f4, f5⟩ := fr
  have e := Wd.frz_ext (o := o) f1
  refine ⟨e, ⟨fun a u q l => ?_, fun a l => ?_, m'.fr, m'.len, fun i x q => ?_, fun n u q => ?_, m'.al, m'.inj, fun a q => ?_, m'.dn, fun a u q => ?_, m'.gf, m'.lz, m'.tx.frz nt⟩⟩
  · by_cases z : a = p
    · subst z
      have q' : upd W.F a o a = some u := q
      rw [upd_same] at q'
      rw [hp]
      exact q'
    · have q' : upd W.F p o a = some u := q
      rw [upd_ne z] at q'
      exact m'.fz a u q' l
  · obtain ⟨ks, od, h1, h2⟩ := m'.lk a l
    exact ⟨ks, od, e.1 _ _ h1, h2⟩
  · obtain ⟨v, h1, h2⟩ := m'.sl i x q
    exact ⟨v, h1, h2.ext e⟩
  · obtain ⟨a, h1, h2, h3⟩ := m'.ob n u q
    have ne : a ≠ p := fun z => f5 n (z ▸ h1)
    exact ⟨a, h1, (upd_ne ne).trans h2, h3.stay e rfl⟩
  · obtain ⟨t, h1, h2, h3⟩ := m'.dw a q
    have ne : a ≠ p := fun z => f4 (z ▸ q)
    exact ⟨t, h1, (upd_ne ne).trans h2, h3⟩
  · have q' : upd W.F p o a = some u := q
    by_cases z : a = p
    · exact .inr (by rw [z]; exact f3)
    · rw [upd_ne z] at q'
      exact m'.nf a u q'
/-- a new thing that may change -/
def Wd.own (W : Wd) (n : Nat) (p : Addr) : Wd := { W with α := fun i => if i = n then some p else W.α i }
theorem M.claimP {p : Addr} {o : Ob} (m' : M w G W s σ H) (fr : Unc G W p) (ho : RepOb w W G.δ H p o) (nc : NoCode w.T H p) :
    Ext W (W.own s.o.length p) ∧ M w G (W.own s.o.length p) { s with o := s.o ++ [some o] } σ H ∧ RepV (W.own s.o.length p) G.δ (.ref p) (.p s.o.length) := by
  obtain ⟨f1, f2, f3, f4, f5⟩ := fr
  have m := m'
  have fn : W.α s.o.length = none := by
    cases e : W.α s.o.length with
    | none => rfl
    | some a => exact absurd (m.al _ a e).1 (Nat.lt_irrefl _)
  have e : Ext W (W.own s.o.length p) := ⟨fun _ _ q => q, fun n a q => by
    show (if n = s.o.length then some p else W.α n) = some a
    by_cases z : n = s.o.length
    · subst z; rw [fn] at q; cases q
    · rw [if_neg z]; exact q, rfl⟩
  have self : (W.own s.o.length p).α s.o.length = some p := by show (if s.o.length = s.o.length then some p else _) = _; rw [if_pos rfl]
  have back : ∀ n a, (W.own s.o.length p).α n = some a → (n = s.o.length ∧ a = p) ∨ (n ≠ s.o.length ∧ W.α n = some a) := fun n a q => by
    have q' : (if n = s.o.length then some p else W.α n) = some a := q
    by_cases z : n = s.o.length
    · rw [if_pos z] at q'; exact .inl ⟨z, (Option.some.inj q').symm⟩
    · rw [if_neg z] at q'; exact .inr ⟨z, q'⟩
  refine ⟨e, ⟨m'.fz, m'.lk, m'.fr, m'.len, fun i x q => ?_, fun n v q => ?_, fun n a q => ?_, fun i n a q1 q2 => ?_, m'.dw, m'.dn, m'.nf, m'.gf, m'.lz, ⟨m'.tx.tb, m'.tx.fn, m'.tx.gn, fun n a q => by
    rcases back n a q with ⟨_, rfl⟩ | ⟨_, q'⟩
    · exact ⟨repOb_notab ho, nc⟩
    · exact m'.tx.an n a q', m'.tx.gc⟩⟩, p, rfl, self⟩
  · obtain ⟨v, h1, h2⟩ := m'.sl i x q
    exact ⟨v, h1, h2.ext e⟩
  · have q' : (s.o ++ [some o])[n]? = some (some v) := q
    by_cases z : n < s.o.length
    · rw [List.getElem?_append_left z] at q'
      obtain ⟨a, h1, h2, h3⟩ := m'.ob n v q'
      exact ⟨a, e.2.1 _ _ h1, h2, h3.stay e rfl⟩
    · have z2 : n = s.o.length := by
        have := (List.getElem?_eq_some_iff.mp q').1
        rw [List.length_append, List.length_singleton] at this
        omega
      subst z2
      rw [List.getElem?_concat_length] at q'
      obtain rfl := Option.some.inj (Option.some.inj q')
      exact ⟨p, self, f1, ho.stay e rfl⟩
  · show n < (s.o ++ [some o]).length ∧ _
    rw [List.length_append, List.length_singleton]
    rcases back n a q with ⟨rfl, rfl⟩ | ⟨z, q'⟩
    · exact ⟨by omega, f3, f4, ho.some⟩
    · obtain ⟨h0, h1, h2, h3⟩ := m'.al n a q'
      exact ⟨by omega, h1, h2, h3⟩
  · rcases back i a q1 with ⟨rfl, rfl⟩ | ⟨z, q1'⟩
    · rcases back n _ q2 with ⟨rfl, _⟩ | ⟨z, q2'⟩
      · rfl
      · exact absurd q2' (f5 n)
    · rcases back n a q2 with ⟨rfl, rfl⟩ | ⟨z, q2'⟩
      · exact absurd q1' (f5 i)
      · exact m'.inj i n a q1' q2'
theorem M.noCode {p : Addr} {o : HO} (m : M w G W s σ H) (h : H p = some o) (nc : ∀ c q, o ≠ LamX.CodeO c q := by intro c q z; cases z) : NoCode w.T H p := noCode_of m.tx.tb fun c q z => nc c q (Option.some.inj (h.symm.trans z))
theorem M.newF {p : Addr} {o : HO} (m : M w G W s σ H) (hp : H p = none) (nt : ∀ ts, o ≠ .tbl ts := by intro ts z; cases z) : Ext W (W.frz p o) ∧ M w G (W.frz p o) s σ (upd H p o) := (m.same (same_upd hp)).claimF (m.free hp) upd_same nt
theorem M.newP {p : Addr} {u : HO} {o : Ob} (m : M w G W s σ H) (hp : H p = none) (ho : RepOb w W G.δ (upd H p u) p o) :
    Ext W (W.own s.o.length p) ∧ M w G (W.own s.o.length p) { s with o := s.o ++ [some o] } σ (upd H p u) ∧ RepV (W.own s.o.length p) G.δ (.ref p) (.p s.o.length) := (m.same (same_upd hp)).claimP (m.free hp) ho (noCode_tab m.tx.tb (fun q hq => by
    obtain ⟨ps, h1, _⟩ := m.tx.tb q hq
    exact upd_ne (ne_of_none h1 hp)) (noCode_of m.tx.tb fun c q z => by rw [hp] at z; cases z))
/-- a thing that is not claimed is held as part of the frame -/
theorem M.guard {p : Addr} {o : HO} (m : M w G W s σ H) (fr : Unc G W p) (hp : H p = some o) (nt : ∀ ts, o ≠ .tbl ts := by intro ts z; cases z) (nq : ∀ c q, o ≠ LamX.CodeO c q := by intro c q z; cases z) : M w { G with h := upd G.h p o } W s σ H :=
  ⟨m.fz, m.lk, fun b v q h l => by
    have q' : upd G.h p o b = some v := q
    by_cases z : b = p
    · subst z; rw [upd_same] at q'; rw [hp]; exact q'
    · rw [upd_ne z] at q'; exact m.fr b v q' h l, m.len, m.sl, m.ob, fun n a q => by
    obtain ⟨h0, h1, h2, h3⟩ := m.al n a q
    exact ⟨h0, (upd_ne fun z => fr.2.2.2.2 n (by rw [← z]; exact q)).trans h1, h2, h3⟩, m.inj, m.dw, m.dn, fun a u q => (m.nf a u q).imp id fun h1 => (upd_ne (ne_of_none q fr.1)).trans h1, fun a u q => by
    obtain ⟨v, hv⟩ := m.gf a u q
    exact ⟨v, (upd_ne (ne_of_none hv fr.2.2.1)).trans hv⟩, m.lz, ⟨m.tx.tb, m.tx.fn, (Tx.frz (gh := G.h) (F := G.h) (p := p) ⟨m.tx.tb, m.tx.gn, m.tx.gn, m.tx.an, m.tx.gc⟩ nt).fn, m.tx.an, fun b u q z => by
    by_cases y : b = p
    · subst y
      exact noCode_of m.tx.tb fun c q z => nq c q (Option.some.inj (hp.symm.trans z))
    · exact m.tx.gc b u ((upd_ne y).symm.trans q) z⟩⟩
theorem M.unguard {p : Addr} {o : HO} (m : M w { G with h := upd G.h p o } W s σ H) (hn : G.h p = none) (hd : G.δ ≠ some p) (hl : p ∉ W.lk) (hF : W.F p = none) (gf : ∀ a o, G.f a = some o → ∃ u, G.h a = some u) : M w G W s σ H ∧ Unc G W p ∧ H p = some o :=
  have na : ∀ n, W.α n ≠ some p := fun n q => by
    obtain ⟨_, h1, _⟩ := m.al n p q
    have h1' : upd G.h p o p = none := h1
    rw [upd_same] at h1'
    cases h1'
  ⟨⟨m.fz, m.lk, fun b v q h l => m.fr b v ((upd_ne fun z => by rw [z, hn] at q; cases q).trans q) h l, m.len, m.sl, m.ob, fun n a q => by
    obtain ⟨h0, h1, h2, h3⟩ := m.al n a q
    have ne : a ≠ p := fun z => na n (by rw [← z]; exact q)
    exact ⟨h0, (upd_ne (H := G.h) (o := o) ne).symm.trans h1, h2, h3⟩, m.inj, m.dw, m.dn, fun a u q => (m.nf a u q).imp id fun h1 => (upd_ne (H := G.h) (o := o) (ne_of_none q hF)).symm.trans h1, gf, m.lz, ⟨m.tx.tb, m.tx.fn, fun a ts z => m.tx.gn a ts ((upd_ne (H := G.h) (o := o) (ne_of_none z hn)).trans z), m.tx.an, fun b u q z => m.tx.gc b u ((upd_ne (H := G.h) (o := o) (ne_of_none q hn)).trans q) z⟩⟩, ⟨hF, hl, hn, hd, na⟩, m.fr p o upd_same hd hl⟩
/-- an own object changes -/
theorem M.put {n : Nat} {a : Addr} {u : HO} {o o' : Ob} (m : M w G W s σ H) (hn : s.o[n]? = some (some o)) (ha : W.α n = some a) (ho : RepOb w W G.δ (upd H a u) a o') : M w G W { s with o := s.o.set n (some o') } σ (upd H a u) := by
  obtain ⟨a', h1, h2, h3⟩ := m.ob n o hn
  rw [ha] at h1
  obtain rfl := Option.some.inj h1
  obtain ⟨l1, l2, l3, l4⟩ := m.al n a ha
  have lk : a ∉ W.lk := fun z => by
    obtain ⟨_, _, q, _⟩ := m.lk a z
    rw [h2] at q
    cases q
  have nf : ∀ b v, W.F b = some v → b ≠ a := fun b v q z => by rw [z, h2] at q; cases q
  refine ⟨fun b v q l => (upd_ne (nf b v q)).trans (m.fz b v q l), fun b l => ?_, fun b v q h l => ?_, m.len, m.sl, fun i v q => ?_, fun i b q => ?_, m.inj, fun b q => ?_, m.dn, m.nf, m.gf, fun b od u q => (upd_ne (fun z => by
    have e := m.lz b od u q
    rw [z] at e
    cases o with
    | lst xs => obtain ⟨_, e', _⟩ := h3; rw [e] at e'; cases e'
    | dk xs => obtain ⟨_, e', _⟩ := h3; rw [e] at e'; cases e'
    | st S n => have e' : H a = some (SetO w.w a S n) := h3; rw [e] at e'; cases e')).trans (m.lz b od u q), m.tx.upd (m.tx.an n a ha).1 (m.tx.an n a ha).2 fun ts z => repOb_notab ho ts (by rw [upd_same, z])⟩
  · obtain ⟨ks, od, q1, q2⟩ := m.lk b l
    exact ⟨ks, od, q1, (upd_ne (nf b _ q1)).trans q2⟩
  · exact (upd_ne (fun z => by rw [z, l2] at q; cases q)).trans (m.fr b v q h l)
  · have q' : (s.o.set n (some o'))[i]? = some (some v) := q
    by_cases z : n = i
    · subst z
      rw [List.getElem?_set_self l1] at q'
      obtain rfl := Option.some.inj (Option.some.inj q')
      exact ⟨a, ha, h2, ho⟩
    · rw [List.getElem?_set_ne z] at q'
      obtain ⟨b, q1, q2, q3⟩ := m.ob i v q'
      have ne : b ≠ a := fun y => z (m.inj n i a ha (y ▸ q1))
      exact ⟨b, q1, q2, q3.stay (Ext.refl W) (upd_ne ne)⟩
  · obtain ⟨q1, q2, q3, v, q4⟩ := m.al i b q
    refine ⟨by show i < (s.o.set n _).length; rw [List.length_set]; exact q1, q2, q3, ?_⟩
    by_cases z : b = a
    · exact ⟨u, by rw [z]; exact upd_same⟩
    · exact ⟨v, (upd_ne z).trans q4⟩
  · obtain ⟨t, q1, q2, n, k, c, q3, q4⟩ := m.dw b q
    exact ⟨t, q1, q2, n, k, c, (upd_ne (show b ≠ a from fun z => l3 (by rw [← z]; exact q))).trans q3, q4⟩
/-- an own object is frozen -/
theorem M.ice {n : Nat} {a : Addr} {u : HO} {o : Ob} (m : M w G W s σ H) (hn : s.o[n]? = some (some o)) (ha : W.α n = some a) (hu : H a = some u) : Ext W (W.frz a u) ∧ M w G (W.frz a u) { s with o := s.o.set n none } σ H := by
  obtain ⟨a', h1, h2, h3⟩ := m.ob n o hn
  rw [ha] at h1
  obtain rfl := Option.some.inj h1
  obtain ⟨l1, l2, l3, l4⟩ := m.al n a ha
  have e := Wd.frz_ext (o := u) h2
  refine ⟨e, fun b v q l => ?_, fun b l => ?_, m.fr, m.len, fun i x q => ?_, fun i v q => ?_, fun i b q => ?_, m.inj, fun b q => ?_, m.dn, fun b v q => ?_, m.gf, m.lz, m.tx.frz fun ts z => (m.tx.an n a ha).1 ts (by rw [hu, z])⟩
  · have q' : upd W.F a u b = some v := q
    by_cases z : b = a
    · subst z
      rw [upd_same] at q'
      rw [← q', hu]
    · rw [upd_ne z] at q'
      exact m.fz b v q' l
  · obtain ⟨ks, od, q1, q2⟩ := m.lk b l
    exact ⟨ks, od, e.1 _ _ q1, q2⟩
  · obtain ⟨v, q1, q2⟩ := m.sl i x q
    exact ⟨v, q1, q2.ext e⟩
  · have q' : (s.o.set n none)[i]? = some (some v) := q
    by_cases z : n = i
    · subst z
      rw [List.getElem?_set_self l1] at q'
      cases q'
    · rw [List.getElem?_set_ne z] at q'
      obtain ⟨b, q1, q2, q3⟩ := m.ob i v q'
      have ne : b ≠ a := fun y => z (m.inj n i a ha (y ▸ q1))
      exact ⟨b, q1, (upd_ne ne).trans q2, q3.stay e rfl⟩
  · obtain ⟨q1, q2, q3, v, q4⟩ := m.al i b q
    exact ⟨by show i < (s.o.set n _).length; rw [List.length_set]; exact q1, q2, q3, v, q4⟩
  · obtain ⟨t, q1, q2, q3⟩ := m.dw b q
    exact ⟨t, q1, (upd_ne (show b ≠ a from fun z => l3 (by rw [← z]; exact q))).trans q2, q3⟩
  · have q' : upd W.F a u b = some v := q
    by_cases z : b = a
    · exact .inr (by rw [z]; exact l2)
    · rw [upd_ne z] at q'
      exact m.nf b v q'
/-- a slot is filled -/
theorem M.slot {i : Nat} {v : V} {x : Vd} (m : M w G W s σ H) (r : RepV W G.δ v x) : M w G W { s with r := s.r.set i (some x) } (σ.set i (some v)) H := by
  refine ⟨m.fz, m.lk, m.fr, by show (s.r.set i _).length = _; rw [List.length_set, List.length_set]; exact m.len, fun j y q => ?_, m.ob, m.al, m.inj, m.dw, m.dn, m.nf, m.gf, m.lz, m.tx⟩
  have q' : (s.r.set i (some x))[j]? = some (some y) := q
  by_cases z : i = j
  · subst z
    by_cases l : i < s.r.length
    · rw [List.getElem?_set_self l] at q'
      obtain rfl := Option.some.inj (Option.some.inj q')
      exact ⟨v, List.getElem?_set_self (by rw [← m.len]; exact l), r⟩
    · rw [List.getElem?_eq_none (by rw [List.length_set]; omega)] at q'
      cases q'
  · rw [List.getElem?_set_ne z] at q'
    obtain ⟨v', h1, h2⟩ := m.sl j y q'
    exact ⟨v', (List.getElem?_set_ne z).trans h1, h2⟩
/-- a slot of the data alone: what is told of it, told otherwise -/
theorem M.tell {i : Nat} {v : V} {x : Vd} (m : M w G W s σ H) (hv : σ[i]? = some (some v)) (r : RepV W G.δ v x) : M w G W { s with r := s.r.set i (some x) } σ H := by
  have := m.slot (i := i) r
  rwa [show σ.set i (some v) = σ from by
    obtain ⟨h1, h2⟩ := List.getElem?_eq_some_iff.mp hv
    rw [← h2, List.set_getElem_self]] at this
/-- less is told of the slots -/
theorem M.less {r' : List (Option Vd)} {σ' : List (Option V)} (m : M w G W s σ H) (hl : r'.length = σ'.length) (h : ∀ (i : Nat) (x : Vd), r'[i]? = some (some x) → ∃ v, σ'[i]? = some (some v) ∧ RepV W G.δ v x) : M w G W { s with r := r' } σ' H :=
  ⟨m.fz, m.lk, m.fr, hl, h, m.ob, m.al, m.inj, m.dw, m.dn, m.nf, m.gf, m.lz, m.tx⟩
/-- the draws -/
theorem M.draw {a : Addr} {n k t' : Int} {c : Bool} (m : M w G W s σ H) (ha : G.δ = some a) (hk : 0 ≤ k) (hk' : k ≤ t') : M w G W { s with d := some t' } σ (upd H a (DrO n k c)) := by
  obtain ⟨t, h1, h2, h3⟩ := m.dw a ha
  have lk : a ∉ W.lk := fun z => by
    obtain ⟨_, _, q, _⟩ := m.lk a z
    rw [h2] at q
    cases q
  have nf : ∀ b v, W.F b = some v → b ≠ a := fun b v q z => by rw [z, h2] at q; cases q
  have na : ∀ i b, W.α i = some b → b ≠ a := fun i b q z => (m.al i b q).2.2.1 (z ▸ ha)
  refine ⟨fun b v q l => (upd_ne (nf b v q)).trans (m.fz b v q l), fun b l => ?_, fun b v q h l => ?_, m.len, m.sl, fun i v q => ?_, fun i b q => ?_, m.inj, fun b q => ?_, fun t q => ⟨a, ha⟩, m.nf, m.gf, fun b od u q => (upd_ne (fun z => by
    obtain ⟨_, _, _, e, _⟩ := h3
    rw [← z, m.lz b od u q] at e
    cases e)).trans (m.lz b od u q), by
    obtain ⟨_, _, _, e, _⟩ := h3
    exact m.tx.updO e (fun ts z => by cases z) (fun c q z => by cases z) fun ts z => by cases z⟩
  · obtain ⟨ks, od, q1, q2⟩ := m.lk b l
    exact ⟨ks, od, q1, (upd_ne (nf b _ q1)).trans q2⟩
  · exact (upd_ne (show b ≠ a from fun z => h (by rw [z]; exact ha))).trans (m.fr b v q h l)
  · obtain ⟨b, q1, q2, q3⟩ := m.ob i v q
    exact ⟨b, q1, q2, q3.stay (Ext.refl W) (upd_ne (na i b q1))⟩
  · obtain ⟨q1, q2, q3, v, q4⟩ := m.al i b q
    exact ⟨q1, q2, q3, v, (upd_ne (na i b q)).trans q4⟩
  · obtain rfl : a = b := Option.some.inj (ha.symm.trans q)
    exact ⟨t', rfl, h2, n, k, c, upd_same, hk, hk'⟩
end
end Dt


set_option autoImplicit false
set_option Elab.async false
set_option autoImplicit false
set_option linter.all false
set_option maxRecDepth 100000
set_option maxHeartbeats 4000000
/-! The data layer: what a reading of slots and heaps says over plain data. -/
namespace Dt
open PySem L2 Kt

abbrev TEd := Sd → (Vd → Sd → Prop) → Prop
abbrev TTd := Sd → (Bool → Sd → Prop) → Prop
abbrev TAd := Sd → (List Vd → Sd → Prop) → Prop
structure Ed where
  nx : Sd → Prop
  rt : Vd → Sd → Prop
  bk : Sd → Prop := fun _ => False
  ct : Sd → Prop := fun _ => False
abbrev TSd := Ed → Sd → Prop
abbrev TGd := Vd → Sd → (Sd → Prop) → Prop
abbrev TGsd := List Vd → Sd → (Sd → Prop) → Prop

section
variable (w : Ww) (G : Gm) (W : Wd)
def Ko (σ : L2.St) (Q : VK) (q : Vd → Sd → Prop) : Prop := ∀ W' s' H' v x, Ext W W' → M w G W' s' σ H' → RepV W' G.δ v x → q x s' → Q v H'
def Kb (σ : L2.St) (Q : Bool → Hp → Prop) (q : Bool → Sd → Prop) : Prop := ∀ W' s' H' b, Ext W W' → M w G W' s' σ H' → q b s' → Q b H'
def Kl (σ : L2.St) (Q : List V → Hp → Prop) (q : List Vd → Sd → Prop) : Prop := ∀ W' s' H' vs xs, Ext W W' → M w G W' s' σ H' → Paired (RepV W' G.δ) vs xs → q xs s' → Q vs H'
/-- on statements' ways: the own objects may be told anew -/
def ExtF (W W' : Wd) : Prop := (∀ a o, W.F a = some o → W'.F a = some o) ∧ W'.lk = W.lk
def Ks (Q : L2.St → Hp → Prop) (q : Sd → Prop) : Prop := ∀ W' s' σ' H', ExtF W W' → M w G W' s' σ' H' → q s' → Q σ' H'
structure Le (D : Ends) (E : Ed) : Prop where
  nx : Ks w G W D.nx E.nx
  rt : ∀ W' s' σ' H' v x, ExtF W W' → M w G W' s' σ' H' → RepV W' G.δ v x → E.rt x s' → D.rt v H'
  bk : Ks w G W D.bk E.bk
  ct : Ks w G W D.ct E.ct
end
theorem Ext.f {W W' : Wd} (e : Ext W W') : ExtF W W' := ⟨e.1, e.2.2⟩
theorem ExtF.refl (W : Wd) : ExtF W W := ⟨fun _ _ e => e, rfl⟩
theorem ExtF.trans {W W1 W2 : Wd} (a : ExtF W W1) (b : ExtF W1 W2) : ExtF W W2 := ⟨fun x o e => b.1 x o (a.1 x o e), b.2.trans a.2⟩
section
variable {w : Ww} {G : Gm} {W W1 : Wd} {σ : L2.St}
theorem Ko.up {Q : VK} {q : Vd → Sd → Prop} (k : Ko w G W σ Q q) (e : Ext W W1) : Ko w G W1 σ Q q := fun W' s' H' v x e' => k W' s' H' v x (e.trans e')
theorem Kb.up {Q : Bool → Hp → Prop} {q : Bool → Sd → Prop} (k : Kb w G W σ Q q) (e : Ext W W1) : Kb w G W1 σ Q q := fun W' s' H' b e' => k W' s' H' b (e.trans e')
theorem Kl.up {Q : List V → Hp → Prop} {q : List Vd → Sd → Prop} (k : Kl w G W σ Q q) (e : Ext W W1) : Kl w G W1 σ Q q := fun W' s' H' v x e' => k W' s' H' v x (e.trans e')
theorem Ks.up {Q : L2.St → Hp → Prop} {q : Sd → Prop} (k : Ks w G W Q q) (e : ExtF W W1) : Ks w G W1 Q q := fun W' s' σ' H' e' => k W' s' σ' H' (e.trans e')
theorem Le.up {D : Ends} {E : Ed} (l : Le w G W D E) (e : ExtF W W1) : Le w G W1 D E := ⟨l.nx.up e, fun W' s' σ' H' v x e' => l.rt W' s' σ' H' v x (e.trans e'), l.bk.up e, l.ct.up e⟩
theorem Ks.m {Q : L2.St → Hp → Prop} {q : Sd → Prop} (k : Ks w G W Q q) {s : Sd} {σ' : L2.St} {H : Hp} (m : M w G W s σ' H) (h : q s) : Q σ' H := k W s σ' H (ExtF.refl W) m h
theorem Ko.md {Q : VK} {q : Vd → Sd → Prop} (k : Ko w G W σ Q q) {s : Sd} {H : Hp} {v : V} {x : PyData} (m : M w G W s σ H) (r : Rep W.F v x) (h : q (.d x) s) : Q v H := k W s H v (.d x) (Ext.refl W) m r h
theorem Ko.m {Q : VK} {q : Vd → Sd → Prop} (k : Ko w G W σ Q q) {s : Sd} {H : Hp} {v : V} {x : Vd} (m : M w G W s σ H) (r : RepV W G.δ v x) (h : q x s) : Q v H := k W s H v x (Ext.refl W) m r h
end

section
variable (w : Ww)
def AbE (t : TE) (u : TEd) : Prop := ∀ (G : Gm) (W : Wd) (s : Sd) (σ : L2.St) (H : Hp) (Q : VK) (q : Vd → Sd → Prop), M w G W s σ H → Ko w G W σ Q q → u s q → t σ H Q
def AbT (t : TT) (u : TTd) : Prop := ∀ (G : Gm) (W : Wd) (s : Sd) (σ : L2.St) (H : Hp) (Q : Bool → Hp → Prop) (q : Bool → Sd → Prop), M w G W s σ H → Kb w G W σ Q q → u s q → t σ H Q
def AbA (t : TA) (u : TAd) : Prop := ∀ (G : Gm) (W : Wd) (s : Sd) (σ : L2.St) (H : Hp) (Q : List V → Hp → Prop) (q : List Vd → Sd → Prop), M w G W s σ H → Kl w G W σ Q q → u s q → t σ H Q
def AbS (t : TS) (u : TSd) : Prop := ∀ (G : Gm) (W : Wd) (s : Sd) (σ : L2.St) (H : Hp) (D : Ends) (E : Ed), M w G W s σ H → Le w G W D E → u E s → t D σ H
def Kg (G : Gm) (W : Wd) (Q : L2.St → Hp → Prop) (q : Sd → Prop) : Prop := ∀ W' s' σ' H', Ext W W' → M w G W' s' σ' H' → q s' → Q σ' H'
def AbG (t : TG) (u : TGd) : Prop := ∀ (G : Gm) (W : Wd) (s : Sd) (σ : L2.St) (H : Hp) (v : V) (x : Vd) (Q : L2.St → Hp → Prop) (q : Sd → Prop), M w G W s σ H → RepV W G.δ v x → Kg w G W Q q → u x s q → t v σ H Q
/-- a two-place operation by values -/
def AbR (r : R2) (rd : Vd → Vd → TEd) : Prop := ∀ (G : Gm) (W : Wd) (s : Sd) (σ : L2.St) (H : Hp) (v1 v2 : V) (x y : Vd) (Q : VK) (q : Vd → Sd → Prop), M w G W s σ H → RepV W G.δ v1 x → RepV W G.δ v2 y → Ko w G W σ Q q → rd x y s q → r v1 v2 H Q
def AbU (r : V → Hp → VK → Prop) (rd : Vd → TEd) : Prop := ∀ (G : Gm) (W : Wd) (s : Sd) (σ : L2.St) (H : Hp) (v1 : V) (x : Vd) (Q : VK) (q : Vd → Sd → Prop), M w G W s σ H → RepV W G.δ v1 x → Ko w G W σ Q q → rd x s q → r v1 H Q
/-- a call by values -/
def AbC (r : List V → Hp → VK → Prop) (rd : List Vd → TEd) : Prop := ∀ (G : Gm) (W : Wd) (s : Sd) (σ : L2.St) (H : Hp) (vs : List V) (xs : List Vd) (Q : VK) (q : Vd → Sd → Prop), M w G W s σ H → Paired (RepV W G.δ) vs xs → Ko w G W σ Q q → rd xs s q → r vs H Q
end

section
variable {w : Ww} {G : Gm} {W W1 : Wd}
theorem Kg.up {Q : L2.St → Hp → Prop} {q : Sd → Prop} (k : Kg w G W Q q) (e : Ext W W1) : Kg w G W1 Q q := fun W' s' σ' H' e' => k W' s' σ' H' (e.trans e')
theorem Kg.m {Q : L2.St → Hp → Prop} {q : Sd → Prop} (k : Kg w G W Q q) {s : Sd} {σ' : L2.St} {H : Hp} (m : M w G W s σ' H) (h : q s) : Q σ' H := k W s σ' H (Ext.refl W) m h
theorem Ks.g {Q : L2.St → Hp → Prop} {q : Sd → Prop} (k : Ks w G W Q q) : Kg w G W Q q := fun W' s' σ' H' e => k W' s' σ' H' e.f
end
section
variable {w : Ww}
/-! ### names, constants -/
def uVar (i : Nat) : TEd := fun s q => ∃ x, s.r[i]? = some (some x) ∧ q x s
theorem ab_var (i : Nat) : AbE w (tVar i) (uVar i) := fun G W s σ H Q q m k ⟨x, hx, h⟩ => by
  obtain ⟨v, hv, r⟩ := m.sl i x hx
  exact ⟨v, hv, k.m m r h⟩
/-- a local list is read for good: it will not change any more -/
def uIce (i : Nat) : TEd := fun s q => ∃ n xs ds, s.r[i]? = some (some (.p n)) ∧ s.o[n]? = some (some (.lst xs)) ∧ xs = ds.map Vd.d ∧ q (.d (.list ds)) { s with r := s.r.set i (some (.d (.list ds))), o := s.o.set n none }
theorem repA_of {W : Wd} {δ : Option Addr} : ∀ {vs : List V} {ds : List PyData}, Paired (RepV W δ) vs (ds.map Vd.d) → RepA W.F vs ds
  | [], [], _ => .nil
  | v :: vs, d :: ds, .cons r t => .cons r (repA_of t)
  | [], _ :: _, h => by cases h
  | _ :: _, [], h => by cases h
theorem of_repA {W : Wd} {δ : Option Addr} : ∀ {vs : List V} {ds : List PyData}, RepA W.F vs ds → Paired (RepV W δ) vs (ds.map Vd.d)
  | _, _, .nil => .nil
  | _, _, .cons r t => .cons r (of_repA t)
theorem ab_ice (i : Nat) : AbE w (tVar i) (uIce i) := fun G W s σ H Q q m k ⟨n, xs, ds, hx, ho, hd, h⟩ => by
  obtain ⟨v, hv, a, rfl, ha⟩ := m.sl i _ hx
  obtain ⟨a', h1, h2, vs, h3, h4⟩ := m.ob n _ ho
  obtain rfl := Option.some.inj (ha.symm.trans h1)
  obtain ⟨e, m'⟩ := m.ice ho ha h3
  subst hd
  have rep : RepV (W.frz a (.lst vs)) G.δ (.ref a) (.d (.list ds)) := Rep.lst upd_same (repA_of (repVs_ext e h4))
  exact ⟨_, hv, k _ _ _ _ _ e (m'.tell hv rep) rep h⟩
def uC (x : PyData) : TEd := fun s q => q (.d x) s
theorem ab_int (i : Int) : AbE w (tC (.int i)) (uC (.int i)) := fun G W s σ H Q q m k h => k.md m (Rep.int i) h
theorem ab_bl (b : Bool) : AbE w (tC (.bl b)) (uC (.bool b)) := fun G W s σ H Q q m k h => k.md m (Rep.bl b) h
theorem ab_non : AbE w (tC .non) (uC .none) := fun G W s σ H Q q m k h => k.md m Rep.non h
theorem ab_str (x : Str) : AbE w (tC (.str x)) (uC (.str x)) := fun G W s σ H Q q m k h => k.md m (Rep.str x) h

/-! ### operators -/
def uOp (rd : Vd → Vd → TEd) (ua ub : TEd) : TEd := fun s q => ua s fun x s1 => ub s1 fun y s2 => rd x y s2 q
theorem ab_op {r : R2} {rd : Vd → Vd → TEd} {ta tb : TE} {ua ub : TEd} (hr : AbR w r rd) (ha : AbE w ta ua) (hb : AbE w tb ub) : AbE w (tOp r ta tb) (uOp rd ua ub) := fun G W s σ H Q q m k h => by
  refine ha G W s σ H _ _ m (fun W1 s1 H1 v x e1 m1 r1 h1 => ?_) h
  refine hb G W1 s1 σ H1 _ _ m1 (fun W2 s2 H2 v' y e2 m2 r2 h2 => ?_) h1
  exact hr G W2 s2 σ H2 v v' x y Q q m2 (r1.ext e2) r2 (k.up (e1.trans e2)) h2
def uUn (rd : Vd → TEd) (ua : TEd) : TEd := fun s q => ua s fun x s1 => rd x s1 q
theorem ab_un {r : V → Hp → VK → Prop} {rd : Vd → TEd} {ta : TE} {ua : TEd} (hr : AbU w r rd) (ha : AbE w ta ua) : AbE w (tUn r ta) (uUn rd ua) := fun G W s σ H Q q m k h =>
  ha G W s σ H _ _ m (fun W1 s1 H1 v x e1 m1 r1 h1 => hr G W1 s1 σ H1 v x Q q m1 r1 (k.up e1) h1) h
/-- two ints -/
def dInt (x : Vd) (k : Int → Prop) : Prop := match x with
  | .d (.int i) => k i
  | _ => False
theorem dInt_of {W : Wd} {δ : Option Addr} {v : V} {x : Vd} {k : Int → Prop} (r : RepV W δ v x) (h : dInt x k) : ∃ i, v = .int i ∧ x = .d (.int i) ∧ k i := by
  match x, h with
  | .d (.int i), h => cases r; exact ⟨i, rfl, rfl, h⟩
def dII (C : Int → Int → Prop) (g : Int → Int → PyData) : Vd → Vd → TEd := fun x y s q => dInt x fun i => dInt y fun j => C i j ∧ q (.d (g i j)) s
def dII0 (g : Int → Int → PyData) : Vd → Vd → TEd := fun x y s q => dInt x fun i => dInt y fun j => q (.d (g i j)) s
theorem rep_pdI {F : Hp} {g : Int → Int → V} {g' : Int → Int → PyData} (hg : ∀ i j, (∃ a, g i j = .int a ∧ g' i j = .int a) ∨ ∃ b, g i j = .bl b ∧ g' i j = .bool b) (i j : Int) : Rep F (g i j) (g' i j) := by
  rcases hg i j with ⟨a, h1, h2⟩ | ⟨a, h1, h2⟩
  · rw [h1, h2]; exact .int a
  · rw [h1, h2]; exact .bl a
theorem abr_I {C : Int → Int → Prop} {g : Int → Int → V} {g' : Int → Int → PyData} (hg : ∀ i j, (∃ a, g i j = .int a ∧ g' i j = .int a) ∨ ∃ b, g i j = .bl b ∧ g' i j = .bool b) : AbR w (rI C g) (dII C g') := fun G W s σ H v1 v2 x y Q q m r1 r2 k h => by
  obtain ⟨i, rfl, rfl, h⟩ := dInt_of r1 h
  obtain ⟨j, rfl, rfl, c, h⟩ := dInt_of r2 h
  exact ⟨i, j, rfl, rfl, c, k.md m (rep_pdI hg i j) h⟩
theorem abr_I0 {g : Int → Int → V} {g' : Int → Int → PyData} (hg : ∀ i j, (∃ a, g i j = .int a ∧ g' i j = .int a) ∨ ∃ b, g i j = .bl b ∧ g' i j = .bool b) : AbR w (rI0 g) (dII0 g') := fun G W s σ H v1 v2 x y Q q m r1 r2 k h => by
  obtain ⟨i, rfl, rfl, h⟩ := dInt_of r1 h
  obtain ⟨j, rfl, rfl, h⟩ := dInt_of r2 h
  exact ⟨i, j, rfl, rfl, k.md m (rep_pdI hg i j) h⟩

/-! ### new lists -/
def pures : List Vd → Option (List PyData)
  | [] => some []
  | .d x :: xs => match pures xs with
    | some ds => some (x :: ds)
    | none => none
  | _ :: _ => none
theorem pures_map : ∀ ds : List PyData, pures (ds.map Vd.d) = some ds
  | [] => rfl
  | d :: ds => by rw [List.map_cons, pures, pures_map ds]
theorem pures_of : ∀ {xs : List Vd} {ds : List PyData}, pures xs = some ds → xs = ds.map Vd.d
  | [], ds, h => by rw [pures] at h; obtain rfl := Option.some.inj h; rfl
  | .d x :: xs, ds, h => by
    rw [pures] at h
    cases e : pures xs with
    | none => rw [e] at h; cases h
    | some es =>
      rw [e] at h
      obtain rfl := Option.some.inj h
      rw [List.map_cons, pures_of e]
  | .dc _ :: _, _, h => by cases h
  | .p _ :: _, _, h => by cases h
  | .dr :: _, _, h => by cases h
def dPures (xs : List Vd) (k : List PyData → Prop) : Prop := match pures xs with
  | some ds => k ds
  | none => False
theorem dPures_of {xs : List Vd} {k : List PyData → Prop} (h : dPures xs k) : ∃ ds, xs = ds.map Vd.d ∧ k ds := by
  unfold dPures at h
  cases e : pures xs with
  | none => rw [e] at h; exact h.elim
  | some ds => rw [e] at h; exact ⟨ds, pures_of e, h⟩
theorem dPures_map {ds : List PyData} {k : List PyData → Prop} (h : k ds) : dPures (ds.map Vd.d) k := by
  unfold dPures
  rw [pures_map]
  exact h
def mkV (m : Bool) (xs : List Vd) : TEd := fun s q => match m with
  | true => q (.p s.o.length) { s with o := s.o ++ [some (.lst xs)] }
  | false => dPures xs fun ds => q (.d (.list ds)) s
def mkL (m : Bool) (ds : List PyData) : TEd := fun s q => match m with
  | true => q (.p s.o.length) { s with o := s.o ++ [some (.lst (ds.map Vd.d))] }
  | false => q (.d (.list ds)) s
section
variable {G : Gm} {W : Wd} {s : Sd} {σ : L2.St} {H : Hp} {Q : VK} {q : Vd → Sd → Prop}
theorem M.mkV {p : Addr} {vs : List V} {xs : List Vd} (m : M w G W s σ H) (b : Bool) (fr : Unc G W p) (hp : H p = some (.lst vs)) (r : Paired (RepV W G.δ) vs xs) (k : Ko w G W σ Q q) (h : Dt.mkV b xs s q) : Q (.ref p) H := by
  match b, h with
  | true, h =>
    obtain ⟨e, m', r'⟩ := m.claimP (o := .lst xs) fr ⟨vs, hp, r⟩ (m.noCode hp)
    exact k _ _ _ _ _ e m' r' h
  | false, h0 =>
    obtain ⟨ds, hd, h'⟩ := dPures_of h0
    rw [hd] at r
    obtain ⟨e, m'⟩ := m.claimF fr hp
    exact k _ _ _ _ (.d (.list ds)) e m' (show Rep _ _ _ from .lst upd_same (repA_of (repVs_ext e r))) h'
theorem mkL_V {b : Bool} {ds : List PyData} (h : mkL b ds s q) : Dt.mkV b (ds.map Vd.d) s q := by
  match b, h with
  | true, h => exact h
  | false, h => exact dPures_map h
theorem M.newV {p : Addr} {vs : List V} {xs : List Vd} (m : M w G W s σ H) (b : Bool) (hp : H p = none) (r : Paired (RepV W G.δ) vs xs) (k : Ko w G W σ Q q) (h : Dt.mkV b xs s q) : Q (.ref p) (upd H p (.lst vs)) :=
  (m.same (same_upd hp)).mkV b (m.free hp) upd_same r k h
theorem M.newL {p : Addr} {vs : List V} {ds : List PyData} (m : M w G W s σ H) (b : Bool) (hp : H p = none) (r : RepA W.F vs ds) (k : Ko w G W σ Q q) (h : mkL b ds s q) : Q (.ref p) (upd H p (.lst vs)) :=
  m.newV b hp (of_repA r) k (mkL_V h)
end
/-! ### what a value holds -/
def dList (x : Vd) (s : Sd) (k : List PyData → Prop) : Prop := match x with
  | .d (.list ds) => k ds
  | .p n => ∃ xs ds, s.o[n]? = some (some (.lst xs)) ∧ xs = ds.map Vd.d ∧ k ds
  | _ => False
def dTup (x : Vd) (k : List PyData → Prop) : Prop := match x with
  | .d (.tuple ds) => k ds
  | _ => False
/-- the data a value stands for -/
def dPure (x : Vd) (s : Sd) (k : PyData → Prop) : Prop := match x with
  | .d d => k d
  | .p n => ∃ xs ds, s.o[n]? = some (some (.lst xs)) ∧ xs = ds.map Vd.d ∧ k (.list ds)
  | _ => False
section
variable {G : Gm} {W : Wd} {s : Sd} {σ : L2.St} {H : Hp} {v : V} {x : Vd}
theorem dList_of {k : List PyData → Prop} (m : M w G W s σ H) (r : RepV W G.δ v x) (h : dList x s k) : ∃ a vs ds, v = .ref a ∧ H a = some (.lst vs) ∧ RepA W.F vs ds ∧ k ds := by
  match x, h with
  | .d (.list ds), h =>
    cases r with
    | lst e t => exact ⟨_, _, ds, rfl, m.fz' _ _ ⟨_, .inl rfl⟩ e, t, h⟩
  | .p n, ⟨xs, ds, h1, h2, h⟩ =>
    obtain ⟨a, rfl, ha⟩ := r
    obtain ⟨a', e1, e2, vs, e3, e4⟩ := m.ob n _ h1
    obtain rfl := Option.some.inj (ha.symm.trans e1)
    subst h2
    exact ⟨a, vs, ds, rfl, e3, repA_of e4, h⟩
theorem dTup_of {k : List PyData → Prop} (m : M w G W s σ H) (r : RepV W G.δ v x) (h : dTup x k) : ∃ a vs ds, v = .ref a ∧ H a = some (.tup vs) ∧ RepA W.F vs ds ∧ k ds := by
  match x, h with
  | .d (.tuple ds), h =>
    cases r with
    | tup e t => exact ⟨_, _, ds, rfl, m.fz' _ _ ⟨_, .inr rfl⟩ e, t, h⟩
theorem dPure_of {K : PySem.W.Frag} {k : PyData → Prop} (m : M w G W s σ H) (r : RepV W G.δ v x) (h : dPure x s k) : ∃ d, Dp K H v d ∧ k d := by
  match x, h with
  | .d d, h => exact ⟨d, m.dp r, h⟩
  | .p n, ⟨xs, ds, h1, h2, h⟩ =>
    obtain ⟨a, rfl, ha⟩ := r
    obtain ⟨a', e1, e2, vs, e3, e4⟩ := m.ob n _ h1
    obtain rfl := Option.some.inj (ha.symm.trans e1)
    subst h2
    have r' := repA_of e4
    have : Rep (upd W.F a (.lst vs)) (.ref a) (.list ds) := .lst upd_same (RepA.mono (fun b o _ q => (upd_ne (ne_of_none q e2)).trans q) _ _ r')
    refine ⟨.list ds, Rep.dp (F := upd W.F a (.lst vs)) (fun b o h q => ?_) this, h⟩
    by_cases z : b = a
    · subst z; rw [upd_same] at q; rw [← q]; exact e3
    · rw [upd_ne z] at q; exact m.fz' b o h q
end
end
end Dt


set_option autoImplicit false
set_option Elab.async false
set_option autoImplicit false
set_option linter.all false
set_option maxRecDepth 100000
set_option maxHeartbeats 4000000
/-! The data layer: operators of lists, comparisons, tests, calls of built-ins. -/
namespace Dt
open PySem L2 Kt
theorem opR_or {X : Cx} {f : Value → Value → Sem Value} {r r' : R2} (h : OpR X f r) (h' : OpR X f r') : OpR X f (fun x y H Q => r x y H Q ∨ r' x y H Q) := fun pins s σ H x y v u Q I rx ry q => q.elim (h pins s σ H x y v u Q I rx ry) (h' pins s σ H x y v u Q I rx ry)
theorem callR_or {X : Cx} {f : Value} {r r' : List V → Hp → VK → Prop} (h : CallR X f r) (h' : CallR X f r') : CallR X f (fun x H Q => r x H Q ∨ r' x H Q) := fun pins s σ H x u Q I rx q => q.elim (h pins s σ H x u Q I rx) (h' pins s σ H x u Q I rx)

section
variable {w : Ww}
/-! ### + and * of ints and of lists -/
def dAdd (m : Bool) : Vd → Vd → TEd := fun x y s q => match x with
  | .d (.int i) => dInt y fun j => q (.d (.int (i + j))) s
  | x => dList x s fun ds => dList y s fun es => ds.length + es.length ≤ sizeLine ∧ mkL m (ds ++ es) s q
def rAddU : R2 := fun x y H Q => rI0 (fun i j => .int (i + j)) x y H Q ∨ rCat x y H Q
theorem op_addU {X : Cx} : OpR X (binaryOp .Add) rAddU := opR_or op_add op_cat
theorem abr_cat {m : Bool} {G : Gm} {W : Wd} {s : Sd} {σ : L2.St} {H : Hp} {v1 v2 : V} {x y : Vd} {Q : VK} {q : Vd → Sd → Prop} (M1 : M w G W s σ H) (r1 : RepV W G.δ v1 x) (r2 : RepV W G.δ v2 y) (k : Ko w G W σ Q q)
    (h : dList x s fun ds => dList y s fun es => ds.length + es.length ≤ sizeLine ∧ mkL m (ds ++ es) s q) : rCat v1 v2 H Q := by
  obtain ⟨a, vs, ds, rfl, e1, t1, h⟩ := dList_of M1 r1 h
  obtain ⟨b, us, es, rfl, e2, t2, hl, h⟩ := dList_of M1 r2 h
  exact ⟨a, b, vs, us, rfl, rfl, e1, e2, by rw [t1.len, t2.len]; exact hl, fun p hp => M1.newL m hp (t1.append t2) k h⟩
theorem abr_add (m : Bool) : AbR w rAddU (dAdd m) := fun G W s σ H v1 v2 x y Q q M1 r1 r2 k h => by
  match x, h with
  | .d (.int i), h =>
    cases r1
    obtain ⟨j, rfl, rfl, h⟩ := dInt_of r2 h
    exact .inl ⟨i, j, rfl, rfl, k.md M1 (.int _) h⟩
  | .d .none, h => exact h.elim
  | .d (.bool _), h => exact h.elim
  | .d (.str _), h => exact h.elim
  | .d (.tuple _), h => exact h.elim
  | .d (.dict _), h => exact h.elim
  | .dc _, h => exact h.elim
  | .dr, h => exact h.elim
  | .d (.list _), h => exact .inr (abr_cat M1 r1 r2 k h)
  | .p _, h => exact .inr (abr_cat M1 r1 r2 k h)
theorem op_sub' {X : Cx} : OpR X (binaryOp .Sub) (rI0 fun i j => .int (i - j)) := op_sub
def dSub : Vd → Vd → TEd := dII0 fun i j => .int (i - j)
theorem abr_sub : AbR w (rI0 fun i j => .int (i - j)) dSub := abr_I0 fun i j => .inl ⟨_, rfl, rfl⟩
def dMul (m : Bool) : Vd → Vd → TEd := fun x y s q => match x with
  | .d (.int i) => dInt y fun j => CMul i j ∧ q (.d (.int (i * j))) s
  | x => dList x s fun ds => dInt y fun k => 0 ≤ k ∧ k ≤ 1000 ∧ ds.length ≤ 1000 ∧ mkL m (List.replicate k.toNat ds).flatten s q
def rMulU : R2 := fun x y H Q => rI CMul (fun i j => .int (i * j)) x y H Q ∨ rRep x y H Q
theorem op_mulU {X : Cx} : OpR X (binaryOp .Mult) rMulU := opR_or op_mul op_rep
def dMod : Vd → Vd → TEd := dII (fun _ j => 0 < j) fun i j => .int (i % j)
theorem abr_mod : AbR w (rI (fun _ j => 0 < j) fun i j => .int (i % j)) dMod := abr_I fun i j => .inl ⟨_, rfl, rfl⟩
def dDiv : Vd → Vd → TEd := dII CDiv fun i j => .int (i / j)
theorem abr_div : AbR w (rI CDiv fun i j => .int (i / j)) dDiv := abr_I fun i j => .inl ⟨_, rfl, rfl⟩
/-! ### comparisons -/
def dLt : Vd → Vd → TEd := dII0 fun i j => .bool (decide (i < j))
theorem abr_lt : AbR w (rI0 fun i j => .bl (decide (i < j))) dLt := abr_I0 fun i j => .inr ⟨_, rfl, rfl⟩
def dLe : Vd → Vd → TEd := dII0 fun i j => .bool (decide (i ≤ j))
theorem abr_le : AbR w (rI0 fun i j => .bl (decide (i ≤ j))) dLe := abr_I0 fun i j => .inr ⟨_, rfl, rfl⟩
def dGt : Vd → Vd → TEd := dII0 fun i j => .bool (decide (j < i))
theorem abr_gt : AbR w (rI0 fun i j => .bl (decide (j < i))) dGt := abr_I0 fun i j => .inr ⟨_, rfl, rfl⟩
def dGe : Vd → Vd → TEd := dII0 fun i j => .bool (decide (j ≤ i))
theorem abr_ge : AbR w (rI0 fun i j => .bl (decide (j ≤ i))) dGe := abr_I0 fun i j => .inr ⟨_, rfl, rfl⟩
/-- whether a list's data may be compared: not too deep -/
def Shp (d : PyData) : Prop := SeqAt.shaped d = true
@[irreducible] def eqvI (d e : PyData) : Bool := PyData.eqv d e
theorem eqvI_eq {d e : PyData} : eqvI d e = PyData.eqv d e := by unfold eqvI; rfl
theorem eqvI_dL (xs ys : List Int) : eqvI (dL xs) (dL ys) = decide (xs = ys) := eqvI_eq.trans (eqv_dL xs ys)
def dEqW (neg : Bool) : Vd → Vd → TEd := fun x y s q => dPure x s fun d => dPure y s fun e => Shp d ∧ Shp e ∧ q (.d (.bool (neg ^^ eqvI d e))) s
def dEqG (neg : Bool) : Vd → Vd → TEd := fun x y s q => match x, y with
  | .d (.int i), .d (.int j) => q (.d (.bool (neg ^^ decide (i = j)))) s
  | .d (.str i), .d (.str j) => q (.d (.bool (neg ^^ decide (i = j)))) s
  | .d (.bool i), .d (.bool j) => q (.d (.bool (neg ^^ decide (i = j)))) s
  | x, y => dEqW neg x y s q
def rEqU (K : PySem.W.Frag) : R2 := fun x y H Q => rEq x y H Q ∨ rEqD K x y H Q
def rNeU (K : PySem.W.Frag) : R2 := fun x y H Q => rNe x y H Q ∨ rNeD K x y H Q
theorem op_eqU {X : Cx} (hu : X.A.units + 64 < cLine) : OpR X (compareOp .Eq) (rEqU X.K) := opR_or op_eq (op_eqD hu)
theorem op_neU {X : Cx} (hu : X.A.units + 64 < cLine) : OpR X (compareOp .NotEq) (rNeU X.K) := opR_or op_ne (op_neD hu)
abbrev dEq : Vd → Vd → TEd := dEqG false
abbrev dNe : Vd → Vd → TEd := dEqG true
theorem dEqG_cases {neg : Bool} {x y : Vd} {s : Sd} {q : Vd → Sd → Prop} (h : dEqG neg x y s q) : (∃ i j, x = .d (.int i) ∧ y = .d (.int j) ∧ q (.d (.bool (neg ^^ decide (i = j)))) s) ∨ (∃ i j, x = .d (.str i) ∧ y = .d (.str j) ∧ q (.d (.bool (neg ^^ decide (i = j)))) s) ∨
    (∃ i j, x = .d (.bool i) ∧ y = .d (.bool j) ∧ q (.d (.bool (neg ^^ decide (i = j)))) s) ∨ dEqW neg x y s q := by
  unfold dEqG at h
  split at h
  · exact .inl ⟨_, _, rfl, rfl, h⟩
  · exact .inr (.inl ⟨_, _, rfl, rfl, h⟩)
  · exact .inr (.inr (.inl ⟨_, _, rfl, rfl, h⟩))
  · exact .inr (.inr (.inr h))
theorem abr_eq {K : PySem.W.Frag} : AbR w (rEqU K) dEq := fun G W s σ H v1 v2 x y Q q M1 r1 r2 k h => by
  rcases dEqG_cases h with ⟨i, j, rfl, rfl, h2⟩ | ⟨i, j, rfl, rfl, h2⟩ | ⟨i, j, rfl, rfl, h2⟩ | h2
  · cases r1; cases r2
    refine .inl ⟨rfl, ?_⟩
    have e : decide (V.int i = V.int j) = decide (i = j) := by rw [decide_eq_decide]; exact ⟨fun z => V.int.inj z, fun z => by rw [z]⟩
    rw [e]
    rw [Bool.false_xor] at h2
    exact k.md M1 (.bl _) h2
  · cases r1; cases r2
    refine .inl ⟨rfl, ?_⟩
    have e : decide (V.str i = V.str j) = decide (i = j) := by rw [decide_eq_decide]; exact ⟨fun z => V.str.inj z, fun z => by rw [z]⟩
    rw [e]
    rw [Bool.false_xor] at h2
    exact k.md M1 (.bl _) h2
  · cases r1; cases r2
    refine .inl ⟨rfl, ?_⟩
    have e : decide (V.bl i = V.bl j) = decide (i = j) := by rw [decide_eq_decide]; exact ⟨fun z => V.bl.inj z, fun z => by rw [z]⟩
    rw [e]
    rw [Bool.false_xor] at h2
    exact k.md M1 (.bl _) h2
  · obtain ⟨d, p1, h⟩ := dPure_of (K := K) M1 r1 h2
    obtain ⟨e, p2, s1, s2, h⟩ := dPure_of (K := K) M1 r2 h
    rw [Bool.false_xor, eqvI_eq] at h
    exact .inr ⟨d, e, p1, p2, s1, s2, k.md M1 (.bl _) h⟩
theorem abr_ne {K : PySem.W.Frag} : AbR w (rNeU K) dNe := fun G W s σ H v1 v2 x y Q q M1 r1 r2 k h => by
  rcases dEqG_cases h with ⟨i, j, rfl, rfl, h2⟩ | ⟨i, j, rfl, rfl, h2⟩ | ⟨i, j, rfl, rfl, h2⟩ | h2
  · cases r1; cases r2
    refine .inl ⟨rfl, ?_⟩
    have e : decide (V.int i = V.int j) = decide (i = j) := by rw [decide_eq_decide]; exact ⟨fun z => V.int.inj z, fun z => by rw [z]⟩
    rw [e]
    rw [Bool.true_xor] at h2
    exact k.md M1 (.bl _) h2
  · cases r1; cases r2
    refine .inl ⟨rfl, ?_⟩
    have e : decide (V.str i = V.str j) = decide (i = j) := by rw [decide_eq_decide]; exact ⟨fun z => V.str.inj z, fun z => by rw [z]⟩
    rw [e]
    rw [Bool.true_xor] at h2
    exact k.md M1 (.bl _) h2
  · cases r1; cases r2
    refine .inl ⟨rfl, ?_⟩
    have e : decide (V.bl i = V.bl j) = decide (i = j) := by rw [decide_eq_decide]; exact ⟨fun z => V.bl.inj z, fun z => by rw [z]⟩
    rw [e]
    rw [Bool.true_xor] at h2
    exact k.md M1 (.bl _) h2
  · obtain ⟨d, p1, h⟩ := dPure_of (K := K) M1 r1 h2
    obtain ⟨e, p2, s1, s2, h⟩ := dPure_of (K := K) M1 r2 h
    rw [Bool.true_xor, eqvI_eq] at h
    exact .inr ⟨d, e, p1, p2, s1, s2, k.md M1 (.bl _) h⟩
def isN : Vd → Bool
  | .d .none => true
  | _ => false
theorem isN_of {W : Wd} {δ : Option Addr} {v : V} {x : Vd} (r : RepV W δ v x) : decide (v = .non) = isN x := by
  match x with
  | .d .none => cases r; rfl
  | .d (.bool _) => cases r; rfl
  | .d (.int _) => cases r; rfl
  | .d (.str _) => cases r; rfl
  | .d (.list _) => cases r; rfl
  | .d (.tuple _) => cases r; rfl
  | .d (.dict _) => cases r
  | .dc _ => obtain ⟨a, ks, rfl, _⟩ := r; rfl
  | .p _ => obtain ⟨a, rfl, _⟩ := r; rfl
  | .dr => obtain ⟨a, rfl, _⟩ := r; rfl
def dIsN : Vd → Vd → TEd := fun x y s q => match y with
  | .d .none => q (.d (.bool (isN x))) s
  | _ => False
theorem abr_isN : AbR w (fun x y H Q => y = .non ∧ Q (.bl (decide (x = .non))) H) dIsN := fun G W s σ H v1 v2 x y Q q M1 r1 r2 k h => by
  match y, h with
  | .d .none, h =>
    cases r2
    show _ ∧ Q (V.bl (decide (v1 = .non))) H
    rw [isN_of r1]
    exact ⟨rfl, k.md M1 (.bl _) h⟩
def dNotN : Vd → Vd → TEd := fun x y s q => match y with
  | .d .none => q (.d (.bool (!isN x))) s
  | _ => False
theorem abr_notN : AbR w (fun x y H Q => y = .non ∧ Q (.bl (!decide (x = .non))) H) dNotN := fun G W s σ H v1 v2 x y Q q M1 r1 r2 k h => by
  match y, h with
  | .d .none, h =>
    cases r2
    show _ ∧ Q (V.bl (!decide (v1 = .non))) H
    rw [isN_of r1]
    exact ⟨rfl, k.md M1 (.bl _) h⟩
/-- an int in a list of ints -/
theorem inV_ints (k : Int) (ns : List Int) : inV (.int k) (ns.map V.int) = decide (k ∈ ns) := by
  unfold inV
  rw [List.any_map]
  induction ns with
  | nil => rfl
  | cons n ns ih =>
    rw [List.any_cons, ih]
    show ((n == k) || _) = _
    by_cases h : n = k
    · subst h; simp
    · have h' : ¬ k = n := fun z => h z.symm
      have : (n == k) = false := by simp [h]
      rw [this]
      simp [h']
theorem flat_ns (ns : List Int) : (ns.map V.int).all flatV = true := by rw [List.all_eq_true]; intro v hv; obtain ⟨n, _, rfl⟩ := List.mem_map.mp hv; rfl
def dIn (neg : Bool) : Vd → Vd → TEd := fun x y s q => dInt x fun k => dList y s fun ds => ∃ ns : List Int, ds = ns.map PyData.int ∧ q (.d (.bool (if neg then !decide (k ∈ ns) else decide (k ∈ ns)))) s
theorem abr_in {K : PySem.W.Frag} (neg : Bool) : AbR w (rIn K neg) (dIn neg) := fun G W s σ H v1 v2 x y Q q M1 r1 r2 k h => by
  obtain ⟨i, rfl, rfl, h⟩ := dInt_of r1 h
  obtain ⟨a, vs, ds, rfl, e1, t1, ns, rfl, h⟩ := dList_of M1 r2 h
  obtain rfl := RepA.ofInts t1
  refine ⟨a, _, rfl, .inl (SqL.of e1), rfl, flat_ns ns, ?_⟩
  rw [inV_ints]
  exact k.md M1 (.bl _) h
/-! ### subscripts, slices -/
def dIx : Vd → Vd → TEd := fun x y s q => match x with
  | .d (.list ds) => dInt y fun i => ∃ d, atI ds i = some d ∧ q (.d d) s
  | .d (.tuple ds) => dInt y fun i => ∃ d, atI ds i = some d ∧ q (.d d) s
  | .p n => dInt y fun i => ∃ xs z, s.o[n]? = some (some (.lst xs)) ∧ atI xs i = some z ∧ q z s
  | _ => False
theorem atI_len {α β : Type} {R : α → β → Prop} {xs : List α} {ys : List β} {i : Int} {y : β} (hl : xs.length = ys.length) (h : atI ys i = some y) : ∃ j x, ixN ys.length i = some j ∧ ys[j]? = some y ∧ xs[j]? = some x ∧ atI xs i = some x := by
  unfold atI at h
  cases e : ixN ys.length i with
  | none => rw [e] at h; cases h
  | some j =>
    rw [e] at h
    have h' : ys[j]? = some y := h
    have lt : j < xs.length := by rw [hl]; exact (List.getElem?_eq_some_iff.mp h').1
    refine ⟨j, xs[j], rfl, h', List.getElem?_eq_getElem lt, ?_⟩
    unfold atI
    rw [hl, e]
    exact List.getElem?_eq_getElem lt
theorem paired_get' {α β : Type} {R : α → β → Prop} {l : List α} {m : List β} {i : Nat} {x : α} {y : β} (p : Paired R l m) (hx : l[i]? = some x) (hy : m[i]? = some y) : R x y := by
  obtain ⟨y', h1, h2⟩ := pget p hx
  rw [hy] at h1
  obtain rfl := Option.some.inj h1
  exact h2
theorem RepA.paired {F : Hp} : ∀ {vs : List V} {ds : List PyData}, RepA F vs ds → Paired (Rep F) vs ds
  | _, _, .nil => .nil
  | _, _, .cons r t => .cons r t.paired
theorem abr_ix {K : PySem.W.Frag} : AbR w (rIx K) dIx := fun G W s σ H v1 v2 x y Q q M1 r1 r2 k h => by
  match x, h with
  | .d (.list ds), h =>
    obtain ⟨i, rfl, rfl, d, hd, h⟩ := dInt_of r2 h
    cases r1 with
    | lst e t =>
      obtain ⟨j, v, h1, h2, h3, h4⟩ := atI_len (R := Rep W.F) t.len hd
      exact .inl ⟨_, _, i, v, rfl, rfl, SqL.of (M1.fz' _ _ ⟨_, .inl rfl⟩ e), h4, k.md M1 (paired_get' t.paired h3 h2) h⟩
  | .d (.tuple ds), h =>
    obtain ⟨i, rfl, rfl, d, hd, h⟩ := dInt_of r2 h
    cases r1 with
    | tup e t =>
      obtain ⟨j, v, h1, h2, h3, h4⟩ := atI_len (R := Rep W.F) t.len hd
      exact .inr (.inl ⟨_, _, i, v, rfl, rfl, SqT.of (M1.fz' _ _ ⟨_, .inr rfl⟩ e), h4, k.md M1 (paired_get' t.paired h3 h2) h⟩)
  | .p n, h =>
    obtain ⟨i, rfl, rfl, xs, z, ho, hz, h⟩ := dInt_of r2 h
    obtain ⟨a, rfl, ha⟩ := r1
    obtain ⟨a', e1, e2, vs, e3, e4⟩ := M1.ob n _ ho
    obtain rfl := Option.some.inj (ha.symm.trans e1)
    obtain ⟨j, v, h1, h2, h3, h4⟩ := atI_len (R := RepV W G.δ) e4.length hz
    exact .inl ⟨_, _, i, v, rfl, rfl, SqL.of e3, h4, k.m M1 (paired_get' e4 h3 h2) h⟩
/-- xs[lo:hi] -/
def cutA {α : Type} (xs : List α) (lo hi : Option Int) : List α := (xs.drop (HT.sIx xs.length 0 lo)).take (HT.sIx xs.length xs.length hi - HT.sIx xs.length 0 lo)
abbrev TOd := Sd → (Option Int → Sd → Prop) → Prop
variable (w) in
def AbO (t : TO) (u : TOd) : Prop := ∀ (G : Gm) (W : Wd) (s : Sd) (σ : L2.St) (H : Hp) (Q : Option Int → Hp → Prop) (q : Option Int → Sd → Prop), M w G W s σ H → (∀ W' s' H' b, Ext W W' → M w G W' s' σ H' → q b s' → Q b H') → u s q → t σ H Q
def uNoPart : TOd := fun s q => q none s
theorem ab_nopart : AbO w tNoPart uNoPart := fun G W s σ H Q q m k h => k W s H none (Ext.refl W) m h
def uPart (u : TEd) : TOd := fun s q => u s fun x s1 => dInt x fun i => q (some i) s1
theorem ab_part {t : TE} {u : TEd} (h : AbE w t u) : AbO w (tPart t) (uPart u) := fun G W s σ H Q q m k hu =>
  h G W s σ H _ _ m (fun W1 s1 H1 v x e1 m1 r1 h1 => by
    obtain ⟨i, rfl, rfl, h1⟩ := dInt_of r1 h1
    exact ⟨i, rfl, k _ _ _ _ e1 m1 h1⟩) hu
def uSl (m : Bool) (ux : TEd) (ul uh : TOd) : TEd := fun s q => ux s fun x s1 => ul s1 fun l s2 => uh s2 fun h s3 => dList x s3 fun ds => mkL m (cutA ds l h) s3 q
theorem ab_sl {K : PySem.W.Frag} (m : Bool) {t : TE} {tl th : TO} {ux : TEd} {ul uh : TOd} (hx : AbE w t ux) (hl : AbO w tl ul) (hh : AbO w th uh) : AbE w (tSl (rSlL K) t tl th) (uSl m ux ul uh) := fun G W s σ H Q q M0 k h => by
  refine hx G W s σ H _ _ M0 (fun W1 s1 H1 v x e1 m1 r1 h1 => ?_) h
  refine hl G W1 s1 σ H1 _ _ m1 (fun W2 s2 H2 b e2 m2 h2 => ?_) h1
  refine hh G W2 s2 σ H2 _ _ m2 (fun W3 s3 H3 c e3 m3 h3 => ?_) h2
  obtain ⟨a, vs, ds, rfl, f1, t1, h3⟩ := dList_of m3 (r1.ext (e2.trans e3)) h3
  refine ⟨a, vs, rfl, SqL.of f1, fun p hp => m3.newL m hp ?_ (k.up (e1.trans (e2.trans e3))) h3⟩
  unfold cutA cutV
  rw [t1.len]
  exact (t1.drop _).take _

/-! ### tests -/
def dB (x : Vd) (k : Bool → Prop) : Prop := match x with
  | .d (.bool b) => k b
  | _ => False
theorem dB_of {W : Wd} {δ : Option Addr} {v : V} {x : Vd} {k : Bool → Prop} (r : RepV W δ v x) (h : dB x k) : ∃ b, v = .bl b ∧ k b := by
  match x, h with
  | .d (.bool b), h => cases r; exact ⟨b, rfl, h⟩
def uT (u : TEd) : TTd := fun s q => u s fun x s1 => dB x fun b => q b s1
theorem abt_test {t : TE} {u : TEd} (h : AbE w t u) : AbT w (tTest t) (uT u) := fun G W s σ H Q q m k hu =>
  h G W s σ H _ _ m (fun W1 s1 H1 v x e1 m1 r1 h1 => by
    obtain ⟨b, rfl, h1⟩ := dB_of r1 h1
    exact ⟨b, rfl, k _ _ _ _ e1 m1 h1⟩) hu
theorem abt_val {t : TE} {u : TEd} (h : AbE w t u) : AbT w (tB t) (uT u) := abt_test h
def uAnd (u v : TTd) : TTd := fun s q => u s fun b s1 => if b = true then v s1 q else q false s1
theorem abt_and {t t' : TT} {u u' : TTd} (h : AbT w t u) (h' : AbT w t' u') : AbT w (tAnd t t') (uAnd u u') := fun G W s σ H Q q m k hu =>
  h G W s σ H _ _ m (fun W1 s1 H1 b e1 m1 h1 => by
    cases b with
    | true => exact h' G W1 s1 σ H1 Q q m1 (k.up e1) h1
    | false => exact k _ _ _ _ e1 m1 h1) hu
def uOr (u v : TTd) : TTd := fun s q => u s fun b s1 => if b = true then q true s1 else v s1 q
theorem abt_or {t t' : TT} {u u' : TTd} (h : AbT w t u) (h' : AbT w t' u') : AbT w (tOr t t') (uOr u u') := fun G W s σ H Q q m k hu =>
  h G W s σ H _ _ m (fun W1 s1 H1 b e1 m1 h1 => by
    cases b with
    | false => exact h' G W1 s1 σ H1 Q q m1 (k.up e1) h1
    | true => exact k _ _ _ _ e1 m1 h1) hu
def uNot (u : TTd) : TTd := fun s q => u s fun b s1 => q (!b) s1
theorem abt_not {t : TT} {u : TTd} (h : AbT w t u) : AbT w (tNot t) (uNot u) := fun G W s σ H Q q m k hu => h G W s σ H _ _ m (fun W1 s1 H1 b e1 m1 h1 => k _ _ _ _ e1 m1 h1) hu
def uAndV (u v : TEd) : TEd := fun s q => u s fun x s1 => dB x fun b => if b = true then v s1 q else q (.d (.bool false)) s1
theorem ab_andV {t t' : TE} {u u' : TEd} (h : AbE w t u) (h' : AbE w t' u') : AbE w (tAndV t t') (uAndV u u') := fun G W s σ H Q q m k hu =>
  h G W s σ H _ _ m (fun W1 s1 H1 v x e1 m1 r1 h1 => by
    obtain ⟨b, rfl, h1⟩ := dB_of r1 h1
    refine ⟨b, rfl, ?_⟩
    cases b with
    | true => exact h' G W1 s1 σ H1 Q q m1 (k.up e1) h1
    | false => exact k _ _ _ _ (.d (.bool false)) e1 m1 (Rep.bl false) h1) hu
def uOrV (u v : TEd) : TEd := fun s q => u s fun x s1 => dB x fun b => if b = true then q (.d (.bool true)) s1 else v s1 q
theorem ab_orV {t t' : TE} {u u' : TEd} (h : AbE w t u) (h' : AbE w t' u') : AbE w (tOrV t t') (uOrV u u') := fun G W s σ H Q q m k hu =>
  h G W s σ H _ _ m (fun W1 s1 H1 v x e1 m1 r1 h1 => by
    obtain ⟨b, rfl, h1⟩ := dB_of r1 h1
    refine ⟨b, rfl, ?_⟩
    cases b with
    | false => exact h' G W1 s1 σ H1 Q q m1 (k.up e1) h1
    | true => exact k _ _ _ _ (.d (.bool true)) e1 m1 (Rep.bl true) h1) hu
def uNotV (u : TEd) : TEd := fun s q => u s fun x s1 => dB x fun b => q (.d (.bool (!b))) s1
theorem ab_notV {t : TE} {u : TEd} (h : AbE w t u) : AbE w (tNotV t) (uNotV u) := fun G W s σ H Q q m k hu =>
  h G W s σ H _ _ m (fun W1 s1 H1 v x e1 m1 r1 h1 => by
    obtain ⟨b, rfl, h1⟩ := dB_of r1 h1
    exact ⟨b, rfl, k _ _ _ _ (.d (.bool (!b))) e1 m1 (Rep.bl _) h1⟩) hu
def uIfE (c : TTd) (a b : TEd) : TEd := fun s q => c s fun x s1 => if x = true then a s1 q else b s1 q
theorem ab_if {c : TT} {a b : TE} {uc : TTd} {ua ub : TEd} (hc : AbT w c uc) (ha : AbE w a ua) (hb : AbE w b ub) : AbE w (tIf c a b) (uIfE uc ua ub) := fun G W s σ H Q q m k hu =>
  hc G W s σ H _ _ m (fun W1 s1 H1 x e1 m1 h1 => by
    cases x with
    | true => exact ha G W1 s1 σ H1 Q q m1 (k.up e1) h1
    | false => exact hb G W1 s1 σ H1 Q q m1 (k.up e1) h1) hu
/-! ### argument lists -/
def uNil : TAd := fun s q => q [] s
def uCons (u : TEd) (v : TAd) : TAd := fun s q => u s fun x s1 => v s1 fun xs s2 => q (x :: xs) s2
theorem aba_nil : AbA w tNil uNil := fun G W s σ H Q q m k h => k W s H [] [] (Ext.refl W) m .nil h
theorem aba_cons {t : TE} {ts : TA} {u : TEd} {us : TAd} (h : AbE w t u) (hs : AbA w ts us) : AbA w (tCons t ts) (uCons u us) := fun G W s σ H Q q m k hu =>
  h G W s σ H _ _ m (fun W1 s1 H1 v x e1 m1 r1 h1 => hs G W1 s1 σ H1 _ _ m1 (fun W2 s2 H2 vs xs e2 m2 r2 h2 => k W2 s2 H2 _ _ (e1.trans e2) m2 (.cons (r1.ext e2) r2) h2) h1) hu
/-- at most a hundred of them (written ones) -/
def dFew (xs : List Vd) (k : Prop) : Prop := match xs.length.ble 100 with
  | true => k
  | false => False
theorem dFew_of {xs : List Vd} {k : Prop} (h : dFew xs k) : xs.length ≤ sizeLine ∧ k := by
  unfold dFew at h
  cases e : xs.length.ble 100 with
  | false => rw [e] at h; exact h.elim
  | true =>
    rw [e] at h
    exact ⟨Nat.le_trans (Nat.le_of_ble_eq_true e) (by rw [sizeLine_eq]; decide), h⟩
def uLst (m : Bool) (u : TAd) : TEd := fun s q => u s fun xs s1 => dFew xs (mkV m xs s1 q)
theorem ab_lst (m : Bool) {t : TA} {u : TAd} (h : AbA w t u) : AbE w (tLst t) (uLst m u) := fun G W s σ H Q q M0 k hu =>
  h G W s σ H _ _ M0 (fun W1 s1 H1 vs xs e1 m1 r1 h0 => by
    obtain ⟨hl, h1⟩ := dFew_of h0
    exact ⟨by rw [r1.length]; exact hl, fun p hp => m1.newV m hp r1 (k.up e1) h1⟩) hu
def uTup (u : TAd) : TEd := fun s q => u s fun xs s1 => dFew xs (dPures xs fun ds => q (.d (.tuple ds)) s1)
theorem ab_tup {t : TA} {u : TAd} (h : AbA w t u) : AbE w (tTup t) (uTup u) := fun G W s σ H Q q M0 k hu =>
  h G W s σ H _ _ M0 (fun W1 s1 H1 vs xs e1 m1 r1 h0 => by
    obtain ⟨hl, h0⟩ := dFew_of h0
    obtain ⟨ds, hd, h1⟩ := dPures_of h0
    refine ⟨by rw [r1.length]; exact hl, fun p hp => ?_⟩
    subst hd
    obtain ⟨e, m'⟩ := m1.newF (o := .tup vs) hp
    exact k _ _ _ _ (.d (.tuple ds)) (e1.trans e) m' (show Rep _ _ _ from .tup upd_same (repA_of (repVs_ext e r1))) h1) hu
/-! written lists and tuples of data -/
abbrev TPd := Sd → (List PyData → Sd → Prop) → Prop
variable (w) in
def AbP (n : Nat) (t : TA) (u : TPd) : Prop := ∀ (G : Gm) (W : Wd) (s : Sd) (σ : L2.St) (H : Hp) (Q : List V → Hp → Prop) (q : List PyData → Sd → Prop), M w G W s σ H → (∀ W' s' H' vs ds, Ext W W' → M w G W' s' σ H' → RepA W'.F vs ds → ds.length = n → q ds s' → Q vs H') → u s q → t σ H Q
def uNilP : TPd := fun s q => q [] s
def uConsP (u : TEd) (v : TPd) : TPd := fun s q => u s fun x s1 => match x with
  | .d d => v s1 fun ds s2 => q (d :: ds) s2
  | _ => False
theorem abp_nil : AbP w 0 tNil uNilP := fun G W s σ H Q q m k h => k W s H [] [] (Ext.refl W) m .nil rfl h
theorem abp_cons {n : Nat} {t : TE} {ts : TA} {u : TEd} {us : TPd} (h : AbE w t u) (hs : AbP w n ts us) : AbP w (n + 1) (tCons t ts) (uConsP u us) := fun G W s σ H Q q m k hu =>
  h G W s σ H _ _ m (fun W1 s1 H1 v x e1 m1 r1 h1 => by
    match x, r1, h1 with
    | .d d, r1, h1 =>
      exact hs G W1 s1 σ H1 _ _ m1 (fun W2 s2 H2 vs ds e2 m2 r2 l2 h2 => k W2 s2 H2 _ _ (e1.trans e2) m2 (.cons (RepV.ext (x := .d d) e2 r1) r2) (by rw [List.length_cons, l2]) h2) h1) hu
def uLstP (m : Bool) (u : TPd) : TEd := fun s q => u s fun ds s1 => mkL m ds s1 q
theorem ab_lstP (m : Bool) {n : Nat} {t : TA} {u : TPd} (h : AbP w n t u) (hn : n ≤ 100 := by decide) : AbE w (tLst t) (uLstP m u) := fun G W s σ H Q q M0 k hu =>
  h G W s σ H _ _ M0 (fun W1 s1 H1 vs ds e1 m1 r1 l1 h1 => ⟨by rw [r1.len, l1, sizeLine_eq]; omega, fun p hp => m1.newL m hp r1 (k.up e1) h1⟩) hu
def uTupP (u : TPd) : TEd := fun s q => u s fun ds s1 => q (.d (.tuple ds)) s1
theorem ab_tupP {n : Nat} {t : TA} {u : TPd} (h : AbP w n t u) (hn : n ≤ 100 := by decide) : AbE w (tTup t) (uTupP u) := fun G W s σ H Q q M0 k hu =>
  h G W s σ H _ _ M0 (fun W1 s1 H1 vs ds e1 m1 r1 l1 h1 => ⟨by rw [r1.len, l1, sizeLine_eq]; omega, fun p hp => by
    obtain ⟨e, m'⟩ := m1.newF (o := .tup vs) hp
    exact k _ _ _ _ (.d (.tuple ds)) (e1.trans e) m' (show Rep _ _ _ from .tup upd_same (RepA.mono (fun a o _ q => e.1 a o q) _ _ r1)) h1⟩) hu
/-- a call of a built-in by values -/
def uCB (rd : List Vd → TEd) (u : TAd) : TEd := fun s q => u s fun xs s1 => rd xs s1 q
theorem ab_cb {r : List V → Hp → VK → Prop} {rd : List Vd → TEd} {t : TA} {u : TAd} (hr : AbC w r rd) (h : AbA w t u) : AbE w (tCB r t) (uCB rd u) := fun G W s σ H Q q M0 k hu =>
  h G W s σ H _ _ M0 (fun W1 s1 H1 vs xs e1 m1 r1 h1 => hr G W1 s1 σ H1 vs xs Q q m1 r1 (k.up e1) h1) hu
end
end Dt


set_option autoImplicit false
set_option Elab.async false
set_option autoImplicit false
set_option linter.all false
set_option maxRecDepth 100000
set_option maxHeartbeats 4000000
/-! The data layer: built-ins by values, methods of lists, statements. -/
namespace Dt
open PySem L2 Kt
section
variable {w : Ww}
/-! ### built-ins -/
def d1 (xs : List Vd) (k : Vd → Prop) : Prop := match xs with
  | [x] => k x
  | _ => False
def d2 (xs : List Vd) (k : Vd → Vd → Prop) : Prop := match xs with
  | [x, y] => k x y
  | _ => False
theorem d1_of {R : V → Vd → Prop} {vs : List V} {xs : List Vd} {k : Vd → Prop} (r : Paired R vs xs) (h : d1 xs k) : ∃ v x, vs = [v] ∧ xs = [x] ∧ R v x ∧ k x := by
  match xs, h with
  | [x], h =>
    cases r with
    | cons r t => cases t; exact ⟨_, x, rfl, rfl, r, h⟩
theorem d2_of {R : V → Vd → Prop} {vs : List V} {xs : List Vd} {k : Vd → Vd → Prop} (r : Paired R vs xs) (h : d2 xs k) : ∃ v u x y, vs = [v, u] ∧ R v x ∧ R u y ∧ k x y := by
  match xs, h with
  | [x, y], h =>
    cases r with
    | cons r t =>
      cases t with
      | cons r2 t => cases t; exact ⟨_, _, x, y, rfl, r, r2, h⟩
def dLen : List Vd → TEd := fun xs s q => d1 xs fun x => match x with
  | .d (.list ds) => q (.d (.int ds.length)) s
  | .d (.tuple ds) => q (.d (.int ds.length)) s
  | .p n => ∃ xs, s.o[n]? = some (some (.lst xs)) ∧ q (.d (.int xs.length)) s
  | _ => False
theorem abc_len {K : PySem.W.Frag} : AbC w (fun xs H Q => ∃ p ys, xs = [.ref p] ∧ (SqL K H p ys ∨ SqT K H p ys) ∧ Q (.int ys.length) H) dLen := fun G W s σ H vs xs Q q M1 r k h => by
  obtain ⟨v, x, rfl, rfl, r, h⟩ := d1_of r h
  match x, h with
  | .d (.list ds), h =>
    cases r with
    | lst e t => exact ⟨_, _, rfl, .inl (SqL.of (M1.fz' _ _ ⟨_, .inl rfl⟩ e)), by rw [t.len]; exact k.md M1 (.int _) h⟩
  | .d (.tuple ds), h =>
    cases r with
    | tup e t => exact ⟨_, _, rfl, .inr (SqT.of (M1.fz' _ _ ⟨_, .inr rfl⟩ e)), by rw [t.len]; exact k.md M1 (.int _) h⟩
  | .p n, ⟨xs, ho, h⟩ =>
    obtain ⟨a, rfl, ha⟩ := r
    obtain ⟨a', e1, e2, vs, e3, e4⟩ := M1.ob n _ ho
    obtain rfl := Option.some.inj (ha.symm.trans e1)
    exact ⟨_, _, rfl, .inl (SqL.of e3), by rw [e4.length]; exact k.md M1 (.int _) h⟩
def dListOf (m : Bool) : List Vd → TEd := fun xs s q => d1 xs fun x => dList x s fun ds => mkL m ds s q
theorem abc_list {K : PySem.W.Frag} (m : Bool) : AbC w (fun xs H Q => ∃ p ys, xs = [.ref p] ∧ (SqL K H p ys ∨ SqT K H p ys) ∧ ∀ l, H l = none → Q (.ref l) (upd H l (.lst ys))) (dListOf m) := fun G W s σ H vs xs Q q M1 r k h => by
  obtain ⟨v, x, rfl, rfl, r, h⟩ := d1_of r h
  obtain ⟨a, us, ds, rfl, e1, t1, h⟩ := dList_of M1 r h
  exact ⟨a, us, rfl, .inl (SqL.of e1), fun l hl => M1.newL m hl t1 k h⟩
def dSum : List Vd → TEd := fun xs s q => d1 xs fun x => dList x s fun ds => ∃ ns : List Int, ds = ns.map PyData.int ∧ q (.d (.int ns.sum)) s
theorem abc_sum {K : PySem.W.Frag} : AbC w (rSum K) dSum := fun G W s σ H vs xs Q q M1 r k h => by
  obtain ⟨v, x, rfl, rfl, r, h⟩ := d1_of r h
  obtain ⟨a, us, ds, rfl, e1, t1, ns, rfl, h⟩ := dList_of M1 r h
  obtain rfl := RepA.ofInts t1
  exact ⟨a, ns, rfl, SqL.of e1, k.md M1 (.int _) h⟩
def dSorted (m : Bool) : List Vd → TEd := fun xs s q => d1 xs fun x => dList x s fun ds => ∃ ns : List Int, ds = ns.map PyData.int ∧ mkL m ((srt ns).map PyData.int) s q
theorem abc_sorted {K : PySem.W.Frag} (m : Bool) : AbC w (rSortedI K) (dSorted m) := fun G W s σ H vs xs Q q M1 r k h => by
  obtain ⟨v, x, rfl, rfl, r, h⟩ := d1_of r h
  obtain ⟨a, us, ds, rfl, e1, t1, ns, rfl, h⟩ := dList_of M1 r h
  obtain rfl := RepA.ofInts t1
  refine ⟨a, ns, rfl, SqL.of e1, fun ns' p h1 h2 hp => ?_⟩
  rw [srt_of h1 h2]
  exact M1.newL m hp (RepA.ints _) k h
def dMin2 : List Vd → TEd := fun xs s q => d2 xs fun x y => dInt x fun i => dInt y fun j => q (.d (.int (if j < i then j else i))) s
theorem abc_min2 : AbC w (fun xs H Q => ∃ i j, xs = [.int i, .int j] ∧ Q (.int (if j < i then j else i)) H) dMin2 := fun G W s σ H vs xs Q q M1 r k h => by
  obtain ⟨v, u, x, y, rfl, r1, r2, h⟩ := d2_of r h
  obtain ⟨i, rfl, rfl, h⟩ := dInt_of r1 h
  obtain ⟨j, rfl, rfl, h⟩ := dInt_of r2 h
  exact ⟨i, j, rfl, k.md M1 (.int _) h⟩
def dMax2 : List Vd → TEd := fun xs s q => d2 xs fun x y => dInt x fun i => dInt y fun j => q (.d (.int (if j > i then j else i))) s
theorem abc_max2 : AbC w (fun xs H Q => ∃ i j, xs = [.int i, .int j] ∧ Q (.int (if j > i then j else i)) H) dMax2 := fun G W s σ H vs xs Q q M1 r k h => by
  obtain ⟨v, u, x, y, rfl, r1, r2, h⟩ := d2_of r h
  obtain ⟨i, rfl, rfl, h⟩ := dInt_of r1 h
  obtain ⟨j, rfl, rfl, h⟩ := dInt_of r2 h
  exact ⟨i, j, rfl, k.md M1 (.int _) h⟩
def dInt1 : List Vd → TEd := fun xs s q => d1 xs fun x => match x with
  | .d (.int i) => q (.d (.int i)) s
  | .d (.bool b) => q (.d (.int (if b then 1 else 0))) s
  | _ => False
theorem abc_int1 : AbC w (fun xs H Q => (∃ i, xs = [.int i] ∧ Q (.int i) H) ∨ ∃ k, xs = [.bl k] ∧ Q (.int (if k then 1 else 0)) H) dInt1 := fun G W s σ H vs xs Q q M1 r k h => by
  obtain ⟨v, x, rfl, rfl, r, h⟩ := d1_of r h
  match x, h with
  | .d (.int i), h => cases r; exact .inl ⟨i, rfl, k.md M1 (.int _) h⟩
  | .d (.bool b), h => cases r; exact .inr ⟨b, rfl, k.md M1 (.int _) h⟩
/-- repr of a list's data -/
def Shw (d : PyData) : Prop := PyData.showable d = true ∧ PyData.hasDict d = false ∧ PyData.depth d ≤ 60 ∧ (PyData.shown d).length ≤ sizeLine
@[irreducible] def shownI (d : PyData) : Str := PyData.shown d
theorem shownI_eq {d : PyData} : shownI d = PyData.shown d := by unfold shownI; rfl
def dRepr : List Vd → TEd := fun xs s q => d1 xs fun x => dList x s fun ds => Shw (.list ds) ∧ q (.d (.str (shownI (.list ds)))) s
theorem abc_repr {K : PySem.W.Frag} : AbC w (rReprD K) dRepr := fun G W s σ H vs xs Q q M1 r k h => by
  obtain ⟨v, x, rfl, rfl, r, h⟩ := d1_of r h
  have h0 := h
  have h' : dPure x s fun d => ∃ ds, d = .list ds ∧ Shw (.list ds) ∧ q (.d (.str (shownI (.list ds)))) s := by
    match x, h with
    | .d (.list ds), h => exact ⟨ds, rfl, h⟩
    | .p n, ⟨xs, ds, h1, h2, h⟩ => exact ⟨xs, ds, h1, h2, ds, rfl, h⟩
  obtain ⟨d, hd, ds, rfl, ⟨s1, s2, s3, s4⟩, h⟩ := dPure_of (K := K) M1 r h'
  obtain ⟨a, us, es, rfl, _⟩ := dList_of M1 r h0
  unfold rReprD
  rw [shownI_eq] at h
  exact ⟨a, ds, rfl, hd, s1, s2, s3, s4, k.md M1 (.str _) h⟩
/-- list(range(a, b)) -/
def uRgL (m : Bool) (ua ub : TEd) : TEd := fun s q => ua s fun x s1 => ub s1 fun y s2 => dInt x fun i => dInt y fun j => RgOk i j ∧ mkL m ((upto i j).map PyData.int) s2 q
theorem ab_rgL2 (m : Bool) {ta tb : TE} {ua ub : TEd} (ha : AbE w ta ua) (hb : AbE w tb ub) : AbE w (tLstRg (tRg2 ta tb)) (uRgL m ua ub) := fun G W s σ H Q q M1 k h => by
  refine ha G W s σ H _ _ M1 (fun W1 s1 H1 v x e1 m1 r1 h1 => ?_) h
  refine hb G W1 s1 σ H1 _ _ m1 (fun W2 s2 H2 v' y e2 m2 r2 h2 => ?_) h1
  obtain ⟨i, rfl, rfl, h2⟩ := dInt_of r1 h2
  obtain ⟨j, rfl, rfl, c, h2⟩ := dInt_of r2 h2
  refine ⟨i, j, rfl, rfl, c, fun p hp => ?_⟩
  rw [rgV_upto]
  exact m2.newL m hp (RepA.ints _) (k.up (e1.trans e2)) h2
def uRgL1 (m : Bool) (ua : TEd) : TEd := fun s q => ua s fun x s1 => dInt x fun j => RgOk 0 j ∧ mkL m ((upto 0 j).map PyData.int) s1 q
theorem ab_rgL1 (m : Bool) {ta : TE} {ua : TEd} (ha : AbE w ta ua) : AbE w (tLstRg (tRg1 ta)) (uRgL1 m ua) := fun G W s σ H Q q M1 k h => by
  refine ha G W s σ H _ _ M1 (fun W1 s1 H1 v x e1 m1 r1 h1 => ?_) h
  obtain ⟨i, rfl, rfl, c, h1⟩ := dInt_of r1 h1
  refine ⟨i, rfl, c, fun p hp => ?_⟩
  rw [rgV_upto]
  exact m1.newL m hp (RepA.ints _) (k.up e1) h1
def uRgL3 (m : Bool) (ua : TAd) : TEd := fun s q => ua s fun xs s1 => ∃ (a b c : Int) (n : Nat), xs = [.d (.int a), .d (.int b), .d (.int c)] ∧ RgC a b c n ∧ n ≤ 1000 ∧ mkL m ((stepI a c n).map PyData.int) s1 q
theorem ab_rgL3 (m : Bool) {ta : TA} {ua : TAd} (ha : AbA w ta ua) : AbE w (tLstRg3 ta) (uRgL3 m ua) := fun G W s σ H Q q M1 k h => by
  refine ha G W s σ H _ _ M1 (fun W1 s1 H1 vs xs e1 m1 r1 ⟨a, b, c, n, hx, h1, h2, h3⟩ => ?_) h
  subst hx
  cases r1 with
  | cons ra r1 =>
    cases r1 with
    | cons rb r1 =>
      cases r1 with
      | cons rc r1 =>
        cases r1
        cases ra
        cases rb
        cases rc
        refine ⟨a, b, c, n, rfl, h1, h2, fun p hp => ?_⟩
        rw [stepV_eq]
        exact m1.newL m hp (RepA.ints _) (k.up e1) h3
/-! ### methods of own lists -/
def uBM (rd : Vd → List Vd → TEd) (ux : TEd) (ua : TAd) : TEd := fun s q => ux s fun x s1 => (∃ n xs, x = .p n ∧ s1.o[n]? = some (some (.lst xs))) ∧ ua s1 fun ys s2 => rd x ys s2 q
variable (w) in
def AbM (r : V → List V → Hp → VK → Prop) (rd : Vd → List Vd → TEd) : Prop := ∀ (G : Gm) (W : Wd) (s : Sd) (σ : L2.St) (H : Hp) (v : V) (vs : List V) (x : Vd) (xs : List Vd) (Q : VK) (q : Vd → Sd → Prop), M w G W s σ H → RepV W G.δ v x → Paired (RepV W G.δ) vs xs → Ko w G W σ Q q → rd x xs s q → r v vs H Q
theorem ab_bm {K : PySem.W.Frag} {r : V → List V → Hp → VK → Prop} {rd : Vd → List Vd → TEd} {to : TE} {t : TA} {ux : TEd} {ua : TAd} (hr : AbM w r rd) (hx : AbE w to ux) (ha : AbA w t ua) : AbE w (tBM K "list" r to t) (uBM rd ux ua) := fun G W s σ H Q q M1 k h => by
  refine hx G W s σ H _ _ M1 (fun W1 s1 H1 v x e1 m1 r1 ⟨⟨n, xs, hx, ho⟩, h1⟩ => ?_) h
  subst hx
  obtain ⟨a, rfl, hα⟩ := r1
  obtain ⟨a', f1, f2, vs, f3, f4⟩ := m1.ob n _ ho
  obtain rfl := Option.some.inj (hα.symm.trans f1)
  refine ⟨.inl ⟨rfl, _, SqL.of f3⟩, ha G W1 s1 σ H1 _ _ m1 (fun W2 s2 H2 us ys e2 m2 r2 h2 => ?_) h1⟩
  exact hr G W2 s2 σ H2 _ us (.p n) ys Q q m2 ⟨a, rfl, e2.2.1 _ _ hα⟩ r2 (k.up (e1.trans e2)) h2
theorem ab_bm0 {K : PySem.W.Frag} {r : V → List V → Hp → VK → Prop} {rd : Vd → List Vd → TEd} {to : TE} {ux : TEd} (hr : AbM w r rd) (hx : AbE w to ux) : AbE w (tBM0 K "list" r to) (uBM rd ux uNil) := fun G W s σ H Q q M1 k h => by
  refine hx G W s σ H _ _ M1 (fun W1 s1 H1 v x e1 m1 r1 ⟨⟨n, xs, hx, ho⟩, h1⟩ => ?_) h
  subst hx
  obtain ⟨a, rfl, hα⟩ := r1
  obtain ⟨a', f1, f2, vs, f3, f4⟩ := m1.ob n _ ho
  obtain rfl := Option.some.inj (hα.symm.trans f1)
  exact ⟨.inl ⟨rfl, _, SqL.of f3⟩, hr G W1 s1 σ H1 _ [] (.p n) [] Q q m1 ⟨a, rfl, hα⟩ .nil (k.up e1) h1⟩
def Sd.put (s : Sd) (n : Nat) (xs : List Vd) : Sd := { s with o := s.o.set n (some (.lst xs)) }
def dAppend : Vd → List Vd → TEd := fun x ys s q => d1 ys fun y => match x with
  | .p n => ∃ xs, s.o[n]? = some (some (.lst xs)) ∧ xs.length < sizeLine ∧ q (.d .none) (s.put n (xs ++ [y]))
  | _ => False
theorem paired_snoc' {α β : Type} {R : α → β → Prop} {a : α} {b : β} (h : R a b) : ∀ {l : List α} {m : List β}, Paired R l m → Paired R (l ++ [a]) (m ++ [b])
  | _, _, .nil => .cons h .nil
  | _, _, .cons r t => .cons r (paired_snoc' h t)
theorem paired_erase {α β : Type} {R : α → β → Prop} : ∀ {l : List α} {m : List β} (i : Nat), Paired R l m → Paired R (l.eraseIdx i) (m.eraseIdx i)
  | _, _, _, .nil => .nil
  | _, _, 0, .cons _ t => t
  | _, _, i + 1, .cons r t => .cons r (paired_erase i t)
theorem paired_take {α β : Type} {R : α → β → Prop} : ∀ {l : List α} {m : List β} (i : Nat), Paired R l m → Paired R (l.take i) (m.take i)
  | _, _, 0, _ => .nil
  | _, _, _ + 1, .nil => .nil
  | _, _, i + 1, .cons r t => .cons r (paired_take i t)
theorem paired_drop {α β : Type} {R : α → β → Prop} : ∀ {l : List α} {m : List β} (i : Nat), Paired R l m → Paired R (l.drop i) (m.drop i)
  | _, _, 0, h => h
  | _, _, _ + 1, .nil => .nil
  | _, _, i + 1, .cons _ t => paired_drop i t
theorem paired_app {α β : Type} {R : α → β → Prop} : ∀ {l l' : List α} {m m' : List β}, Paired R l m → Paired R l' m' → Paired R (l ++ l') (m ++ m')
  | _, _, _, _, .nil, h => h
  | _, _, _, _, .cons r t, h => .cons r (paired_app t h)
theorem paired_set {α β : Type} {R : α → β → Prop} {a : α} {b : β} (h : R a b) : ∀ {l : List α} {m : List β} (i : Nat), Paired R l m → Paired R (l.set i a) (m.set i b)
  | _, _, _, .nil => .nil
  | _, _, 0, .cons _ t => .cons h t
  | _, _, i + 1, .cons r t => .cons r (paired_set h i t)
/-- an own list behind a store -/
theorem M.putL {G : Gm} {W : Wd} {s : Sd} {σ : L2.St} {H : Hp} {n : Nat} {a : Addr} {xs ys : List Vd} {us : List V} (m : M w G W s σ H) (ho : s.o[n]? = some (some (.lst xs))) (ha : W.α n = some a) (r : Paired (RepV W G.δ) us ys) : M w G W (s.put n ys) σ (upd H a (.lst us)) :=
  m.put ho ha (o' := .lst ys) ⟨us, upd_same, r⟩
theorem abm_append : AbM w rAppend dAppend := fun G W s σ H v vs x xs Q q m r rs k h => by
  obtain ⟨u, y, rfl, rfl, ry, h⟩ := d1_of rs h
  match x, h with
  | .p n, ⟨xs, ho, hl, h⟩ =>
    obtain ⟨a, rfl, ha⟩ := r
    obtain ⟨a', f1, f2, vs, f3, f4⟩ := m.ob n _ ho
    obtain rfl := Option.some.inj (ha.symm.trans f1)
    exact ⟨a, vs, u, rfl, rfl, f3, by rw [f4.length]; exact hl, k.md (m.putL ho ha (paired_snoc' ry f4)) .non h⟩
def dPop : Vd → List Vd → TEd := fun x ys s q => d1 ys fun y => dInt y fun i => match x with
  | .p n => ∃ xs z, s.o[n]? = some (some (.lst xs)) ∧ 0 ≤ i ∧ i < xs.length ∧ xs.length ≤ sizeLine ∧ xs[i.toNat]? = some z ∧ q z (s.put n (xs.eraseIdx i.toNat))
  | _ => False
theorem abm_pop : AbM w rPopAt dPop := fun G W s σ H v vs x xs Q q m r rs k h => by
  obtain ⟨u, y, rfl, rfl, ry, h⟩ := d1_of rs h
  obtain ⟨i, rfl, rfl, h⟩ := dInt_of ry h
  match x, h with
  | .p n, ⟨xs, z, ho, h0, h1, h2, hz, h⟩ =>
    obtain ⟨a, rfl, ha⟩ := r
    obtain ⟨a', f1, f2, vs, f3, f4⟩ := m.ob n _ ho
    obtain rfl := Option.some.inj (ha.symm.trans f1)
    obtain ⟨v, hv, rv⟩ : ∃ v, vs[i.toNat]? = some v ∧ RepV W G.δ v z := by
      have lt : i.toNat < vs.length := by rw [f4.length]; omega
      exact ⟨vs[i.toNat], List.getElem?_eq_getElem lt, paired_get' f4 (List.getElem?_eq_getElem lt) hz⟩
    rw [sizeLine_eq] at h2
    exact ⟨a, vs, i, i.toNat, v, rfl, rfl, f3, by omega, by omega, by rw [f4.length]; exact Kt.seqIndex_of h0 h1, hv, k.m (m.putL ho ha (paired_erase _ f4)) rv h⟩
def dClear : Vd → List Vd → TEd := fun x ys s q => match ys, x with
  | [], .p n => ∃ xs, s.o[n]? = some (some (.lst xs)) ∧ q (.d .none) (s.put n [])
  | _, _ => False
/-! ### targets -/
def gdName (i : Nat) : TGd := fun x s q => q { s with r := s.r.set i (some x) }
theorem abg_name (i : Nat) : AbG w (gName i) (gdName i) := fun G W s σ H v x Q q m r k h => k.m (m.slot r) h
abbrev TGd' := List PyData → Sd → (Sd → Prop) → Prop
variable (w) in
def AbGs' (t : TGs) (u : TGd') : Prop := ∀ (G : Gm) (W : Wd) (s : Sd) (σ : L2.St) (H : Hp) (vs : List V) (xs : List PyData) (Q : L2.St → Hp → Prop) (q : Sd → Prop), M w G W s σ H → RepA W.F vs xs → Kg w G W Q q → u xs s q → t vs σ H Q
def gdNil : TGd' := fun xs s q => match xs with
  | [] => q s
  | _ => False
def gdCons (g : TGd) (gs : TGd') : TGd' := fun xs s q => match xs with
  | x :: xs => g (.d x) s fun s1 => gs xs s1 q
  | [] => False
theorem abgs_nil : AbGs' w gNil gdNil := fun G W s σ H vs xs Q q m r k h => by
  match xs, r, h with
  | [], .nil, h => exact ⟨rfl, k.m m h⟩
theorem repV_F {W W' : Wd} {δ : Option Addr} (e : ExtF W W') {v : V} {x : PyData} (h : RepV W δ v (.d x)) : RepV W' δ v (.d x) := Rep.mono (fun a o _ q => e.1 a o q) x v h
theorem abgs_cons {t : TG} {ts : TGs} {g : TGd} {gs : TGd'} (h1 : AbG w t g) (h2 : AbGs' w ts gs) : AbGs' w (gCons t ts) (gdCons g gs) := fun G W s σ H vs xs Q q m r k h => by
  match xs, r, h with
  | x :: xs, .cons r1 r2, h =>
    refine ⟨_, _, rfl, h1 G W s σ H _ (.d x) _ _ m r1 (fun W1 s1 σ1 H1 e1 m1 q1 => ?_) h⟩
    exact h2 G W1 s1 σ1 H1 _ xs Q q m1 (RepA.mono (fun a o _ q => e1.1 a o q) _ _ r2) (k.up e1) q1
def gdTup (n : Nat) (gs : TGd') : TGd := fun x s q => dTup x fun ds => ds.length = n ∧ gs ds s q
theorem abg_tup {K : PySem.W.Frag} {n : Nat} {ts : TGs} {gs : TGd'} (h : AbGs' w ts gs) : AbG w (gTup K n ts) (gdTup n gs) := fun G W s σ H v x Q q m r k hx => by
  obtain ⟨a, vs, ds, rfl, e1, t1, hl, hx⟩ := dTup_of m r hx
  exact ⟨a, vs, rfl, SqT.of e1, by rw [t1.len]; exact hl, h G W s σ H vs _ Q q m t1 k hx⟩
/-- xs[i] = v -/
def gdSub (uo ui : TEd) : TGd := fun x s q => (∃ d, x = .d d) ∧ uo s fun y s1 => ui s1 fun z s2 => dInt z fun i => match y with
  | .p n => ∃ xs j, s2.o[n]? = some (some (.lst xs)) ∧ ixN xs.length i = some j ∧ q (s2.put n (xs.set j x))
  | _ => False
theorem abg_sub {to ti : TE} {uo ui : TEd} (ho : AbE w to uo) (hi : AbE w ti ui) : AbG w (gSub to ti rSetL) (gdSub uo ui) := fun G W s σ H v x Q q m r k ⟨⟨d, hd⟩, h⟩ => by
  subst hd
  refine ho G W s σ H _ _ m (fun W1 s1 H1 v1 y e1 m1 r1 h1 => ?_) h
  refine hi G W1 s1 σ H1 _ _ m1 (fun W2 s2 H2 v2 z e2 m2 r2 h2 => ?_) h1
  obtain ⟨i, rfl, rfl, h2⟩ := dInt_of r2 h2
  match y, h2 with
  | .p n, ⟨xs, j, ho, hj, h2⟩ =>
    obtain ⟨a, rfl, ha⟩ := r1.ext e2
    obtain ⟨a', f1, f2, vs, f3, f4⟩ := m2.ob n _ ho
    obtain rfl := Option.some.inj (ha.symm.trans f1)
    refine ⟨a, vs, i, j, rfl, rfl, f3, by rw [f4.length]; exact hj, k _ _ _ _ (e1.trans e2) (m2.putL ho ha (paired_set (show RepV _ _ _ (.d d) from ?_) j f4)) h2⟩
    exact RepV.ext (e1.trans e2) r
/-! ### statements -/
def sNext : TSd := fun E s => E.nx s
theorem abs_next : AbS w tNext sNext := fun G W s σ H D E m l h => l.nx.m m h
def sSeq (u v : TSd) : TSd := fun E s => u { E with nx := v E } s
theorem abs_seq {t t' : TS} {u u' : TSd} (h : AbS w t u) (h' : AbS w t' u') : AbS w (tSeq t t') (sSeq u u') := fun G W s σ H D E m l hu =>
  h G W s σ H _ { E with nx := u' E } m ⟨fun W1 s1 σ1 H1 e1 m1 h1 => h' G W1 s1 σ1 H1 D E m1 (l.up e1) h1, l.rt, l.bk, l.ct⟩ hu
def sBreak : TSd := fun E s => E.bk s
theorem abs_break : AbS w tBreak sBreak := fun G W s σ H D E m l h => l.bk.m m h
def sCont : TSd := fun E s => E.ct s
theorem abs_cont : AbS w tCont sCont := fun G W s σ H D E m l h => l.ct.m m h
def sDrop (u : TEd) : TSd := fun E s => u s fun _ s1 => E.nx s1
theorem abs_drop {t : TE} {u : TEd} (h : AbE w t u) : AbS w (tDrop t) (sDrop u) := fun G W s σ H D E m l hu => h G W s σ H _ _ m (fun W1 s1 H1 v x e1 m1 r1 h1 => l.nx _ _ _ _ e1.f m1 h1) hu
def sRet (u : TEd) : TSd := fun E s => u s E.rt
theorem abs_ret {t : TE} {u : TEd} (h : AbE w t u) : AbS w (tRet t) (sRet u) := fun G W s σ H D E m l hu => h G W s σ H _ _ m (fun W1 s1 H1 v x e1 m1 r1 h1 => l.rt _ _ _ _ _ _ e1.f m1 r1 h1) hu
def sRetN : TSd := fun E s => E.rt (.d .none) s
theorem abs_retN : AbS w tRetN sRetN := fun G W s σ H D E m l h => l.rt _ _ _ _ _ (.d .none) (ExtF.refl W) m Rep.non h
def sIf (c : TTd) (u v : TSd) : TSd := fun E s => c s fun b s1 => if b = true then u E s1 else v E s1
theorem abs_if {c : TT} {t t' : TS} {uc : TTd} {u u' : TSd} (hc : AbT w c uc) (h : AbS w t u) (h' : AbS w t' u') : AbS w (tIfS c t t') (sIf uc u u') := fun G W s σ H D E m l hu =>
  hc G W s σ H _ _ m (fun W1 s1 H1 b e1 m1 h1 => by
    cases b with
    | true => exact h G W1 s1 σ H1 D E m1 (l.up e1.f) h1
    | false => exact h' G W1 s1 σ H1 D E m1 (l.up e1.f) h1) hu
def sNever : TSd := fun _ _ => False
theorem abs_never : AbS w tNever sNever := fun G W s σ H D E m l h => h.elim
def sAsg (u : TEd) (g : TGd) : TSd := fun E s => u s fun x s1 => g x s1 E.nx
theorem abs_asg {t : TE} {g : TG} {u : TEd} {gd : TGd} (h : AbE w t u) (hg : AbG w g gd) : AbS w (tAsg t g) (sAsg u gd) := fun G W s σ H D E m l hu =>
  h G W s σ H _ _ m (fun W1 s1 H1 v x e1 m1 r1 h1 => hg G W1 s1 σ H1 v x _ _ m1 r1 (l.nx.up e1.f).g h1) hu
/-- name op= e, ints -/
def sAug (g : Int → Int → Int) (i : Nat) (u : TEd) : TSd := fun E s => ∃ a, s.r[i]? = some (some (.d (.int a))) ∧ u s fun y s1 => dInt y fun b => E.nx { s1 with r := s1.r.set i (some (.d (.int (g a b)))) }
theorem abs_aug {g : Int → Int → Int} (i : Nat) {t : TE} {u : TEd} (h : AbE w t u) : AbS w (tAug i t (ipI g)) (sAug g i u) := fun G W s σ H D E m l ⟨a, ha, hu⟩ => by
  obtain ⟨v, hv, r⟩ := m.sl i _ ha
  cases r
  refine ⟨_, hv, h G W s σ H _ _ m (fun W1 s1 H1 v x e1 m1 r1 h1 => ?_) hu⟩
  obtain ⟨b, rfl, rfl, h1⟩ := dInt_of r1 h1
  exact ⟨a, b, rfl, rfl, l.nx _ _ _ _ e1.f (m1.slot (x := .d (.int (g a b))) (Rep.int _)) h1⟩
end
end Dt


set_option autoImplicit false
set_option Elab.async false
set_option autoImplicit false
set_option linter.all false
set_option maxRecDepth 100000
set_option maxHeartbeats 4000000
/-! The data layer: what is walked, loops, comprehensions. -/
namespace Dt
open PySem L2 Kt
section
variable {w : Ww}
/-! ### what is walked -/
/-- the frame stands -/
def Gs (G G' : Gm) : Prop := G'.δ = G.δ ∧ G'.z = G.z
theorem Gs.refl (G : Gm) : Gs G G := ⟨rfl, rfl⟩
theorem Gs.trans {G G1 G2 : Gm} (a : Gs G G1) (b : Gs G1 G2) : Gs G G2 := ⟨b.1.trans a.1, b.2.trans a.2⟩
/-- J gives, turn by turn, the items -/
structure JL (w : Ww) (G : Gm) (W : Wd) (J : It) (xs : List PyData) : Prop where
  go : ∀ G' W' s σ H i, Gs G G' → ExtF W W' → M w G' W' s σ H → i < xs.length → J.go i H
  stop : ∀ G' W' s σ H, Gs G G' → ExtF W W' → M w G' W' s σ H → J.stop xs.length H
  yld : ∀ G' W' s σ H i v H', Gs G G' → ExtF W W' → M w G' W' s σ H → i < xs.length → J.yld i H v H' → ∃ W'' d, xs[i]? = some d ∧ Ext W' W'' ∧ M w G' W'' s σ H' ∧ Rep W''.F v d
theorem JL.up {G G' : Gm} {W W' : Wd} {J : It} {xs : List PyData} (j : JL w G W J xs) (hd : Gs G G') (e : ExtF W W') : JL w G' W' J xs :=
  ⟨fun G1 W1 s σ H i h e1 => j.go G1 W1 s σ H i (hd.trans h) (e.trans e1), fun G1 W1 s σ H h e1 => j.stop G1 W1 s σ H (hd.trans h) (e.trans e1), fun G1 W1 s σ H i v H' h e1 => j.yld G1 W1 s σ H i v H' (hd.trans h) (e.trans e1)⟩
abbrev TId := Sd → (List PyData → Sd → Prop) → Prop
variable (w) in
def AbI (t : TI) (u : TId) : Prop := ∀ (G : Gm) (W : Wd) (s : Sd) (σ : L2.St) (H : Hp) (R : It → Hp → Prop) (q : List PyData → Sd → Prop), M w G W s σ H →
  (∀ W' s' H' J xs, Ext W W' → M w G W' s' σ H' → JL w G W' J xs → q xs s' → R J H') → u s q → t σ H R
/-- frozen lists -/
def uIList (u : TEd) : TId := fun s q => u s fun x s1 => match x with
  | .d (.list ds) => q ds s1
  | _ => False
theorem frozen_at {W W' : Wd} {G : Gm} {s : Sd} {σ : L2.St} {H : Hp} {a : Addr} {o : HO} (h : W.F a = some o) (ho : ∃ xs, o = HO.lst xs ∨ o = .tup xs) (e : ExtF W W') (m : M w G W' s σ H) : H a = some o := m.fz' a o ho (e.1 a o h)
theorem jl_list {K : PySem.W.Frag} {G : Gm} {W : Wd} {a : Addr} {vs : List V} {ds : List PyData} (ha : W.F a = some (.lst vs)) (r : RepA W.F vs ds) : JL w G W (Itl K a) ds where
  go := fun G' W' s σ H i _ e m hi => ⟨vs, vs[i]'(by rw [r.len]; exact hi), SqL.of (frozen_at ha ⟨_, .inl rfl⟩ e m), by rw [List.getElem?_eq_getElem]⟩
  stop := fun G' W' s σ H _ e m => ⟨vs, SqL.of (frozen_at ha ⟨_, .inl rfl⟩ e m), by rw [r.len]; exact Nat.le_refl _⟩
  yld := fun G' W' s σ H i v H' _ e m hi ⟨h1, h2⟩ => by
    have h2 := h2 vs (SqL.of (frozen_at ha ⟨_, .inl rfl⟩ e m))
    obtain ⟨d, hd, rd⟩ := RepA.get r h2
    subst h1
    exact ⟨W', d, hd, Ext.refl W', m, Rep.mono (fun a o _ q => e.1 a o q) _ _ rd⟩
theorem abi_list {K : PySem.W.Frag} {t : TE} {u : TEd} (h : AbE w t u) : AbI w (iList K t) (uIList u) := fun G W s σ H R q m k hu => by
  refine h G W s σ H _ _ m (fun W1 s1 H1 v x e1 m1 r1 h1 => ?_) hu
  match x, h1 with
  | .d (.list ds), h1 =>
    cases r1 with
    | lst e t => exact ⟨_, rfl, ⟨_, SqL.of (m1.fz' _ _ ⟨_, .inl rfl⟩ e)⟩, k W1 s1 H1 _ ds e1 m1 (jl_list e t) h1⟩
def intsR (lo : Int) (n : Nat) : List PyData := (List.range n).map fun i => .int (lo + (i : Nat))
theorem intsR_len (lo : Int) (n : Nat) : (intsR lo n).length = n := by unfold intsR; rw [List.length_map, List.length_range]
theorem intsR_get {lo : Int} {n i : Nat} (h : i < n) : (intsR lo n)[i]? = some (.int (lo + i)) := by unfold intsR; rw [List.getElem?_map, List.getElem?_range h]; rfl
theorem jl_range {G : Gm} {W : Wd} (lo : Int) (n : Nat) : JL w G W (Itr lo n) (intsR lo n) where
  go := fun G' W' s σ H i _ e m hi => by rw [intsR_len] at hi; exact hi
  stop := fun G' W' s σ H _ e m => by rw [intsR_len]; exact Nat.le_refl _
  yld := fun G' W' s σ H i v H' _ e m hi ⟨h1, h2⟩ => by
    rw [intsR_len] at hi
    subst h1
    subst h2
    exact ⟨W', _, intsR_get hi, Ext.refl W', m, .int _⟩
def uIRng1 (u : TAd) : TId := fun s q => u s fun xs s1 => d1 xs fun x => dInt x fun j => -(2 ^ 62) ≤ j ∧ j < 2 ^ 62 ∧ q (intsR 0 j.toNat) s1
theorem abi_rng1 {t : TA} {u : TAd} (h : AbA w t u) : AbI w (iRng1 t) (uIRng1 u) := fun G W s σ H R q m k hu => by
  refine h G W s σ H _ _ m (fun W1 s1 H1 vs xs e1 m1 r1 h1 => ?_) hu
  obtain ⟨v, x, rfl, rfl, r, h1⟩ := d1_of r1 h1
  obtain ⟨j, rfl, rfl, a, b, h1⟩ := dInt_of r h1
  exact ⟨j, rfl, a, b, k W1 s1 H1 _ _ e1 m1 (jl_range 0 _) h1⟩
def uIRng2 (u : TAd) : TId := fun s q => u s fun xs s1 => d2 xs fun x y => dInt x fun i => dInt y fun j => (-(2 ^ 62) ≤ i ∧ i < 2 ^ 62 ∧ -(2 ^ 62) ≤ j ∧ j < 2 ^ 62) ∧ q (intsR i (j - i).toNat) s1
theorem abi_rng2 {t : TA} {u : TAd} (h : AbA w t u) : AbI w (iRng2 t) (uIRng2 u) := fun G W s σ H R q m k hu => by
  refine h G W s σ H _ _ m (fun W1 s1 H1 vs xs e1 m1 r1 h1 => ?_) hu
  obtain ⟨v, u, x, y, rfl, r, r2, h1⟩ := d2_of r1 h1
  obtain ⟨i, rfl, rfl, h1⟩ := dInt_of r h1
  obtain ⟨j, rfl, rfl, a, h1⟩ := dInt_of r2 h1
  exact ⟨i, j, rfl, a, k W1 s1 H1 _ _ e1 m1 (jl_range i _) h1⟩
def intsC (lo c : Int) (n : Nat) : List PyData := (List.range n).map fun i => .int (lo + (i : Nat) * c)
theorem intsC_len (lo c : Int) (n : Nat) : (intsC lo c n).length = n := by unfold intsC; rw [List.length_map, List.length_range]
theorem intsC_get {lo c : Int} {n i : Nat} (h : i < n) : (intsC lo c n)[i]? = some (.int (lo + i * c)) := by unfold intsC; rw [List.getElem?_map, List.getElem?_range h]; rfl
theorem jl_rangeC {G : Gm} {W : Wd} (lo c : Int) (n : Nat) : JL w G W (Itc lo c n) (intsC lo c n) where
  go := fun G' W' s σ H i _ e m hi => by rw [intsC_len] at hi; exact hi
  stop := fun G' W' s σ H _ e m => by rw [intsC_len]; exact Nat.le_refl _
  yld := fun G' W' s σ H i v H' _ e m hi ⟨h1, h2⟩ => by
    rw [intsC_len] at hi
    subst h1
    subst h2
    exact ⟨W', _, intsC_get hi, Ext.refl W', m, .int _⟩
def uIRng3 (u : TAd) : TId := fun s q => u s fun xs s1 => ∃ (i j c : Int) (n : Nat), xs = [.d (.int i), .d (.int j), .d (.int c)] ∧ RgC i j c n ∧ q (intsC i c n) s1
theorem abi_rng3 {t : TA} {u : TAd} (h : AbA w t u) : AbI w (iRng3 t) (uIRng3 u) := fun G W s σ H R q m k hu => by
  refine h G W s σ H _ _ m (fun W1 s1 H1 vs xs e1 m1 r1 ⟨i, j, c, n, hx, h2, h3⟩ => ?_) hu
  subst hx
  cases r1 with
  | cons ra r1 =>
    cases r1 with
    | cons rb r1 =>
      cases r1 with
      | cons rc r1 =>
        cases r1
        cases ra
        cases rb
        cases rc
        exact ⟨i, j, c, n, rfl, h2, k W1 s1 H1 _ _ e1 m1 (jl_rangeC i c n) h3⟩
/-- pairs -/
def pairsD (xs ys : List PyData) : List PyData := List.zipWith (fun x y => .tuple [x, y]) xs ys
theorem pairsD_len (xs ys : List PyData) : (pairsD xs ys).length = min xs.length ys.length := by unfold pairsD; rw [List.length_zipWith]
theorem pairsD_get {xs ys : List PyData} {i : Nat} {x y : PyData} (h1 : xs[i]? = some x) (h2 : ys[i]? = some y) : (pairsD xs ys)[i]? = some (.tuple [x, y]) := by
  unfold pairsD
  rw [List.getElem?_zipWith, h1, h2]
theorem jl_pair {G : Gm} {W' : Wd} {s : Sd} {σ : L2.St} {H : Hp} {T : Addr} {x y : V} {d e : PyData} (m : M w G W' s σ H) (hT : H T = none) (rx : Rep W'.F x d) (ry : Rep W'.F y e) : ∃ W'', Ext W' W'' ∧ M w G W'' s σ (upd H T (.tup [x, y])) ∧ Rep W''.F (.ref T) (.tuple [d, e]) := by
  obtain ⟨e', m'⟩ := m.newF (o := .tup [x, y]) hT
  exact ⟨_, e', m', .tup upd_same (.cons (Rep.mono (fun a o _ q => e'.1 a o q) _ _ rx) (.cons (Rep.mono (fun a o _ q => e'.1 a o q) _ _ ry) .nil))⟩
theorem jl_zip {K : PySem.W.Frag} {G : Gm} {W : Wd} {a b : Addr} {vs us : List V} {ds es : List PyData} (ha : W.F a = some (.lst vs)) (r : RepA W.F vs ds) (hb : W.F b = some (.lst us)) (r2 : RepA W.F us es) : JL w G W (Itz K a b) (pairsD ds es) where
  go := fun G' W' s σ H i _ e m hi => by
    rw [pairsD_len] at hi
    have h1 : i < vs.length := by rw [r.len]; omega
    have h2 : i < us.length := by rw [r2.len]; omega
    exact ⟨vs, us, vs[i], us[i], SqL.of (frozen_at ha ⟨_, .inl rfl⟩ e m), SqL.of (frozen_at hb ⟨_, .inl rfl⟩ e m), by simp [h1], by simp [h2]⟩
  stop := fun G' W' s σ H _ e m => ⟨vs, us, SqL.of (frozen_at ha ⟨_, .inl rfl⟩ e m), SqL.of (frozen_at hb ⟨_, .inl rfl⟩ e m), by rw [pairsD_len, r.len, r2.len]; omega⟩
  yld := fun G' W' s σ H i v H' _ e m hi ⟨T, x, y, h1, h2, h3, h4, h5⟩ => by
    have h4 := h4 vs (SqL.of (frozen_at ha ⟨_, .inl rfl⟩ e m))
    have h5 := h5 us (SqL.of (frozen_at hb ⟨_, .inl rfl⟩ e m))
    obtain ⟨d, hd, rd⟩ := RepA.get r h4
    obtain ⟨d', hd', rd'⟩ := RepA.get r2 h5
    subst h1
    subst h3
    obtain ⟨W'', q1, q2, q3⟩ := jl_pair m h2 (Rep.mono (fun a o _ q => e.1 a o q) _ _ rd) (Rep.mono (fun a o _ q => e.1 a o q) _ _ rd')
    exact ⟨W'', _, pairsD_get hd hd', q1, q2, q3⟩
def uIZip (u : TAd) : TId := fun s q => u s fun xs s1 => d2 xs fun x y => match x, y with
  | .d (.list ds), .d (.list es) => q (pairsD ds es) s1
  | _, _ => False
theorem abi_zip {K : PySem.W.Frag} {t : TA} {u : TAd} (h : AbA w t u) : AbI w (iZip K t) (uIZip u) := fun G W s σ H R q m k hu => by
  refine h G W s σ H _ _ m (fun W1 s1 H1 vs xs e1 m1 r1 h1 => ?_) hu
  obtain ⟨v, u, x, y, rfl, r, r2, h1⟩ := d2_of r1 h1
  match x, y, h1 with
  | .d (.list ds), .d (.list es), h1 =>
    cases r with
    | lst e t =>
      cases r2 with
      | lst e2 t2 => exact ⟨_, _, _, _, rfl, SqL.of (m1.fz' _ _ ⟨_, .inl rfl⟩ e), SqL.of (m1.fz' _ _ ⟨_, .inl rfl⟩ e2), k W1 s1 H1 _ _ e1 m1 (jl_zip e t e2 t2) h1⟩
def enumD (ds : List PyData) : List PyData := pairsD (intsR 0 ds.length) ds
theorem jl_enum {K : PySem.W.Frag} {G : Gm} {W : Wd} {a : Addr} {vs : List V} {ds : List PyData} (ha : W.F a = some (.lst vs)) (r : RepA W.F vs ds) : JL w G W (Ite K a) (enumD ds) where
  go := fun G' W' s σ H i _ e m hi => by
    unfold enumD at hi
    rw [pairsD_len, intsR_len] at hi
    have h1 : i < vs.length := by rw [r.len]; omega
    exact ⟨vs, vs[i], SqL.of (frozen_at ha ⟨_, .inl rfl⟩ e m), by simp [h1]⟩
  stop := fun G' W' s σ H _ e m => ⟨vs, SqL.of (frozen_at ha ⟨_, .inl rfl⟩ e m), by unfold enumD; rw [pairsD_len, intsR_len, r.len]; omega⟩
  yld := fun G' W' s σ H i v H' _ e m hi ⟨T, x, h1, h2, h3, h4⟩ => by
    have h4 := h4 vs (SqL.of (frozen_at ha ⟨_, .inl rfl⟩ e m))
    obtain ⟨d, hd, rd⟩ := RepA.get r h4
    unfold enumD at hi
    rw [pairsD_len, intsR_len] at hi
    subst h1
    subst h3
    obtain ⟨W'', q1, q2, q3⟩ := jl_pair m h2 (.int ((i : Nat) : Int)) (Rep.mono (fun a o _ q => e.1 a o q) _ _ rd)
    refine ⟨W'', _, pairsD_get (intsR_get (by omega)) hd, q1, q2, ?_⟩
    rw [Int.zero_add]
    exact q3
def uIEnum (u : TAd) : TId := fun s q => u s fun xs s1 => d1 xs fun x => match x with
  | .d (.list ds) => q (enumD ds) s1
  | _ => False
theorem abi_enum {K : PySem.W.Frag} {t : TA} {u : TAd} (h : AbA w t u) : AbI w (iEnum K t) (uIEnum u) := fun G W s σ H R q m k hu => by
  refine h G W s σ H _ _ m (fun W1 s1 H1 vs xs e1 m1 r1 h1 => ?_) hu
  obtain ⟨v, x, rfl, rfl, r, h1⟩ := d1_of r1 h1
  match x, h1 with
  | .d (.list ds), h1 =>
    cases r with
    | lst e t => exact ⟨_, _, rfl, SqL.of (m1.fz' _ _ ⟨_, .inl rfl⟩ e), k W1 s1 H1 _ _ e1 m1 (jl_enum e t) h1⟩

/-! ### for -/
/-- a state told with less -/
def Wk (s s' : Sd) : Prop := ∀ (w : Ww) (G : Gm) (W : Wd) (σ : L2.St) (H : Hp), M w G W s σ H → ∃ W', ExtF W W' ∧ M w G W' s' σ H
theorem Wk.refl (s : Sd) : Wk s s := fun w G W σ H m => ⟨W, ExtF.refl W, m⟩
theorem Wk.trans {s s1 s2 : Sd} (a : Wk s s1) (b : Wk s1 s2) : Wk s s2 := fun w G W σ H m => by
  obtain ⟨W1, e1, m1⟩ := a w G W σ H m
  obtain ⟨W2, e2, m2⟩ := b w G W1 σ H m1
  exact ⟨W2, e1.trans e2, m2⟩
@[irreducible] def sFor (ui : TId) (g : TGd) (b : TSd) : TSd := fun E s => ui s fun xs s1 => ∃ I : Nat → Sd → Prop, I 0 s1 ∧
  (∀ i d s, xs[i]? = some d → I i s → g (.d d) s fun s2 => b ⟨fun s3 => ∃ s4, Wk s3 s4 ∧ I (i + 1) s4, E.rt, fun s3 => ∃ s4, Wk s3 s4 ∧ E.nx s4, fun s3 => ∃ s4, Wk s3 s4 ∧ I (i + 1) s4⟩ s2) ∧ ∀ s, I xs.length s → E.nx s
theorem abs_for {wi : TI} {g : TG} {t : TS} {ui : TId} {gd : TGd} {u : TSd} (hi : AbI w wi ui) (hg : AbG w g gd) (hb : AbS w t u) : AbS w (tFor wi g t) (sFor ui gd u) := fun G W s σ H D E m l hu => by
  unfold sFor at hu
  refine hi G W s σ H _ _ m (fun W1 s1 H1 J xs e1 m1 j ⟨I, h0, hs, hd⟩ => ?_) hu
  have l1 := l.up e1.f
  refine ⟨fun i n σ H => n = xs.length - i ∧ i ≤ xs.length ∧ ∃ W' s', ExtF W1 W' ∧ M w G W' s' σ H ∧ I i s', ⟨xs.length, by omega, Nat.zero_le _, W1, s1, ExtF.refl W1, m1, h0⟩, ?_⟩
  rintro i n σ2 H2 ⟨rfl, hle, W2, s2, e2, m2, hI⟩
  by_cases hlt : i < xs.length
  · refine .inr ⟨j.go G W2 s2 σ2 H2 i (Gs.refl G) e2 m2 hlt, fun σ H => i + 1 ≤ xs.length ∧ ∃ W' s', ExtF W1 W' ∧ M w G W' s' σ H ∧ I (i + 1) s', fun σ' H' ⟨h1, h2⟩ => ⟨xs.length - (i + 1), by omega, rfl, h1, h2⟩, fun v H3 hy => ?_⟩
    obtain ⟨W3, d, hd3, e3, m3, r3⟩ := j.yld G W2 s2 σ2 H2 i v H3 (Gs.refl G) e2 m2 hlt hy
    refine hg G W3 s2 σ2 H3 v (.d d) _ _ m3 r3 (fun W4 s4 σ4 H4 e4 m4 h4 => ?_) (hs i d s2 hd3 hI)
    have e14 : ExtF W1 W4 := e2.trans (e3.f.trans e4.f)
    have again : Ks w G W4 (fun σ H => i + 1 ≤ xs.length ∧ ∃ W' s', ExtF W1 W' ∧ M w G W' s' σ H ∧ I (i + 1) s') (fun s3 => ∃ s4, Wk s3 s4 ∧ I (i + 1) s4) := fun W5 s5 σ5 H5 e5 m5 ⟨s6, k6, h6⟩ => by
      obtain ⟨W6, e6, m6⟩ := k6 w G W5 σ5 H5 m5
      exact ⟨hlt, W6, s6, e14.trans (e5.trans e6), m6, h6⟩
    refine hb G W4 s4 σ4 H4 _ _ m4 ?_ h4
    refine ⟨again, fun W5 s5 σ5 H5 v x e5 => l1.rt W5 s5 σ5 H5 v x (e14.trans e5), fun W5 s5 σ5 H5 e5 m5 ⟨s6, k6, h6⟩ => ?_, again⟩
    obtain ⟨W6, e6, m6⟩ := k6 w G W5 σ5 H5 m5
    exact l1.nx _ _ _ _ (e14.trans (e5.trans e6)) m6 h6
  · have e : i = xs.length := by omega
    subst e
    exact .inl ⟨j.stop G W2 s2 σ2 H2 (Gs.refl G) e2 m2, l1.nx _ _ _ _ e2 m2 (hd s2 hI)⟩
/-! ### while -/
@[irreducible] def sWhile (c : TTd) (b : TSd) : TSd := fun E s => ∃ (I : Sd → Prop) (μ : Sd → Nat), I s ∧ ∀ s, I s → c s fun x s1 => if x = true then b ⟨fun s3 => ∃ s4, Wk s3 s4 ∧ I s4 ∧ μ s4 < μ s, E.rt, fun s3 => ∃ s4, Wk s3 s4 ∧ E.nx s4, fun s3 => ∃ s4, Wk s3 s4 ∧ I s4 ∧ μ s4 < μ s⟩ s1 else E.nx s1
theorem abs_while {c : TT} {t : TS} {uc : TTd} {u : TSd} (hc : AbT w c uc) (hb : AbS w t u) : AbS w (tWhile c t) (sWhile uc u) := fun G W s σ H D E m l hu => by
  unfold sWhile at hu
  obtain ⟨I, μ, h0, hs⟩ := hu
  refine ⟨fun n σ H => ∃ W' s', ExtF W W' ∧ M w G W' s' σ H ∧ I s' ∧ n = μ s', ⟨μ s, W, s, ExtF.refl W, m, h0, rfl⟩, ?_⟩
  rintro n σ2 H2 ⟨W2, s2, e2, m2, hI, rfl⟩
  refine hc G W2 s2 σ2 H2 _ _ m2 (fun W3 s3 H3 b e3 m3 h3 => ?_) (hs s2 hI)
  have e13 := e2.trans e3.f
  cases b with
  | false => exact l.nx _ _ _ _ e13 m3 h3
  | true =>
    have again : Ks w G W3 (fun σ' H' => ∃ W' s', ExtF W W' ∧ M w G W' s' σ' H' ∧ I s' ∧ μ s' < μ s2) (fun s5 => ∃ s6, Wk s5 s6 ∧ I s6 ∧ μ s6 < μ s2) := fun W5 s5 σ5 H5 e5 m5 ⟨s6, k6, h6, h7⟩ => by
      obtain ⟨W6, e6, m6⟩ := k6 w G W5 σ5 H5 m5
      exact ⟨W6, s6, e13.trans (e5.trans e6), m6, h6, h7⟩
    refine ⟨fun σ' H' => ∃ W' s', ExtF W W' ∧ M w G W' s' σ' H' ∧ I s' ∧ μ s' < μ s2, fun σ' H' ⟨W', s', a1, a2, a3, a4⟩ => ⟨μ s', a4, W', s', a1, a2, a3, rfl⟩, ?_⟩
    refine hb G W3 s3 σ2 H3 _ _ m3 ?_ h3
    refine ⟨again, fun W5 s5 σ5 H5 v x e5 => l.rt W5 s5 σ5 H5 v x (e13.trans e5), fun W5 s5 σ5 H5 e5 m5 ⟨s6, k6, h6⟩ => ?_, again⟩
    obtain ⟨W6, e6, m6⟩ := k6 w G W5 σ5 H5 m5
    exact l.nx _ _ _ _ (e13.trans (e5.trans e6)) m6 h6
end
end Dt


set_option autoImplicit false
set_option Elab.async false
set_option autoImplicit false
set_option linter.all false
set_option maxRecDepth 100000
set_option maxHeartbeats 4000000
/-! The data layer: comprehensions. -/
namespace Dt
open PySem L2 Kt
def wipeD (r : List (Option Vd)) : List Nat → List (Option Vd)
  | [] => r
  | v :: vs => (wipeD r vs).set v none
theorem wipeD_len (r : List (Option Vd)) : ∀ vs, (wipeD r vs).length = r.length
  | [] => rfl
  | v :: vs => by unfold wipeD; rw [List.length_set, wipeD_len r vs]
theorem wipe_get {r : List (Option Vd)} {σ : L2.St} : ∀ {vs : List Nat} {i : Nat} {x : Vd}, (wipeD r vs)[i]? = some (some x) → r[i]? = some (some x) ∧ (wipe σ vs)[i]? = σ[i]?
  | [], i, x, h => ⟨h, rfl⟩
  | v :: vs, i, x, h => by
    unfold wipeD at h
    by_cases z : v = i
    · subst z
      by_cases l : v < (wipeD r vs).length
      · rw [List.getElem?_set_self l] at h
        cases h
      · rw [List.getElem?_eq_none (by rw [List.length_set]; omega)] at h
        cases h
    · rw [List.getElem?_set_ne z] at h
      obtain ⟨h1, h2⟩ := wipe_get h
      exact ⟨h1, by unfold wipe; rw [List.getElem?_set_ne z]; exact h2⟩
/-- a target that stores in the block's own slots alone -/
def TgOk (vs : List Nat) (g : TG) : Prop := ∀ v σ H Q, g v σ H Q → g v σ H fun σ2 H2 => wipe σ2 vs = wipe σ vs ∧ Q σ2 H2
def TgsOk (vs : List Nat) (g : TGs) : Prop := ∀ v σ H Q, g v σ H Q → g v σ H fun σ2 H2 => wipe σ2 vs = wipe σ vs ∧ Q σ2 H2
theorem wipe_set {i : Nat} {o : Option V} : ∀ {vs : List Nat} {σ : L2.St}, i ∈ vs → wipe (σ.set i o) vs = wipe σ vs
  | v :: vs, σ, h => by
    unfold wipe
    by_cases hm : i ∈ vs
    · rw [wipe_set hm]
    · have e : i = v := by
        rcases List.mem_cons.mp h with h | h
        · exact h
        · exact absurd h hm
      subst e
      have : ∀ (us : List Nat) (τ : L2.St), i ∉ us → wipe (τ.set i o) us = (wipe τ us).set i o := by
        intro us
        induction us with
        | nil => intro τ _; rfl
        | cons u us ih =>
          intro τ hn
          have hu : u ≠ i := fun z => hn (z ▸ List.mem_cons_self)
          unfold wipe
          rw [ih τ fun z => hn (List.mem_cons_of_mem _ z), List.set_comm _ _ (Ne.symm hu)]
      rw [this vs σ hm, List.set_set]
theorem wipe_idem (vs : List Nat) (σ : L2.St) : wipe (wipe σ vs) vs = wipe σ vs := by
  suffices h : ∀ us : List Nat, (∀ u ∈ us, u ∈ vs) → wipe (wipe σ us) vs = wipe σ vs from h vs fun _ h => h
  intro us
  induction us with
  | nil => intro _; rfl
  | cons u us ih =>
    intro h
    show wipe ((wipe σ us).set u none) vs = _
    rw [wipe_set (h u List.mem_cons_self)]
    exact ih fun x hx => h x (List.mem_cons_of_mem _ hx)
theorem TgOk.at' {vs : List Nat} {g : TG} (hk : TgOk vs g) {v : V} {σ : L2.St} {H : Hp} {Q : L2.St → Hp → Prop} (h : g v (wipe σ vs) H Q) : g v (wipe σ vs) H fun σ2 H2 => wipe σ2 vs = wipe σ vs ∧ Q σ2 H2 := by
  have := hk v (wipe σ vs) H Q h
  rwa [wipe_idem] at this
theorem tgok_name {vs : List Nat} {i : Nat} (h : i ∈ vs := by decide) : TgOk vs (gName i) := fun v σ H Q q => ⟨wipe_set h, q⟩
theorem tgsok_nil {vs : List Nat} : TgsOk vs gNil := fun v σ H Q ⟨h, q⟩ => ⟨h, rfl, q⟩
/-- what a target's reading does not lose -/
def Mono (g : TG) : Prop := ∀ v σ H (Q Q' : L2.St → Hp → Prop), (∀ σ H, Q σ H → Q' σ H) → g v σ H Q → g v σ H Q'
theorem tgsok_cons {vs : List Nat} {g : TG} {gs : TGs} (h1 : TgOk vs g) (m1 : Mono g) (h2 : TgsOk vs gs) : TgsOk vs (gCons g gs) := fun v σ H Q ⟨x, r, e, q⟩ => ⟨x, r, e, m1 _ _ _ _ _ (fun σ1 H1 ⟨w1, q1⟩ => by
  have q2 := h2 _ _ _ _ q1
  rw [w1] at q2
  exact q2) (h1 _ _ _ _ q)⟩
theorem mono_name {i : Nat} : Mono (gName i) := fun v σ H Q Q' h q => h _ _ q
theorem tgok_tup {vs : List Nat} {K : PySem.W.Frag} {n : Nat} {gs : TGs} (h : TgsOk vs gs) : TgOk vs (gTup K n gs) := fun v σ H Q ⟨a, xs, e, h1, h2, q⟩ => ⟨a, xs, e, h1, h2, h _ _ _ _ q⟩
section
variable {w : Ww}
/-- something that nobody claims may change -/
theorem M.scratch {G : Gm} {W : Wd} {s : Sd} {σ : L2.St} {H : Hp} {p : Addr} {o : HO} (m : M w G W s σ H) (u : Unc G W p) (hp : ∀ od v, H p ≠ some (.frz od v)) {vs : List V} (hl : H p = some (.lst vs) := by first | exact c.at_ | assumption) (nt : ∀ ts, o ≠ .tbl ts := by intro ts z; cases z) : M w G W s σ (upd H p o) where
  fz := fun a v q l => (upd_ne (ne_of_none q u.1)).trans (m.fz a v q l)
  lk := fun a l => let ⟨ks, od, h1, h2⟩ := m.lk a l; ⟨ks, od, h1, (upd_ne (show a ≠ p from fun z => u.2.1 (by rw [← z]; exact l))).trans h2⟩
  fr := fun b v q h l => (upd_ne (ne_of_none q u.2.2.1)).trans (m.fr b v q h l)
  len := m.len
  sl := m.sl
  ob := fun n v q => by
    obtain ⟨a, h1, h2, h3⟩ := m.ob n v q
    exact ⟨a, h1, h2, h3.stay (Ext.refl W) (upd_ne fun z => u.2.2.2.2 n (by rw [← z]; exact h1))⟩
  al := fun n a q => by
    obtain ⟨h0, h1, h2, v, h3⟩ := m.al n a q
    exact ⟨h0, h1, h2, v, (upd_ne fun z => u.2.2.2.2 n (by rw [← z]; exact q)).trans h3⟩
  inj := m.inj
  dw := fun a q => by
    obtain ⟨t, h1, h2, n, k, c, h3, h4⟩ := m.dw a q
    exact ⟨t, h1, h2, n, k, c, (upd_ne (show a ≠ p from fun z => u.2.2.2.1 (by rw [← z]; exact q))).trans h3, h4⟩
  dn := m.dn
  nf := m.nf
  gf := m.gf
  lz := fun b od v q => (upd_ne fun z => hp od v (by rw [← z]; exact m.lz b od v q)).trans (m.lz b od v q)
  tx := m.tx.updO hl (fun ts z => by cases z) (fun c q z => by cases z) nt
abbrev Ic := Nat → List PyData → List (Option Ob) → Drw → Prop
/-- [elt for target in iter if ..] -/
@[irreducible] def uLc (m : Bool) (ui : TId) (g : TGd) (ut : TTd) (ue : TEd) (vs : List Nat) : TEd := fun s q => ui s fun xs s1 => ∃ I : Ic, I 0 [] s1.o s1.d ∧
  (∀ i d acc o dr, xs[i]? = some d → I i acc o dr → g (.d d) ⟨wipeD s1.r vs, o, dr⟩ fun s2 => ut s2 fun b s3 => if b = true then ue s3 fun y s4 => acc.length < sizeLine ∧ ∃ y', y = .d y' ∧ I (i + 1) (acc ++ [y']) s4.o s4.d else I (i + 1) acc s3.o s3.d) ∧
  ∀ acc o dr, I xs.length acc o dr → mkL m acc ⟨s1.r, o, dr⟩ q
/-- the state within a comprehension -/
structure Mc (w : Ww) (G : Gm) (W1 : Wd) (r1 : List (Option Vd)) (σ : L2.St) (D : Addr) (H : Hp) (o : List (Option Ob)) (dr : Drw) (acc : List PyData) (W : Wd) (vs : List V) : Prop where
  ext : Ext W1 W
  m : M w G W ⟨r1, o, dr⟩ σ H
  unc : Unc G W D
  at_ : H D = some (.lst vs)
  rep : RepA W.F vs acc
theorem Mc.more {G : Gm} {W1 W : Wd} {r1 : List (Option Vd)} {σ : L2.St} {D : Addr} {H : Hp} {o : List (Option Ob)} {dr : Drw} {acc : List PyData} {vs : List V} (c : Mc w G W1 r1 σ D H o dr acc W vs) {v : V} {y : PyData} (r : Rep W.F v y) : Mc w G W1 r1 σ D (upd H D (.lst (vs ++ [v]))) o dr (acc ++ [y]) W (vs ++ [v]) :=
  ⟨c.ext, c.m.scratch c.unc (fun od v q => by rw [c.at_] at q; cases q) c.at_, c.unc, upd_same, c.rep.append (.cons r .nil)⟩
/-- into a block's turn: the list guarded, the block's slots forgotten -/
theorem Mc.inn {G : Gm} {W1 W : Wd} {r1 : List (Option Vd)} {σ : L2.St} {D : Addr} {H : Hp} {o : List (Option Ob)} {dr : Drw} {acc : List PyData} {vs : List V} (c : Mc w G W1 r1 σ D H o dr acc W vs) (ns : List Nat) : M w { G with h := upd G.h D (.lst vs) } W ⟨wipeD r1 ns, o, dr⟩ (wipe σ ns) H := by
  refine (c.m.guard c.unc c.at_).less (r' := wipeD r1 ns) (by rw [wipeD_len, wipe_length]; exact c.m.len) fun i x q => ?_
  obtain ⟨h1, h2⟩ := wipe_get (σ := σ) q
  rw [h2]
  exact c.m.sl i x h1
/-- and out of it -/
theorem Mc.out {G : Gm} {W1 W W2 : Wd} {r1 : List (Option Vd)} {σ σ2 : L2.St} {D : Addr} {H H2 : Hp} {o : List (Option Ob)} {dr : Drw} {s2 : Sd} {acc : List PyData} {vs : List V} (c : Mc w G W1 r1 σ D H o dr acc W vs) (e : Ext W W2) (m : M w { G with h := upd G.h D (.lst vs) } W2 s2 σ2 H2) : Mc w G W1 r1 σ D H2 s2.o s2.d acc W2 vs := by
  have hl : D ∉ W2.lk := by rw [e.2.2]; exact c.unc.2.1
  have hF : W2.F D = none := by
    cases q : W2.F D with
    | none => rfl
    | some v =>
      rcases m.nf D v q with h | h
      · obtain ⟨u, hu⟩ := c.m.gf D v h
        rw [c.unc.2.2.1] at hu
        cases hu
      · have h' : upd G.h D (.lst vs) D = none := h
        rw [upd_same] at h'
        cases h'
  obtain ⟨m', u, a⟩ := m.unguard c.unc.2.2.1 c.unc.2.2.2.1 hl hF c.m.gf
  exact ⟨c.ext.trans e, m'.less (r' := r1) c.m.len fun i x q => by
    obtain ⟨v, h1, h2⟩ := c.m.sl i x q
    exact ⟨v, h1, h2.ext e⟩, u, a, RepA.mono (fun a o _ q => e.1 a o q) _ _ c.rep⟩
theorem lc_at (m : Bool) {wi : TI} {g : TG} {tt : TT} {te : TE} {vs : List Nat} {ui : TId} {gd : TGd} {ut : TTd} {ue : TEd} (hg : AbG w g gd) (hk : TgOk vs g) (ht : AbT w tt ut) (he : AbE w te ue) {G : Gm} {W : Wd} {s : Sd} {σ : L2.St} {H : Hp} {Q : VK} {q : Vd → Sd → Prop} (M0 : M w G W s σ H) (k : Ko w G W σ Q q)
    (hi : ∀ (R : It → Hp → Prop) (qI : List PyData → Sd → Prop), (∀ W' s' H' J xs, Ext W W' → M w G W' s' σ H' → JL w G W' J xs → qI xs s' → R J H') → ui s qI → wi σ H R) (hu : uLc m ui gd ut ue vs s q) : tLc wi g tt te vs σ H Q := by
  unfold uLc at hu
  refine hi _ _ (fun W1 s1 H1 J xs e1 m1 j ⟨I, h0, hs, hd⟩ D hD => ?_) hu
  have st : Mc w G W1 s1.r σ D (upd H1 D (.lst [])) s1.o s1.d [] W1 [] := ⟨Ext.refl W1, m1.same (same_upd hD), m1.free hD, upd_same, .nil⟩
  refine ⟨fun i n H => n = xs.length - i ∧ i ≤ xs.length ∧ ∃ W' o dr acc us, Mc w G W1 s1.r σ D H o dr acc W' us ∧ I i acc o dr, ⟨xs.length, by omega, Nat.zero_le _, W1, _, _, [], [], st, h0⟩, ?_⟩
  rintro i n H2 ⟨rfl, hle, W2, o, dr, acc, us, c, hI⟩
  by_cases hlt : i < xs.length
  · refine .inr ⟨j.go G W2 _ σ H2 i (Gs.refl G) c.ext.f c.m hlt, fun H => i + 1 ≤ xs.length ∧ ∃ W' o dr acc us, Mc w G W1 s1.r σ D H o dr acc W' us ∧ I (i + 1) acc o dr, fun H' ⟨h1, h2⟩ => ⟨xs.length - (i + 1), by omega, rfl, h1, h2⟩, fun v H3 hy => hk.at' ?_⟩
    obtain ⟨W3, d, hd3, e3, m3, r3⟩ := j.yld { G with h := upd G.h D (.lst us) } W2 _ (wipe σ vs) H2 i v H3 (Gs.refl _) c.ext.f (c.inn vs) hlt hy
    refine hg _ W3 _ _ H3 v (.d d) _ _ m3 r3 (fun W4 s4 σ4 H4 e4 m4 h4 => ?_) (hs i d acc o dr hd3 hI)
    refine ht _ W4 s4 σ4 H4 _ _ m4 (fun W5 s5 H5 b e5 m5 h5 => ?_) h4
    have e25 := e3.trans (e4.trans e5)
    cases b with
    | false => exact ⟨hlt, W5, _, _, acc, us, c.out e25 m5, h5⟩
    | true =>
      refine he _ W5 s5 σ4 H5 _ _ m5 (fun W6 s6 H6 v6 y e6 m6 r6 ⟨h6, y', hy', h7⟩ => ?_) h5
      subst hy'
      have c6 := c.out (e25.trans e6) m6
      exact ⟨us, c6.at_, by rw [c6.rep.len]; exact h6, hlt, W6, _, _, acc ++ [y'], us ++ [v6], c6.more r6, h7⟩
  · have e : i = xs.length := by omega
    subst e
    exact .inl ⟨j.stop G W2 _ σ H2 (Gs.refl G) c.ext.f c.m, c.m.mkV m c.unc c.at_ (of_repA c.rep) (k.up (e1.trans c.ext)) (mkL_V (hd acc o dr hI))⟩
theorem ab_lc (m : Bool) {wi : TI} {g : TG} {tt : TT} {te : TE} {vs : List Nat} {ui : TId} {gd : TGd} {ut : TTd} {ue : TEd} (hi : AbI w wi ui) (hg : AbG w g gd) (hk : TgOk vs g) (ht : AbT w tt ut) (he : AbE w te ue) : AbE w (tLc wi g tt te vs) (uLc m ui gd ut ue vs) := fun G W s σ H Q q M0 k hu =>
  lc_at m hg hk ht he M0 k (fun R qI h hu => hi G W s σ H R qI M0 h hu) hu
/-- [elt for tg in iter if .. for tg1 in iter1 if ..] -/
@[irreducible] def uLc2 (m : Bool) (ui : TId) (g : TGd) (ut : TTd) (ui1 : TId) (g1 : TGd) (ut1 : TTd) (ue : TEd) (vs vs1 : List Nat) : TEd := fun s q => ui s fun xs s1 => ∃ I : Ic, I 0 [] s1.o s1.d ∧
  (∀ i d acc o dr, xs[i]? = some d → I i acc o dr → g (.d d) ⟨wipeD s1.r vs, o, dr⟩ fun s2 => ut s2 fun b s3 => if b = true then
    ui1 s3 fun ys s4 => ∃ I1 : Ic, I1 0 acc s4.o s4.d ∧
      (∀ i1 d1 acc1 o1 dr1, ys[i1]? = some d1 → I1 i1 acc1 o1 dr1 → g1 (.d d1) ⟨wipeD s4.r vs1, o1, dr1⟩ fun s5 => ut1 s5 fun b1 s6 => if b1 = true then ue s6 fun y s7 => acc1.length < sizeLine ∧ ∃ y', y = .d y' ∧ I1 (i1 + 1) (acc1 ++ [y']) s7.o s7.d else I1 (i1 + 1) acc1 s6.o s6.d) ∧
      ∀ acc1 o1 dr1, I1 ys.length acc1 o1 dr1 → I (i + 1) acc1 o1 dr1
    else I (i + 1) acc s3.o s3.d) ∧
  ∀ acc o dr, I xs.length acc o dr → mkL m acc ⟨s1.r, o, dr⟩ q
theorem ab_lc2 (m : Bool) {wi wi1 : TI} {g g1 : TG} {tt tt1 : TT} {te : TE} {vs vs1 : List Nat} {ui ui1 : TId} {gd gd1 : TGd} {ut ut1 : TTd} {ue : TEd} (hi : AbI w wi ui) (hg : AbG w g gd) (hk : TgOk vs g) (ht : AbT w tt ut)
    (hi1 : AbI w wi1 ui1) (hg1 : AbG w g1 gd1) (hk1 : TgOk vs1 g1) (ht1 : AbT w tt1 ut1) (he : AbE w te ue) : AbE w (tLc2 wi g tt wi1 g1 tt1 te vs vs1) (uLc2 m ui gd ut ui1 gd1 ut1 ue vs vs1) := fun G W s σ H Q q M0 k hu => by
  unfold uLc2 at hu
  refine hi G W s σ H _ _ M0 (fun W1 s1 H1 J xs e1 m1 j ⟨I, h0, hs, hd⟩ D hD => ?_) hu
  have st : Mc w G W1 s1.r σ D (upd H1 D (.lst [])) s1.o s1.d [] W1 [] := ⟨Ext.refl W1, m1.same (same_upd hD), m1.free hD, upd_same, .nil⟩
  refine ⟨fun i n H => n = xs.length - i ∧ i ≤ xs.length ∧ ∃ W' o dr acc us, Mc w G W1 s1.r σ D H o dr acc W' us ∧ I i acc o dr, ⟨xs.length, by omega, Nat.zero_le _, W1, _, _, [], [], st, h0⟩, ?_⟩
  rintro i n H2 ⟨rfl, hle, W2, o, dr, acc, us, c, hI⟩
  by_cases hlt : i < xs.length
  · refine .inr ⟨j.go G W2 _ σ H2 i (Gs.refl G) c.ext.f c.m hlt, fun H => i + 1 ≤ xs.length ∧ ∃ W' o dr acc us, Mc w G W1 s1.r σ D H o dr acc W' us ∧ I (i + 1) acc o dr, fun H' ⟨h1, h2⟩ => ⟨xs.length - (i + 1), by omega, rfl, h1, h2⟩, fun v H3 hy => hk.at' ?_⟩
    obtain ⟨W3, d, hd3, e3, m3, r3⟩ := j.yld { G with h := upd G.h D (.lst us) } W2 _ (wipe σ vs) H2 i v H3 (Gs.refl _) c.ext.f (c.inn vs) hlt hy
    refine hg _ W3 _ _ H3 v (.d d) _ _ m3 r3 (fun W4 s4 σ4 H4 e4 m4 h4 => ?_) (hs i d acc o dr hd3 hI)
    refine ht _ W4 s4 σ4 H4 _ _ m4 (fun W5 s5 H5 b e5 m5 h5 => ?_) h4
    have e25 := e3.trans (e4.trans e5)
    cases b with
    | false => exact ⟨hlt, W5, _, _, acc, us, c.out e25 m5, h5⟩
    | true =>
      refine hi1 _ W5 s5 σ4 H5 _ _ m5 (fun W6 s6 H6 J1 ys e6 m6 j1 ⟨I1, h10, h1s, h1d⟩ => ?_) h5
      have e26 := e25.trans e6
      -- within the second loop: the state of the block, the list grows
      have c6 := c.out e26 m6
      have stIn : ∀ {W' H' o' d' acc' us'}, Mc w G W1 s1.r σ D H' o' d' acc' W' us' → Ext W6 W' → M w { G with h := upd G.h D (.lst us') } W' ⟨s6.r, o', d'⟩ σ4 H' := fun {W' H' o' d' acc' us'} c' e' => by
        refine (c'.m.guard c'.unc c'.at_).less (r' := s6.r) m6.len fun i x q => ?_
        obtain ⟨v, h1, h2⟩ := m6.sl i x q
        exact ⟨v, h1, h2.ext e'⟩
      refine ⟨fun i1 n1 H => n1 = ys.length - i1 ∧ i1 ≤ ys.length ∧ ∃ W' o dr acc us, Mc w G W1 s1.r σ D H o dr acc W' us ∧ Ext W6 W' ∧ I1 i1 acc o dr, ⟨ys.length, by omega, Nat.zero_le _, W6, _, _, acc, us, c6, Ext.refl W6, h10⟩, ?_⟩
      rintro i1 n1 H7 ⟨rfl, hle1, W7, o7, dr7, acc7, us7, c7, e67, hI7⟩
      by_cases hlt1 : i1 < ys.length
      · refine .inr ⟨j1.go G W7 _ σ H7 i1 (Gs.refl _) e67.f c7.m hlt1, fun H => i1 + 1 ≤ ys.length ∧ ∃ W' o dr acc us, Mc w G W1 s1.r σ D H o dr acc W' us ∧ Ext W6 W' ∧ I1 (i1 + 1) acc o dr, fun H' ⟨h1, h2⟩ => ⟨ys.length - (i1 + 1), by omega, rfl, h1, h2⟩, fun v8 H8 hy8 => hk1.at' ?_⟩
        have m7 := stIn c7 e67
        have m7' : M w { G with h := upd G.h D (.lst us7) } W7 ⟨wipeD s6.r vs1, o7, dr7⟩ (wipe σ4 vs1) H7 := m7.less (r' := wipeD s6.r vs1) (by rw [wipeD_len, wipe_length]; exact m7.len) fun i x q => by
          obtain ⟨h1, h2⟩ := wipe_get (σ := σ4) q
          rw [h2]
          exact m7.sl i x h1
        obtain ⟨W8, d8, hd8, e8, m8, r8⟩ := j1.yld { G with h := upd G.h D (.lst us7) } W7 _ (wipe σ4 vs1) H7 i1 v8 H8 (Gs.refl _) e67.f m7' hlt1 hy8
        refine hg1 _ W8 _ _ H8 v8 (.d d8) _ _ m8 r8 (fun W9 s9 σ9 H9 e9 m9 h9 => ?_) (h1s i1 d8 acc7 o7 dr7 hd8 hI7)
        refine ht1 _ W9 s9 σ9 H9 _ _ m9 (fun W10 s10 H10 b10 e10 m10 h10 => ?_) h9
        have e710 := e8.trans (e9.trans e10)
        cases b10 with
        | false => exact ⟨hlt1, W10, _, _, acc7, us7, c7.out e710 m10, e67.trans e710, h10⟩
        | true =>
          refine he _ W10 s10 σ9 H10 _ _ m10 (fun W11 s11 H11 v11 y e11 m11 r11 ⟨h11, y', hy', h12⟩ => ?_) h10
          subst hy'
          have c11 := c7.out (e710.trans e11) m11
          exact ⟨us7, c11.at_, by rw [c11.rep.len]; exact h11, hlt1, W11, _, _, acc7 ++ [y'], us7 ++ [v11], c11.more r11, e67.trans (e710.trans e11), h12⟩
      · have e : i1 = ys.length := by omega
        subst e
        exact .inl ⟨j1.stop G W7 _ σ H7 (Gs.refl _) e67.f c7.m, hlt, W7, o7, dr7, acc7, us7, c7, h1d _ _ _ hI7⟩
  · have e : i = xs.length := by omega
    subst e
    exact .inl ⟨j.stop G W2 _ σ H2 (Gs.refl G) c.ext.f c.m, c.m.mkV m c.unc c.at_ (of_repA c.rep) (k.up (e1.trans c.ext)) (mkL_V (hd acc o dr hI))⟩
theorem abt_yes : AbT w tYes (fun s q => q true s) := fun G W s σ H Q q m k h => k _ _ _ _ (Ext.refl W) m h
end
end Dt


set_option autoImplicit false
set_option Elab.async false
set_option autoImplicit false
set_option linter.all false
set_option maxRecDepth 100000
set_option maxHeartbeats 4000000
/-! The data layer: what a def promises over data, its call, its body. -/
namespace Dt
open PySem PySem.Spec L2 Kt
/-- what a def gives: frozen data, a frozen dict, a new list -/
inductive Rs where
  | d (x : PyData) | dc (kvs : List (Int × PyData)) | nl (xs : List PyData) | nn (xss : List (List PyData)) | n3 (xsss : List (List (List PyData)))
def RepN (F H0 H : Hp) (b : Addr) (ds : List PyData) : Prop := F b = none ∧ H0 b = none ∧ ∃ vs, H b = some (.lst vs) ∧ RepA F vs ds
/-- a new list of new lists: its address, theirs -/
def RepNN (F H0 H : Hp) (p : Addr × List Addr) (xss : List (List PyData)) : Prop := F p.1 = none ∧ H0 p.1 = none ∧ H p.1 = some (.lst (p.2.map V.ref)) ∧ Paired (RepN F H0 H) p.2 xss
def flat2 {α : Type} (T : List (α × List α)) : List α := T.flatMap fun p => p.1 :: p.2
def RepRs (F H0 H : Hp) : V → Rs → Prop
  | v, .d x => Rep F v x
  | v, .dc kvs => ∃ a ks, v = .ref a ∧ F a = some (.dK ks) ∧ RepK F ks kvs
  | v, .nl ds => ∃ a vs, v = .ref a ∧ F a = none ∧ H0 a = none ∧ H a = some (.lst vs) ∧ RepA F vs ds
  | v, .nn xss => ∃ a as, v = .ref a ∧ F a = none ∧ H0 a = none ∧ H a = some (.lst (as.map V.ref)) ∧ (a :: as).Nodup ∧ Paired (RepN F H0 H) as xss
  | v, .n3 xsss => ∃ (a : Addr) (T : List (Addr × List Addr)), v = .ref a ∧ F a = none ∧ H0 a = none ∧ H a = some (.lst (T.map fun p => V.ref p.1)) ∧ (a :: flat2 T).Nodup ∧ Paired (RepNN F H0 H) T xsss
def DrH (δ : Option Addr) (F H : Hp) (dr : Drw) : Prop := (∀ a, δ = some a → ∃ t, dr = some t ∧ F a = none ∧ ∃ n k c, H a = some (DrO n k c) ∧ 0 ≤ k ∧ k ≤ t) ∧ ∀ t, dr = some t → ∃ a, δ = some a
/-- arguments, draws, what is wanted of answer and draws -/
abbrev Spd := List Vd → Drw → (Rs → Drw → Prop) → Prop
/-- the tables are as told, no frozen thing is one; no code object at what was there -/
def Ty (T : List (Addr × Str)) (H F' H' : Hp) : Prop := LamX.Tabs T H' ∧ (∀ a ts, F' a ≠ some (HO.tbl ts)) ∧ ∀ b u, strip H b = some u → NoCode T H b → NoCode T H' b
def After (T : List (Addr × Str)) (δ : Option Addr) (F H : Hp) (Q : VK) (q : Rs → Drw → Prop) : Prop := (LamX.Tabs T H ∧ ∀ a ts, F a ≠ some (HO.tbl ts)) ∧ ∀ (F' H' : Hp) (v : V) (x : Rs) (dr' : Drw), (∀ a o, F a = some o → F' a = some o) → (∀ a o, F' a = some o → H' a = some o) → (∀ a o, F' a = some o → F a = some o ∨ strip H a = none) →
  (∀ b o, strip H b = some o → δ ≠ some b → H' b = some o) → DrH δ F' H' dr' → RepRs F' (strip H) H' v x → Ty T H F' H' → q x dr' → Q v H'
def liftSp (T : List (Addr × Str)) (sp : Spd) : Sp := fun vs H Q _ => ∃ (δ : Option Addr) (F : Hp) (xs : List Vd) (dr : Drw) (q : Rs → Drw → Prop), (∀ a o, F a = some o → H a = some o) ∧ DrH δ F H dr ∧ Paired (RepV ⟨F, fun _ => none, []⟩ δ) vs xs ∧ sp xs dr q ∧ After T δ F H Q q
abbrev FnD (P : Program) (w : Ww) (K : PySem.W.Frag) (mg : Str → Option Value) (base : Heap) (k : Nat) (f : Addr) (fd : FuncData) (ps : List Str) (sp : Spd) : Prop := FnG P w.w K mg base k f fd ps (liftSp w.T sp)
/-! ### a call -/
def noP : Vd → Bool
  | .d _ => true
  | .dr => true
  | _ => false
/-- an own list of own lists: its number, theirs -/
def Own2 (o : List (Option Ob)) (p : Nat × List Nat) (xss : List (List PyData)) : Prop := o[p.1]? = some (some (.lst (p.2.map Vd.p))) ∧ Paired (fun i ds => o[i]? = some (some (.lst (ds.map Vd.d)))) p.2 xss
/-- an own list of them, all numbers from b on -/
structure Own3 (b : Nat) (o : List (Option Ob)) (j : Nat) (I : List (Nat × List Nat)) (xsss : List (List (List PyData))) : Prop where
  top : o[j]? = some (some (.lst (I.map fun p => Vd.p p.1)))
  fam : Paired (Own2 o) I xsss
  nd : (j :: flat2 I).Nodup
  low : ∀ i ∈ j :: flat2 I, b ≤ i
def mkR (m : Bool) (r : Rs) : TEd := fun s q => match r with
  | .d x => q (.d x) s
  | .dc kvs => q (.dc kvs) s
  | .nl ds => mkL m ds s q
  | .nn xss => match m with
    | true => q (.p (s.o.length + xss.length)) { s with o := s.o ++ xss.map (fun ds => some (.lst (ds.map Vd.d))) ++ [some (.lst ((List.range xss.length).map fun i => .p (s.o.length + i)))] }
    | false => q (.d (.list (xss.map PyData.list))) s
  | .n3 xsss => match m with
    | true => ∀ (o' : List (Option Ob)) (j : Nat) (I : List (Nat × List Nat)), s.o <+: o' → Own3 s.o.length o' j I xsss → q (.p j) { s with o := o' }
    | false => q (.d (.list (xsss.map fun xss => .list (xss.map PyData.list)))) s
def uCall (m : Bool) (sp : Spd) (g : List Vd → List Vd) (ua : TAd) : TEd := fun s q => ua s fun xs s1 => (g xs).all noP = true ∧ sp (g xs) s1.d fun r dr' => mkR m r { s1 with d := dr' } q
section
variable {w : Ww}
def cutF (W : Wd) : Hp := fun a => if a ∈ W.lk then none else W.F a
theorem cutF_some {W : Wd} {a : Addr} {o : HO} (h : cutF W a = some o) : a ∉ W.lk ∧ W.F a = some o := by
  unfold cutF at h
  by_cases z : a ∈ W.lk
  · rw [if_pos z] at h; cases h
  · rw [if_neg z] at h; exact ⟨z, h⟩
theorem M.cut {G : Gm} {W : Wd} {s : Sd} {σ : L2.St} {H : Hp} (m : M w G W s σ H) : ∀ a o, (∃ xs, o = HO.lst xs ∨ o = .tup xs) → W.F a = some o → cutF W a = some o := fun a o ⟨xs, h⟩ e => by
  unfold cutF
  rw [if_neg fun z => ?_]
  · exact e
  · obtain ⟨ks, od, h1, _⟩ := m.lk a z
    rw [e] at h1
    rcases h with rfl | rfl <;> cases h1
theorem call_pre {G : Gm} {W : Wd} {s : Sd} {σ : L2.St} {H : Hp} (m : M w G W s σ H) {vs : List V} {xs : List Vd} (r : Paired (RepV W G.δ) vs xs) (hn : xs.all noP = true) : (∀ a o, cutF W a = some o → H a = some o) ∧ DrH G.δ (cutF W) H s.d ∧ Paired (RepV ⟨cutF W, fun _ => none, []⟩ G.δ) vs xs := by
  refine ⟨fun a o h => let ⟨h1, h2⟩ := cutF_some h; m.fz a o h2 h1, ⟨fun a h => ?_, m.dn⟩, ?_⟩
  · obtain ⟨t, h1, h2, h3⟩ := m.dw a h
    refine ⟨t, h1, ?_, h3⟩
    unfold cutF
    split
    · rfl
    · exact h2
  · induction r with
    | nil => exact .nil
    | @cons v x vs xs r t ih =>
      rw [List.all_cons, Bool.and_eq_true] at hn
      refine .cons ?_ (ih hn.2)
      match x, hn.1, r with
      | .d x, _, r => exact Rep.mono m.cut x v r
      | .dr, _, r => exact r
theorem call_post {G : Gm} {W : Wd} {s : Sd} {σ : L2.St} {H F' H' : Hp} {dr' : Drw} (m : M w G W s σ H) (h1 : ∀ a o, cutF W a = some o → F' a = some o) (h2 : ∀ a o, F' a = some o → H' a = some o) (h3 : ∀ a o, F' a = some o → cutF W a = some o ∨ strip H a = none)
    (h4 : ∀ b o, strip H b = some o → G.δ ≠ some b → H' b = some o) (h5 : DrH G.δ F' H' dr') (ty : Ty w.T H F' H') :
    ∃ W', Ext W W' ∧ M w G W' { s with d := dr' } σ H' ∧ (∀ a o, F' a = some o → W'.F a = some o) ∧ (∀ a, F' a = none → strip H a = none → Unc G W' a) := by
  have nδ : ∀ a, strip H a = none → G.δ ≠ some a := fun a h z => by
    obtain ⟨_, _, _, _, _, _, e, _⟩ := m.dw a z
    rw [strip_of e fun ts z => by cases z] at h
    cases h
  have frs : ∀ b o, G.h b = some o → G.δ ≠ some b → b ∉ W.lk → strip H b = some o := fun b o q h l => strip_of (m.fr b o q h l) fun ts z => m.tx.gn b ts (by rw [q, z])
  have lkδ : ∀ a ∈ W.lk, G.δ ≠ some a := fun a l z => by
    obtain ⟨_, _, e, _⟩ := m.dw a z
    obtain ⟨_, _, e2, _⟩ := m.lk a l
    rw [e] at e2
    cases e2
  have lkH : ∀ a ∈ W.lk, ∃ ks od, W.F a = some (.dK ks) ∧ H' a = some (.frz od (.dK ks)) := fun a l => by
    obtain ⟨ks, od, e1, e2⟩ := m.lk a l
    exact ⟨ks, od, e1, h4 a _ (strip_of e2 fun ts z => by cases z) (lkδ a l)⟩
  have lkF : ∀ a o, F' a = some o → (∃ ks, o = HO.dK ks) ∨ (∃ xs, o = HO.lst xs ∨ o = .tup xs) ∨ True → a ∈ W.lk → (∃ od u, o = .frz od u) := fun a o q _ l => by
    obtain ⟨ks, od, _, e⟩ := lkH a l
    rw [h2 a o q] at e
    obtain rfl := Option.some.inj e
    exact ⟨od, _, rfl⟩
  have lkN : ∀ a ∈ W.lk, ∀ o, F' a = some o → False := fun a l o q => by
    rcases h3 a o q with e | e
    · exact (cutF_some e).1 l
    · obtain ⟨ks, od, _, e2⟩ := m.lk a l
      rw [strip_of e2 fun ts z => by cases z] at e
      cases e
  have gh : ∀ a, strip H a = none → G.h a = none := fun a h => by
    cases e : G.h a with
    | none => rfl
    | some o =>
      have l : a ∉ W.lk := fun z => by
        obtain ⟨_, _, _, e2⟩ := m.lk a z
        rw [strip_of e2 fun ts z => by cases z] at h
        cases h
      rw [frs a o e (nδ a h) l] at h
      cases h
  let W' : Wd := ⟨fun a => if a ∈ W.lk then W.F a else F' a, W.α, W.lk⟩
  have wF : ∀ a, a ∉ W.lk → W'.F a = F' a := fun a l => if_neg l
  have wL : ∀ a, a ∈ W.lk → W'.F a = W.F a := fun a l => if_pos l
  have e : Ext W W' := ⟨fun a o q => by
    by_cases l : a ∈ W.lk
    · rw [wL a l]; exact q
    · rw [wF a l]
      exact h1 a o (by unfold cutF; rw [if_neg l]; exact q), fun _ _ q => q, rfl⟩
  refine ⟨W', e, ⟨fun a o q l => ?_, fun a l => ?_, fun b o q h l => h4 b o (frs b o q h l) h, m.len, fun i x q => ?_, fun n o q => ?_, fun n a q => ?_, m.inj, fun a q => ?_, h5.2, fun a o q => ?_, m.gf, (fun b od u q => h4 b _ (strip_of (m.lz b od u q) fun ts z => by cases z) fun z => by
    obtain ⟨_, _, _, _, _, _, e, _⟩ := m.dw b z
    rw [m.lz b od u q] at e
    cases e), ?tx⟩, fun a o q => ?_, fun a hF hH => ⟨?_, fun l => ?_, gh a hH, nδ a hH, fun n q => ?_⟩⟩
  case tx =>
    have frA : ∀ b u, G.h b = some u → ∃ u', strip H b = some u' := fun b u q => by
      by_cases d : G.δ = some b
      · obtain ⟨_, _, _, _, _, _, e, _⟩ := m.dw b d
        exact ⟨_, strip_of e fun ts z => by cases z⟩
      · by_cases l : b ∈ W.lk
        · obtain ⟨_, _, _, e2⟩ := m.lk b l
          exact ⟨_, strip_of e2 fun ts z => by cases z⟩
        · exact ⟨u, frs b u q d l⟩
    refine ⟨ty.1, fun a ts z => ?_, m.tx.gn, fun n a q => ?_, fun b u q z => ?_⟩
    · have z : (if a ∈ W.lk then W.F a else F' a) = some (HO.tbl ts) := z
      by_cases l : a ∈ W.lk
      · rw [if_pos l] at z
        exact m.tx.fn a ts z
      · rw [if_neg l] at z
        exact ty.2.1 a ts z
    · obtain ⟨_, _, q5, u, q6⟩ := m.al n a q
      have nt := (m.tx.an n a q).1
      have su := strip_of q6 fun ts z => nt ts (by rw [q6, z])
      exact ⟨fun ts z => nt ts (by rw [q6, ← h4 a u su q5, z]), ty.2.2 a u su (m.tx.an n a q).2⟩
    · obtain ⟨u', hu'⟩ := frA b u q
      exact ty.2.2 b u' hu' (m.tx.gc b u q z)
  · rw [wF a l] at q; exact h2 a o q
  · obtain ⟨ks, od, e1, e2⟩ := lkH a l
    exact ⟨ks, od, (wL a l).trans e1, e2⟩
  · obtain ⟨v, q1, q2⟩ := m.sl i x q
    exact ⟨v, q1, q2.ext e⟩
  · obtain ⟨a, q1, q2, q3⟩ := m.ob n o q
    obtain ⟨_, _, q5, u, q6⟩ := m.al n a q1
    have l : a ∉ W.lk := fun z => by
      obtain ⟨_, _, e2, _⟩ := m.lk a z
      rw [q2] at e2
      cases e2
    have su := strip_of q6 fun ts z => (m.tx.an n a q1).1 ts (by rw [q6, z])
    refine ⟨a, q1, ?_, q3.stay e ((h4 a u su q5).trans q6.symm)⟩
    rw [wF a l]
    cases z : F' a with
    | none => rfl
    | some o =>
      rcases h3 a o z with y | y
      · rw [(cutF_some y).2] at q2; cases q2
      · rw [su] at y; cases y
  · obtain ⟨q1, q2, q3, u, q4⟩ := m.al n a q
    exact ⟨q1, q2, q3, u, h4 a u (strip_of q4 fun ts z => (m.tx.an n a q).1 ts (by rw [q4, z])) q3⟩
  · obtain ⟨t, q1, q2, q3⟩ := h5.1 a q
    refine ⟨t, q1, ?_, q3⟩
    rw [wF a fun l => lkδ a l q]
    exact q2
  · by_cases l : a ∈ W.lk
    · rw [wL a l] at q; exact m.nf a o q
    · rw [wF a l] at q
      rcases h3 a o q with y | y
      · exact m.nf a o (cutF_some y).2
      · exact .inr (gh a y)
  · rw [wF a fun l => lkN a l o q]
    exact q
  · rw [wF a fun l => ?_]
    · exact hF
    · obtain ⟨_, _, _, e2⟩ := m.lk a l
      rw [strip_of e2 fun ts z => by cases z] at hH
      cases hH
  · obtain ⟨_, _, _, e2⟩ := m.lk a l
    rw [strip_of e2 fun ts z => by cases z] at hH
    cases hH
  · obtain ⟨_, _, _, u, q4⟩ := m.al n a q
    rw [strip_of q4 fun ts z => (m.tx.an n a q).1 ts (by rw [q4, z])] at hH
    cases hH
theorem paired_of_get {α β : Type} {R : α → β → Prop} : ∀ {l : List α} {m : List β}, l.length = m.length → (∀ (i : Nat) x y, l[i]? = some x → m[i]? = some y → R x y) → Paired R l m
  | [], [], _, _ => .nil
  | [], _ :: _, h, _ => by cases h
  | _ :: _, [], h, _ => by cases h
  | x :: l, y :: m, h, k => .cons (k 0 x y rfl rfl) (paired_of_get (by simpa using h) fun i x y hx hy => k (i + 1) x y (by simpa using hx) (by simpa using hy))
def UnN (G : Gm) (W : Wd) (H : Hp) (a : Addr) (ds : List PyData) : Prop := Unc G W a ∧ ∃ vs, H a = some (.lst vs) ∧ RepA W.F vs ds
theorem M.claimPs {G : Gm} {σ : L2.St} {H : Hp} : ∀ (as : List Addr) (xss : List (List PyData)) (s : Sd) (W : Wd), M w G W s σ H → as.Nodup → Paired (UnN G W H) as xss →
    ∃ W', Ext W W' ∧ M w G W' { s with o := s.o ++ xss.map (fun ds => some (.lst (ds.map Vd.d))) } σ H ∧ W'.F = W.F ∧ (∀ i a, as[i]? = some a → W'.α (s.o.length + i) = some a) ∧ ∀ p, Unc G W p → p ∉ as → Unc G W' p
  | [], _, s, W, m, _, h => by
    cases h
    refine ⟨W, Ext.refl W, ?_, rfl, fun i a e => by simp at e, fun p u _ => u⟩
    rw [List.map_nil, List.append_nil]
    exact m
  | a :: as, _, s, W, m, nd, h => by
    cases h with
    | @cons _ ds _ xss h t =>
      obtain ⟨u, vs, hv, rv⟩ := h
      obtain ⟨na, nd'⟩ := List.nodup_cons.mp nd
      obtain ⟨e1, m1, p, r1, r2⟩ := m.claimP (o := .lst (ds.map Vd.d)) u ⟨vs, hv, of_repA rv⟩ (m.noCode hv)
      obtain rfl := V.ref.inj r1
      have un : ∀ p, Unc G W p → p ≠ a → Unc G (W.own s.o.length a) p := fun p up ne => by
        refine up.ext (W' := W.own s.o.length a) (G' := G) up.1 rfl up.2.2.1 rfl fun n z => ?_
        have z' : (if n = s.o.length then some a else W.α n) = some p := z
        by_cases c : n = s.o.length
        · rw [if_pos c] at z'
          exact ne (Option.some.inj z').symm
        · rw [if_neg c] at z'
          exact up.2.2.2.2 n z'
      have t' : Paired (UnN G (W.own s.o.length a) H) as xss := by
        clear rv hv m1 e1 r2
        revert na
        clear nd nd'
        intro na
        induction t with
        | nil => exact .nil
        | @cons b ys bs yss hb tb ih =>
          rw [List.mem_cons, not_or] at na
          exact .cons ⟨un b hb.1 (fun z => na.1 z.symm), hb.2⟩ (ih na.2)
      obtain ⟨W2, e2, m2, f2, g2, u2⟩ := M.claimPs as xss _ _ m1 nd' t'
      refine ⟨W2, e1.trans e2, ?_, f2, fun i b hb => ?_, fun p up np => ?_⟩
      · have : s.o ++ (ds :: xss).map (fun ds => some (Ob.lst (ds.map Vd.d))) = (s.o ++ [some (.lst (ds.map Vd.d))]) ++ xss.map (fun ds => some (.lst (ds.map Vd.d))) := by
          rw [List.map_cons, List.append_assoc]
          rfl
        rw [this]
        exact m2
      · cases i with
        | zero =>
          have : some a = some b := hb
          obtain rfl := Option.some.inj this
          exact e2.2.1 _ _ r2
        | succ i =>
          have := g2 i b hb
          rw [List.length_append, List.length_singleton] at this
          rw [show s.o.length + (i + 1) = s.o.length + 1 + i by omega]
          exact this
      · rw [List.mem_cons, not_or] at np
        exact u2 p (un p up np.1) np.2
theorem M.claimFs {G : Gm} {σ : L2.St} {H : Hp} {s : Sd} : ∀ (as : List Addr) (xss : List (List PyData)) (W : Wd), M w G W s σ H → as.Nodup → Paired (UnN G W H) as xss →
    ∃ W', Ext W W' ∧ M w G W' s σ H ∧ RepA W'.F (as.map V.ref) (xss.map PyData.list) ∧ ∀ p, Unc G W p → p ∉ as → Unc G W' p
  | [], _, W, m, _, h => by
    cases h
    exact ⟨W, Ext.refl W, m, .nil, fun p u _ => u⟩
  | a :: as, _, W, m, nd, h => by
    cases h with
    | @cons _ ds _ xss h t =>
      obtain ⟨u, vs, hv, rv⟩ := h
      obtain ⟨na, nd'⟩ := List.nodup_cons.mp nd
      obtain ⟨e1, m1⟩ := m.claimF u hv
      have un : ∀ p, Unc G W p → p ≠ a → Unc G (W.frz a (.lst vs)) p := fun p up ne => up.ext (W' := W.frz a (.lst vs)) (G' := G) ((upd_ne ne).trans up.1) rfl up.2.2.1 rfl up.2.2.2.2
      have t' : Paired (UnN G (W.frz a (.lst vs)) H) as xss := by
        revert na
        clear nd nd'
        intro na
        induction t with
        | nil => exact .nil
        | @cons b ys bs yss hb tb ih =>
          rw [List.mem_cons, not_or] at na
          obtain ⟨ub, vb, hvb, rb⟩ := hb
          exact .cons ⟨un b ub (fun z => na.1 z.symm), vb, hvb, RepA.mono (fun a o _ q => e1.1 a o q) _ _ rb⟩ (ih na.2)
      obtain ⟨W2, e2, m2, f2, u2⟩ := M.claimFs as xss _ m1 nd' t'
      refine ⟨W2, e1.trans e2, m2, .cons (.lst (e2.1 _ _ upd_same) (RepA.mono (fun a o _ q => (e1.trans e2).1 a o q) _ _ rv)) f2, fun p up np => ?_⟩
      rw [List.mem_cons, not_or] at np
      exact u2 p (un p up np.1) np.2
/-- a new list of new lists -/
theorem M.claimNN {G : Gm} {W : Wd} {s : Sd} {σ : L2.St} {H H0 F' : Hp} {Q : VK} {q : Vd → Sd → Prop} (b : Bool) (m : M w G W s σ H) (hF : ∀ a o, F' a = some o → W.F a = some o) (hU : ∀ a, F' a = none → H0 a = none → Unc G W a) (k : Ko w G W σ Q q) {v : V} {xss : List (List PyData)}
    (r : RepRs F' H0 H v (.nn xss)) (h : mkR b (.nn xss) s q) : Q v H := by
  obtain ⟨a, as, rfl, q2, q3, q4, nd, q5⟩ := r
  obtain ⟨na, nd'⟩ := List.nodup_cons.mp nd
  have pu : Paired (UnN G W H) as xss := Paired.mapP q5 fun b ds ⟨h1, h2, vs, h3, h4⟩ => ⟨hU b h1 h2, vs, h3, RepA.mono (fun a o _ q => hF a o q) _ _ h4⟩
  match b, h with
  | true, h =>
    obtain ⟨W2, e2, m2, f2, g2, u2⟩ := M.claimPs as xss s W m nd' pu
    have lo : (s.o ++ xss.map fun ds => some (Ob.lst (ds.map Vd.d))).length = s.o.length + xss.length := by rw [List.length_append, List.length_map]
    have rp : Paired (RepV W2 G.δ) (as.map V.ref) ((List.range xss.length).map fun i => .p (s.o.length + i)) := by
      have la := q5.length
      refine paired_of_get (by rw [List.length_map, List.length_map, List.length_range]; exact la) fun i x y hx hy => ?_
      obtain ⟨c, hc, rfl⟩ := map_get hx
      obtain ⟨j, hj, rfl⟩ := map_get hy
      have lj := (List.getElem?_eq_some_iff.mp hj).1
      rw [List.length_range] at lj
      rw [List.getElem?_range lj] at hj
      obtain rfl := Option.some.inj hj
      exact ⟨c, rfl, g2 i c hc⟩
    obtain ⟨e3, m3, r3⟩ := m2.claimP (o := .lst ((List.range xss.length).map fun i => .p (s.o.length + i))) (u2 a (hU a q2 q3) na) ⟨_, q4, rp⟩ (m2.noCode q4)
    have r3' : RepV (W2.own (s.o.length + xss.length) a) G.δ (.ref a) (.p (s.o.length + xss.length)) := by
      have := r3
      dsimp only at this
      rw [lo] at this
      exact this
    have m3' : M w G (W2.own (s.o.length + xss.length) a) { s with o := s.o ++ xss.map (fun ds => some (.lst (ds.map Vd.d))) ++ [some (.lst ((List.range xss.length).map fun i => .p (s.o.length + i)))] } σ H := by
      have := m3
      dsimp only at this
      rw [lo] at this
      exact this
    have e3' : Ext W2 (W2.own (s.o.length + xss.length) a) := by
      have := e3
      dsimp only at this
      rw [lo] at this
      exact this
    exact k _ _ _ _ _ (e2.trans e3') m3' r3' h
  | false, h =>
    obtain ⟨W2, e2, m2, f2, u2⟩ := M.claimFs as xss W m nd' pu
    obtain ⟨e3, m3⟩ := m2.claimF (u2 a (hU a q2 q3) na) q4
    exact k _ _ _ _ (.d (.list (xss.map PyData.list))) (e2.trans e3) m3 (show Rep _ _ _ from .lst upd_same (RepA.mono (fun a o _ q => e3.1 a o q) _ _ f2)) h
/-- a new list of new lists of new lists -/
def UnNN (G : Gm) (W : Wd) (H : Hp) (p : Addr × List Addr) (xss : List (List PyData)) : Prop := Unc G W p.1 ∧ H p.1 = some (.lst (p.2.map V.ref)) ∧ Paired (UnN G W H) p.2 xss
theorem unNN_ext {G : Gm} {W W' : Wd} {H : Hp} (hF : ∀ a o, W.F a = some o → W'.F a = some o) {p : Addr × List Addr} {xss : List (List PyData)} (h : UnNN G W H p xss) (u : ∀ q ∈ p.1 :: p.2, Unc G W q → Unc G W' q) : UnNN G W' H p xss := by
  obtain ⟨h1, h2, h3⟩ := h
  refine ⟨u _ List.mem_cons_self h1, h2, ?_⟩
  have u2 : ∀ q ∈ p.2, Unc G W q → Unc G W' q := fun q hq => u q (List.mem_cons_of_mem _ hq)
  generalize p.2 = as at h3 u2
  induction h3 with
  | nil => exact .nil
  | cons q _ ih => exact .cons ⟨u2 _ List.mem_cons_self q.1, q.2.choose, q.2.choose_spec.1, RepA.mono (fun a o _ q => hF a o q) _ _ q.2.choose_spec.2⟩ (ih fun q hq => u2 q (List.mem_cons_of_mem _ hq))
theorem M.claim3s {G : Gm} {σ : L2.St} {H : Hp} : ∀ (T : List (Addr × List Addr)) (xsss : List (List (List PyData))) (s : Sd) (W : Wd), M w G W s σ H → (flat2 T).Nodup → Paired (UnNN G W H) T xsss →
    ∃ W' o' I, Ext W W' ∧ M w G W' { s with o := o' } σ H ∧ s.o <+: o' ∧ Paired (Own2 o') I xsss ∧ Paired (fun (p : Addr × List Addr) (i : Nat × List Nat) => W'.α i.1 = some p.1) T I ∧ (flat2 I).Nodup ∧ (∀ i ∈ flat2 I, s.o.length ≤ i ∧ i < o'.length) ∧ ∀ p, Unc G W p → p ∉ flat2 T → Unc G W' p
  | [], _, s, W, m, _, h => by
    cases h
    exact ⟨W, s.o, [], Ext.refl W, m, List.prefix_refl _, .nil, .nil, List.nodup_nil, (fun i h => by cases h), fun p u _ => u⟩
  | (a, as) :: T, _, s, W, m, nd, h => by
    cases h with
    | @cons _ xss _ xsss h t =>
      have nd1 : ((a :: as) ++ flat2 T).Nodup := nd
      obtain ⟨nda, ndT, dis⟩ := List.nodup_append.mp nd1
      obtain ⟨na, ndas⟩ := List.nodup_cons.mp nda
      obtain ⟨u, hv, pu⟩ := h
      obtain ⟨W1, e1, m1, f1, g1, u1⟩ := M.claimPs as xss s W m ndas pu
      have la := pu.length
      have lo : (s.o ++ xss.map fun (ds : List PyData) => some (Ob.lst (ds.map Vd.d))).length = s.o.length + xss.length := by rw [List.length_append, List.length_map]
      have rp : Paired (RepV W1 G.δ) (as.map V.ref) (((List.range xss.length).map fun i => s.o.length + i).map Vd.p) := by
        refine paired_of_get (by rw [List.length_map, List.length_map, List.length_map, List.length_range]; exact la) fun i x y hx hy => ?_
        obtain ⟨c, hc, rfl⟩ := map_get hx
        obtain ⟨j0, hj0, rfl⟩ := map_get hy
        obtain ⟨j, hj, rfl⟩ := map_get hj0
        have lj := (List.getElem?_eq_some_iff.mp hj).1
        rw [List.length_range] at lj
        rw [List.getElem?_range lj] at hj
        obtain rfl := Option.some.inj hj
        exact ⟨c, rfl, g1 i c hc⟩
      obtain ⟨e2, m2, b, r1, r2⟩ := m1.claimP (o := .lst (((List.range xss.length).map fun i => s.o.length + i).map Vd.p)) (u1 a u na) ⟨_, hv, rp⟩ (m1.noCode hv)
      obtain rfl := V.ref.inj r1
      dsimp only at e2 m2 r2
      rw [lo] at e2 m2 r2
      have un : ∀ p, Unc G W p → p ∉ a :: as → Unc G (W1.own (s.o.length + xss.length) a) p := fun p up np => by
        rw [List.mem_cons, not_or] at np
        have up1 := u1 p up np.2
        refine up1.ext (W' := W1.own (s.o.length + xss.length) a) (G' := G) up1.1 rfl up1.2.2.1 rfl fun n z => ?_
        have z' : (if n = s.o.length + xss.length then some a else W1.α n) = some p := z
        by_cases c : n = s.o.length + xss.length
        · rw [if_pos c] at z'
          exact np.1 (Option.some.inj z').symm
        · rw [if_neg c] at z'
          exact up1.2.2.2.2 n z'
      have t' : Paired (UnNN G (W1.own (s.o.length + xss.length) a) H) T xsss := by
        have dis' : ∀ q ∈ flat2 T, q ∉ a :: as := fun q hq z => dis q z q hq rfl
        clear nd nd1 ndT
        revert dis'
        clear dis
        intro dis'
        induction t with
        | nil => exact .nil
        | @cons b ys bs yss hb tb ih =>
          refine .cons (unNN_ext (fun x o q => (e1.trans e2).1 x o q) hb fun q hq uq => un q uq (dis' q ?_)) (ih fun q hq => dis' q ?_)
          · show q ∈ (b.1 :: b.2) ++ flat2 bs
            exact List.mem_append_left _ hq
          · show q ∈ (b.1 :: b.2) ++ flat2 bs
            exact List.mem_append_right _ hq
      obtain ⟨W3, o3, I3, e3, m3, pre3, p3, q3, n3, l3, u3⟩ := M.claim3s T xsss _ _ m2 ndT t'
      dsimp only at pre3 l3
      have l1 : (s.o ++ xss.map (fun (ds : List PyData) => some (Ob.lst (ds.map Vd.d))) ++ [some (Ob.lst (((List.range xss.length).map fun i => s.o.length + i).map Vd.p))]).length = s.o.length + xss.length + 1 := by rw [List.length_append, lo]; rfl
      have lt3 := pre3.length_le
      have get3 : ∀ i v, (s.o ++ xss.map (fun (ds : List PyData) => some (Ob.lst (ds.map Vd.d))) ++ [some (Ob.lst (((List.range xss.length).map fun i => s.o.length + i).map Vd.p))])[i]? = some v → o3[i]? = some v := fun i v h => by
        obtain ⟨z, rfl⟩ := pre3
        rw [List.getElem?_append_left (List.getElem?_eq_some_iff.mp h).1]
        exact h
      refine ⟨W3, o3, (s.o.length + xss.length, (List.range xss.length).map fun i => s.o.length + i) :: I3, (e1.trans e2).trans e3, m3, ?_, .cons ⟨?_, ?_⟩ p3, .cons (e3.2.1 _ _ r2) q3, ?_, fun i hi => ?_, fun p up np => ?_⟩
      · refine List.IsPrefix.trans ?_ pre3
        rw [List.append_assoc]
        exact List.prefix_append _ _
      · exact get3 _ _ (by rw [List.getElem?_append_right (by rw [lo]; exact Nat.le_refl _), lo, Nat.sub_self]; rfl)
      · refine paired_of_get (by rw [List.length_map, List.length_range]) fun i x ds hx hy => ?_
        obtain ⟨j, hj, rfl⟩ := map_get hx
        have lj := (List.getElem?_eq_some_iff.mp hj).1
        rw [List.length_range] at lj
        rw [List.getElem?_range lj] at hj
        obtain rfl := Option.some.inj hj
        refine get3 _ _ ?_
        rw [List.getElem?_append_left (by rw [lo]; omega), List.getElem?_append_right (by omega), show s.o.length + i - s.o.length = i by omega, List.getElem?_map, hy]
        rfl
      · show (((s.o.length + xss.length) :: ((List.range xss.length).map fun i => s.o.length + i)) ++ flat2 I3).Nodup
        refine List.nodup_append.mpr ⟨List.nodup_cons.mpr ⟨fun z => ?_, List.pairwise_map.mpr (List.nodup_range.imp fun ne e => ne (by omega))⟩, n3, fun x hx y hy e => ?_⟩
        · obtain ⟨i, hi, e⟩ := List.mem_map.mp z
          have := List.mem_range.mp hi
          omega
        · have := (l3 y hy).1
          rw [l1] at this
          rcases List.mem_cons.mp hx with h | h
          · omega
          · obtain ⟨i, hi, e2⟩ := List.mem_map.mp h
            have := List.mem_range.mp hi
            omega
      · have hi : i ∈ ((s.o.length + xss.length) :: ((List.range xss.length).map fun i => s.o.length + i)) ++ flat2 I3 := hi
        rcases List.mem_append.mp hi with h | h
        · rcases List.mem_cons.mp h with h | h
          · omega
          · obtain ⟨j, hj, e2⟩ := List.mem_map.mp h
            have := List.mem_range.mp hj
            omega
        · have := l3 i h
          rw [l1] at this
          omega
      · have np : p ∉ (a :: as) ++ flat2 T := np
        rw [List.mem_append, not_or] at np
        exact u3 p (un p up np.1) np.2
theorem M.claim3f {G : Gm} {σ : L2.St} {H : Hp} {s : Sd} : ∀ (T : List (Addr × List Addr)) (xsss : List (List (List PyData))) (W : Wd), M w G W s σ H → (flat2 T).Nodup → Paired (UnNN G W H) T xsss →
    ∃ W', Ext W W' ∧ M w G W' s σ H ∧ RepA W'.F (T.map fun p => V.ref p.1) (xsss.map fun xss => .list (xss.map PyData.list)) ∧ ∀ p, Unc G W p → p ∉ flat2 T → Unc G W' p
  | [], _, W, m, _, h => by
    cases h
    exact ⟨W, Ext.refl W, m, .nil, fun p u _ => u⟩
  | (a, as) :: T, _, W, m, nd, h => by
    cases h with
    | @cons _ xss _ xsss h t =>
      have nd1 : ((a :: as) ++ flat2 T).Nodup := nd
      obtain ⟨nda, ndT, dis⟩ := List.nodup_append.mp nd1
      obtain ⟨na, ndas⟩ := List.nodup_cons.mp nda
      obtain ⟨u, hv, pu⟩ := h
      obtain ⟨W1, e1, m1, f1, u1⟩ := M.claimFs as xss W m ndas pu
      obtain ⟨e2, m2⟩ := m1.claimF (u1 a u na) hv
      have un : ∀ p, Unc G W p → p ∉ a :: as → Unc G (W1.frz a (.lst (as.map V.ref))) p := fun p up np => by
        rw [List.mem_cons, not_or] at np
        have up1 := u1 p up np.2
        exact up1.ext (W' := W1.frz a (.lst (as.map V.ref))) (G' := G) ((upd_ne np.1).trans up1.1) rfl up1.2.2.1 rfl up1.2.2.2.2
      have t' : Paired (UnNN G (W1.frz a (.lst (as.map V.ref))) H) T xsss := by
        have dis' : ∀ q ∈ flat2 T, q ∉ a :: as := fun q hq z => dis q z q hq rfl
        clear nd nd1 ndT
        revert dis'
        clear dis
        intro dis'
        induction t with
        | nil => exact .nil
        | @cons b ys bs yss hb tb ih =>
          refine .cons (unNN_ext (fun x o q => (e1.trans e2).1 x o q) hb fun q hq uq => un q uq (dis' q ?_)) (ih fun q hq => dis' q ?_)
          · show q ∈ (b.1 :: b.2) ++ flat2 bs
            exact List.mem_append_left _ hq
          · show q ∈ (b.1 :: b.2) ++ flat2 bs
            exact List.mem_append_right _ hq
      obtain ⟨W3, e3, m3, f3, u3⟩ := M.claim3f T xsss _ m2 ndT t'
      refine ⟨W3, (e1.trans e2).trans e3, m3, .cons (.lst (e3.1 _ _ upd_same) (RepA.mono (fun a o _ q => (e2.trans e3).1 a o q) _ _ f1)) f3, fun p up np => ?_⟩
      have np : p ∉ (a :: as) ++ flat2 T := np
      rw [List.mem_append, not_or] at np
      exact u3 p (un p up np.1) np.2
theorem M.claimN3 {G : Gm} {W : Wd} {s : Sd} {σ : L2.St} {H H0 F' : Hp} {Q : VK} {q : Vd → Sd → Prop} (b : Bool) (m : M w G W s σ H) (hF : ∀ a o, F' a = some o → W.F a = some o) (hU : ∀ a, F' a = none → H0 a = none → Unc G W a) (k : Ko w G W σ Q q) {v : V} {xsss : List (List (List PyData))}
    (r : RepRs F' H0 H v (.n3 xsss)) (h : mkR b (.n3 xsss) s q) : Q v H := by
  obtain ⟨a, T, rfl, q2, q3, q4, nd, q5⟩ := r
  obtain ⟨na, nd'⟩ := List.nodup_cons.mp nd
  have pu : Paired (UnNN G W H) T xsss := Paired.mapP q5 fun p xss ⟨h1, h2, h3, h4⟩ => ⟨hU p.1 h1 h2, h3, Paired.mapP h4 fun b ds ⟨h1, h2, vs, h3, h4⟩ => ⟨hU b h1 h2, vs, h3, RepA.mono (fun a o _ q => hF a o q) _ _ h4⟩⟩
  match b, h with
  | true, h =>
    obtain ⟨W2, o2, I, e2, m2, pre, p2, al, n2, l2, u2⟩ := M.claim3s T xsss s W m nd' pu
    have rp : Paired (RepV W2 G.δ) (T.map fun p => V.ref p.1) (I.map fun p => Vd.p p.1) := by
      clear nd q4 q5 pu p2 n2 l2 u2 na nd'
      induction al with
      | nil => exact .nil
      | cons h _ ih => exact .cons ⟨_, rfl, h⟩ ih
    obtain ⟨e3, m3, r3⟩ := m2.claimP (o := .lst (I.map fun p => .p p.1)) (u2 a (hU a q2 q3) na) ⟨_, q4, rp⟩ (m2.noCode q4)
    dsimp only at e3 m3 r3
    refine k _ _ _ _ _ (e2.trans e3) m3 r3 (h _ o2.length I (pre.trans (List.prefix_append _ _)) ⟨?_, ?_, List.nodup_cons.mpr ⟨fun z => Nat.lt_irrefl _ (l2 _ z).2, n2⟩, fun i hi => ?_⟩)
    · rw [List.getElem?_append_right (Nat.le_refl _), Nat.sub_self]
      rfl
    · have up : ∀ i v, o2[i]? = some v → (o2 ++ [some (Ob.lst (I.map fun p => Vd.p p.1))])[i]? = some v := fun i v h => by
        rw [List.getElem?_append_left (List.getElem?_eq_some_iff.mp h).1]
        exact h
      exact Paired.mapP p2 fun p xss ⟨h1, h2⟩ => ⟨up _ _ h1, Paired.mapP h2 fun i ds h => up _ _ h⟩
    · rcases List.mem_cons.mp hi with h | h
      · rw [h]
        exact pre.length_le
      · exact (l2 i h).1
  | false, h =>
    obtain ⟨W2, e2, m2, f2, u2⟩ := M.claim3f T xsss W m nd' pu
    obtain ⟨e3, m3⟩ := m2.claimF (u2 a (hU a q2 q3) na) q4
    exact k _ _ _ _ (.d (.list (xsss.map fun (xss : List (List PyData)) => .list (xss.map PyData.list)))) (e2.trans e3) m3 (show Rep _ _ _ from .lst upd_same (RepA.mono (fun a o _ q => e3.1 a o q) _ _ f2)) h
theorem call_end {G : Gm} {W : Wd} {s : Sd} {σ : L2.St} {H : Hp} {Q : VK} {q : Vd → Sd → Prop} (b : Bool) (m : M w G W s σ H) (k : Ko w G W σ Q q) : After w.T G.δ (cutF W) H Q (fun r dr' => mkR b r { s with d := dr' } q) := ⟨⟨m.tx.tb, fun a ts z => m.tx.fn a ts (cutF_some z).2⟩, fun F' H' v x dr' h1 h2 h3 h4 h5 r ty h => by
  obtain ⟨W', e, m', hF, hU⟩ := call_post m h1 h2 h3 h4 h5 ty
  match x, r, h with
  | .d x, r, h => exact k W' _ H' v (.d x) e m' (Rep.mono (fun a o _ q => hF a o q) x v r) h
  | .dc kvs, ⟨a, ks, q1, q2, q3⟩, h => exact k W' _ H' v (.dc kvs) e m' ⟨a, ks, q1, hF _ _ q2, q3.mono fun a o _ q => hF a o q⟩ h
  | .nl ds, ⟨a, vs, q1, q2, q3, q4, q5⟩, h =>
    subst q1
    exact m'.mkV b (hU a q2 q3) q4 (of_repA (RepA.mono (fun a o _ q => hF a o q) _ _ q5)) (k.up e) (mkL_V h)
  | .nn xss, r, h => exact M.claimNN b m' hF hU (k.up e) r h
  | .n3 xsss, r, h => exact M.claimN3 b m' hF hU (k.up e) r h⟩
theorem ab_call (m : Bool) {sp : Spd} {t : TA} {u : TAd} (h : AbA w t u) : AbE w (tCall (liftSp w.T sp) [] E0 t) (uCall m sp id u) := fun G W s σ H Q q M0 k hu =>
  h G W s σ H _ _ M0 (fun W1 s1 H1 vs xs e1 m1 r1 ⟨hn, h1⟩ => by
    obtain ⟨p1, p2, p3⟩ := call_pre m1 r1 hn
    rw [List.append_nil]
    exact ⟨G.δ, cutF W1, xs, s1.d, _, p1, p2, p3, h1, call_end m m1 (k.up e1)⟩) hu
/-- by keywords: g sets values by names in the order of the parameters -/
theorem ab_callK (m : Bool) {sp : Spd} {g : List V → List V} {gd : List Vd → List Vd} {gV : List V → List V → List V} {tk : TA} {u : TAd} (hg : ∀ zs, gV [] zs = g zs) (hr : ∀ (R : V → Vd → Prop) vs xs, Paired R vs xs → Paired R (g vs) (gd xs)) (h : AbA w tk u) : AbE w (tCallK (liftSp w.T sp) gV E0 tNil tk) (uCall m sp gd u) := fun G W s σ H Q q M0 k hu =>
  h G W s σ H _ _ M0 (fun W1 s1 H1 vs xs e1 m1 r1 ⟨hn, h1⟩ => by
    obtain ⟨p1, p2, p3⟩ := call_pre m1 (hr _ _ _ r1) hn
    rw [hg]
    exact ⟨G.δ, cutF W1, gd xs, s1.d, _, p1, p2, p3, h1, call_end m m1 (k.up e1)⟩) hu
/-! ### a body -/
def retD (q : Rs → Drw → Prop) : Vd → Sd → Prop := fun x s => match x with
  | .d d => q (.d d) s.d
  | .dc kvs => q (.dc kvs) s.d
  | .p n => (∃ xs ds, s.o[n]? = some (some (.lst xs)) ∧ xs = ds.map Vd.d ∧ q (.nl ds) s.d) ∨ ((∃ kvs, s.o[n]? = some (some (.dk kvs)) ∧ q (.dc kvs) s.d) ∨ ∃ I xsss, Own3 0 s.o n I xsss ∧ q (.n3 xsss) s.d) ∨ ∃ is xss, s.o[n]? = some (some (.lst (is.map Vd.p))) ∧ is.Nodup ∧ Paired (fun i ds => s.o[i]? = some (some (.lst (ds.map Vd.d)))) is xss ∧ q (.nn xss) s.d
  | .dr => False
def endD (q : Rs → Drw → Prop) : Ed := ⟨fun s => q (.d .none) s.d, retD q, fun _ => False, fun _ => False⟩
def startD (N : List Str) (xs : List Vd) (dr : Drw) : Sd := ⟨xs.map some ++ List.replicate (N.length - xs.length) none, [], dr⟩
theorem start_m {δ : Option Addr} {F H : Hp} {N : List Str} {vs : List V} {xs : List Vd} {dr : Drw} (h1 : ∀ a o, F a = some o → H a = some o) (h2 : DrH δ F H dr) (r : Paired (RepV ⟨F, fun _ => none, []⟩ δ) vs xs) (k0 : LamX.Tabs w.T H ∧ ∀ a ts, F a ≠ some (HO.tbl ts)) : M w ⟨strip H, F, δ, fun _ => none, NoCode w.T H⟩ ⟨F, fun _ => none, []⟩ (startD N xs dr) (L2.start N vs) H where
  fz := fun a o q _ => h1 a o q
  lk := fun a l => by cases l
  fr := fun b o q _ _ => (strip_some q).1
  len := by
    show (xs.map some ++ List.replicate (N.length - xs.length) none).length = _
    unfold L2.start
    rw [List.length_append, List.length_append, List.length_map, List.length_map, List.length_replicate, List.length_replicate, r.length]
  sl := fun i x q => by
    have q' : (xs.map some ++ List.replicate (N.length - xs.length) none)[i]? = some (some x) := q
    unfold L2.start
    by_cases l : i < xs.length
    · rw [List.getElem?_append_left (by rw [List.length_map]; exact l)] at q'
      obtain ⟨y, hy, hyx⟩ := map_get q'
      obtain rfl := Option.some.inj hyx
      have lv : i < vs.length := by rw [r.length]; exact l
      refine ⟨vs[i], ?_, paired_get' r (List.getElem?_eq_getElem lv) hy⟩
      rw [List.getElem?_append_left (by rw [List.length_map]; exact lv), List.getElem?_map, List.getElem?_eq_getElem lv]
      rfl
    · rw [List.getElem?_append_right (by rw [List.length_map]; omega)] at q'
      obtain ⟨h, e⟩ := List.getElem?_eq_some_iff.mp q'
      rw [List.getElem_replicate] at e
      cases e
  ob := fun n o q => by cases (show (([] : List (Option Ob))[n]? = some (some o)) from q)
  al := fun n a q => by cases q
  inj := fun m n a q => by cases q
  dw := fun a q => h2.1 a q
  dn := h2.2
  nf := fun a o q => .inl q
  gf := fun a o q => ⟨o, strip_of (h1 a o q) fun ts z => k0.2 a ts (z ▸ q)⟩
  lz := fun b od u q => by cases q
  tx := ⟨k0.1, k0.2, fun a ts z => (strip_some z).2 ts rfl, (fun n a q => by cases q), fun b u _ z => z⟩
theorem paired_apps {α β : Type} {R : α → β → Prop} : ∀ {l : List α} {m : List β} {l' : List α} {m' : List β}, Paired R l m → Paired R l' m' → Paired R (l ++ l') (m ++ m')
  | _, _, _, _, .nil, h => h
  | _, _, _, _, .cons a b, h => .cons a (paired_apps b h)
theorem paired_mem {α β : Type} {R : α → β → Prop} {l : List α} {m : List β} (p : Paired R l m) {x : α} (h : x ∈ l) : ∃ y ∈ m, R x y := by
  induction p with
  | nil => cases h
  | cons a b ih =>
    rcases List.mem_cons.mp h with e | h
    · exact ⟨_, List.mem_cons_self, e ▸ a⟩
    · obtain ⟨y, hy, r⟩ := ih h
      exact ⟨y, List.mem_cons_of_mem _ hy, r⟩
theorem nodup_along {α β : Type} {R : α → β → Prop} {l : List α} {m : List β} (p : Paired R l m) (nd : m.Nodup) (inj : ∀ x i j, R x i → R x j → i = j) : l.Nodup := by
  induction p with
  | nil => exact .nil
  | @cons x y l m a b ih =>
    obtain ⟨n1, n2⟩ := List.nodup_cons.mp nd
    refine List.nodup_cons.mpr ⟨fun z => ?_, ih n2⟩
    obtain ⟨j, hj, r⟩ := paired_mem b z
    exact n1 (inj x y j a r ▸ hj)
theorem end_le {δ : Option Addr} {F H : Hp} {Q : VK} {q : Rs → Drw → Prop} (k : After w.T δ F H Q q) : Le w ⟨strip H, F, δ, fun _ => none, NoCode w.T H⟩ ⟨F, fun _ => none, []⟩ { nx := fun _ H' => Q .non H', rt := Q } (endD q) := by
  have base : ∀ {W' : Wd} {s' : Sd} {σ' : L2.St} {H' : Hp}, ExtF ⟨F, fun _ => none, []⟩ W' → M w ⟨strip H, F, δ, fun _ => none, NoCode w.T H⟩ W' s' σ' H' → ∀ (v : V) (x : Rs), RepRs W'.F (strip H) H' v x → q x s'.d → Q v H' := fun {W' s' σ' H'} e m v x r h => by
    have l : ∀ a, a ∉ W'.lk := fun a z => by rw [e.2] at z; cases z
    exact k.2 W'.F H' v x s'.d e.1 (fun a o q => m.fz a o q (l a)) m.nf (fun b o q h => m.fr b o q h (l b)) ⟨m.dw, m.dn⟩ r ⟨m.tx.tb, m.tx.fn, fun b u q z => m.tx.gc b u q z⟩ h
  refine ⟨fun W' s' σ' H' e m h => base e m _ (.d .none) Rep.non h, fun W' s' σ' H' v x e m r h => ?_, fun W' s' σ' H' e m h => h.elim, fun W' s' σ' H' e m h => h.elim⟩
  match x, r, h with
  | .d d, r, h => exact base e m v (.d d) r h
  | .dc kvs, r, h => exact base e m v (.dc kvs) r h
  | .p n, ⟨a, hv, ha⟩, .inl ⟨xs, ds, ho, hd, h⟩ =>
    obtain ⟨a', f1, f2, vs, f3, f4⟩ := m.ob n _ ho
    obtain rfl := Option.some.inj (ha.symm.trans f1)
    subst hd
    exact base e m v (.nl ds) ⟨a, vs, hv, f2, (m.al n a ha).2.1, f3, repA_of f4⟩ h
  | .p n, ⟨a, hv, ha⟩, .inr (.inr ⟨is, xss, ho, nd, hp, h⟩) =>
    obtain ⟨a', f1, f2, vs, f3, f4⟩ := m.ob n _ ho
    obtain rfl := Option.some.inj (ha.symm.trans f1)
    have key : ∀ (is : List Nat) (xss : List (List PyData)) (vs : List V), is.Nodup → Paired (fun i ds => s'.o[i]? = some (some (.lst (ds.map Vd.d)))) is xss → Paired (RepV W' δ) vs (is.map Vd.p) →
        ∃ as, vs = as.map V.ref ∧ as.Nodup ∧ Paired (RepN W'.F (strip H) H') as xss ∧ ∀ b ∈ as, ∃ i ∈ is, W'.α i = some b := by
      intro is
      induction is with
      | nil => intro xss vs _ hp f; cases hp; cases f; exact ⟨[], rfl, List.nodup_nil, .nil, fun b hb => by cases hb⟩
      | cons i is ih =>
        intro xss vs nd hp f
        cases hp with
        | cons hi ht =>
          cases f with
          | @cons v _ vs _ g gt =>
            obtain ⟨ni, nd'⟩ := List.nodup_cons.mp nd
            obtain ⟨as, rfl, na, pa, back⟩ := ih _ _ nd' ht gt
            obtain ⟨b, rfl, hb⟩ := g
            obtain ⟨b', g1, g2, us, g3, g4⟩ := m.ob i _ hi
            obtain rfl := Option.some.inj (hb.symm.trans g1)
            refine ⟨b :: as, rfl, List.nodup_cons.mpr ⟨fun z => ?_, na⟩, .cons ⟨g2, (m.al i b hb).2.1, us, g3, repA_of g4⟩ pa, fun c hc => ?_⟩
            · obtain ⟨j, hj, ej⟩ := back b z
              exact ni (m.inj i j b hb ej ▸ hj)
            · rcases List.mem_cons.mp hc with rfl | hc
              · exact ⟨i, List.mem_cons_self, hb⟩
              · obtain ⟨j, hj, ej⟩ := back c hc
                exact ⟨j, List.mem_cons_of_mem _ hj, ej⟩
    obtain ⟨as, rfl, na, pa, back⟩ := key is xss vs nd hp f4
    refine base e m v (.nn xss) ⟨a, as, hv, f2, (m.al n a ha).2.1, f3, List.nodup_cons.mpr ⟨fun z => ?_, na⟩, pa⟩ h
    obtain ⟨j, hj, ej⟩ := back a z
    obtain rfl := m.inj n j a ha ej
    obtain ⟨i, hi⟩ := List.getElem?_of_mem hj
    obtain ⟨ds, hds, e2⟩ := pget hp hi
    rw [ho] at e2
    have e3 := Ob.lst.inj (Option.some.inj (Option.some.inj e2))
    have e4 := get_map (g := Vd.p) hi
    rw [e3] at e4
    obtain ⟨_, _, e5⟩ := map_get e4
    cases e5
  | .p n, ⟨a, hv, ha⟩, .inr (.inl (.inr ⟨I, xsss, ⟨ho, hp, nd, _⟩, h⟩)) =>
    obtain ⟨a', f1, f2, vs, f3, f4⟩ := m.ob n _ ho
    obtain rfl := Option.some.inj (ha.symm.trans f1)
    have one : ∀ (is : List Nat) (xss : List (List PyData)) (vs : List V), Paired (fun i ds => s'.o[i]? = some (some (.lst (ds.map Vd.d)))) is xss → Paired (RepV W' δ) vs (is.map Vd.p) →
        ∃ as, vs = as.map V.ref ∧ Paired (RepN W'.F (strip H) H') as xss ∧ Paired (fun b i => W'.α i = some b) as is := by
      intro is
      induction is with
      | nil => intro xss vs hp f; cases hp; cases f; exact ⟨[], rfl, .nil, .nil⟩
      | cons i is ih =>
        intro xss vs hp f
        cases hp with
        | cons hi ht =>
          cases f with
          | @cons v _ vs _ g gt =>
            obtain ⟨as, rfl, pa, pi⟩ := ih _ _ ht gt
            obtain ⟨b, rfl, hb⟩ := g
            obtain ⟨b', g1, g2, us, g3, g4⟩ := m.ob i _ hi
            obtain rfl := Option.some.inj (hb.symm.trans g1)
            exact ⟨b :: as, rfl, .cons ⟨g2, (m.al i b hb).2.1, us, g3, repA_of g4⟩ pa, .cons hb pi⟩
    have key : ∀ (I : List (Nat × List Nat)) (xsss : List (List (List PyData))) (vs : List V), Paired (Own2 s'.o) I xsss → Paired (RepV W' δ) vs (I.map fun p => Vd.p p.1) →
        ∃ T : List (Addr × List Addr), vs = T.map (fun p => V.ref p.1) ∧ Paired (RepNN W'.F (strip H) H') T xsss ∧ Paired (fun b i => W'.α i = some b) (flat2 T) (flat2 I) := by
      intro I
      induction I with
      | nil => intro xsss vs hp f; cases hp; cases f; exact ⟨[], rfl, .nil, .nil⟩
      | cons i I ih =>
        intro xsss vs hp f
        cases hp with
        | cons hi ht =>
          cases f with
          | @cons v _ vs _ g gt =>
            obtain ⟨T, rfl, pT, pi⟩ := ih _ _ ht gt
            obtain ⟨b, rfl, hb⟩ := g
            obtain ⟨hi1, hi2⟩ := hi
            obtain ⟨b', g1, g2, us, g3, g4⟩ := m.ob i.1 _ hi1
            obtain rfl := Option.some.inj (hb.symm.trans g1)
            obtain ⟨as, rfl, pa, pq⟩ := one _ _ _ hi2 g4
            exact ⟨(b, as) :: T, rfl, .cons ⟨g2, (m.al i.1 b hb).2.1, g3, pa⟩ pT, .cons hb (paired_apps pq pi)⟩
    obtain ⟨T, rfl, pT, pi⟩ := key I xsss vs hp f4
    refine base e m v (.n3 xsss) ⟨a, T, hv, f2, (m.al n a ha).2.1, f3, ?_, pT⟩ h
    exact nodup_along (R := fun b i => W'.α i = some b) (.cons ha pi) nd fun b i j h1 h2 => m.inj i j b h1 h2
  | .p n, ⟨a, hv, ha⟩, .inr (.inl (.inl ⟨kvs, ho, h⟩)) =>
    obtain ⟨a', f1, f2, ks, f3, f4⟩ := m.ob n _ ho
    obtain rfl := Option.some.inj (ha.symm.trans f1)
    obtain ⟨e', m'⟩ := m.ice ho ha f3
    exact base (e.trans e'.f) m' v (.dc kvs) ⟨a, ks, hv, upd_same, f4.mono fun a o _ q => e'.1 a o q⟩ h
theorem fnD_of {P : Program} {K : PySem.W.Frag} {mg : Str → Option Value} {base : Heap} {x qual : Str} {st : Stmt} {f : Addr} {fd : FuncData} {N ps : List Str} {k : Nat} {sp : Spd} (F : Fun K x qual st f fd) (S : FnScope N ps (defScope st))
    (ar : ∀ xs dr q, sp xs dr q → xs.length = ps.length)
    (body : ∀ (cdv : Value) (A : Around) (below : List Env) (s : Shared) (H : Hp), Room k (A.deeper (PyProof.Rows.envOfC qual (defScope st) s.heap.objs.size f cdv)) → A.guards = some [] →
      ∃ t u, PSs (cxOf CX0 P w.w K mg base N qual (defScope st) f cdv A below s H E0).nox (defBody st) t ∧ AbS w t u ∧ ∀ xs dr q, sp xs dr q → u (endD q) (startD N xs dr)) : FnD P w K mg base (k + 1) f fd ps sp := by
  refine fnG_of F S (fun vs H Q h => ?_) (fun cdv A below s H vs Q hr hg h => ?_)
  · obtain ⟨δ, F, xs, dr, q, _, _, r, h, _⟩ := h
    rw [r.length]
    exact ar xs dr q h
  · obtain ⟨δ, F, xs, dr, q, h1, h2, r, h, k⟩ := h
    obtain ⟨t, u, ht, hu, hb⟩ := body cdv A below s H hr hg
    exact ⟨t, ht, hu _ _ _ _ _ _ _ (start_m h1 h2 r k.1) (end_le k) (hb xs dr q h)⟩
end
end Dt


set_option autoImplicit false
set_option Elab.async false
set_option autoImplicit false
set_option linter.all false
set_option maxRecDepth 100000
set_option maxHeartbeats 4000000
/-! The data layer: defs by their names; a few more rules. -/
namespace Dt
open PySem PySem.Spec L2 Kt
/-- the def of that name keeps its promise -/
structure Has (P : Program) (w : Ww) (K : PySem.W.Frag) (mg : Str → Option Value) (base : Heap) (x : Str) (k : Nat) (ps : List Str) (sp : Spd) : Prop where
  ex : ∃ f fd, FnD P w K mg base k f fd ps sp ∧ Binds K fd ps [] ∧ mg x = some (.ref f) ∧ PySem.W.keepIn K (.ref f) = true
/-- called by keywords -/
structure HasK (P : Program) (w : Ww) (K : PySem.W.Frag) (mg : Str → Option Value) (base : Heap) (x : Str) (k : Nat) (ps ks : List Str) (g : List Value → List Value → List Value) (gV : List V → List V → List V) (sp : Spd) : Prop where
  ex : ∃ f fd, FnD P w K mg base k f fd ps sp ∧ KBinds K fd ps ks g gV ∧ mg x = some (.ref f) ∧ PySem.W.keepIn K (.ref f) = true
section
variable {X : Cx} {k : Nat} {ps ks : List Str} {sp : Spd} {x : Str} {p pos : Pos} {e : Expr} {es : List Expr} {kws : List Keyword} {t tk : TA} {g : List Value → List Value → List Value} {gV : List V → List V → List V}
theorem pe_callH {w : Ww} (h : Has X.prog w X.K X.mg X.base x k ps sp) (hr : Room k X.A) (gu : X.A.guards = some []) (gl : Gl X x) (ha : PA X (e :: es) t)
    (hdb : (x == ("__debug__" : Str)) = false := by decide) (he : starEach (e :: es) X.env = (false, eval e X.env) :: starEach es X.env := by rfl) (hpl : (backTo pos (starEach es X.env)).any (·.1) = false := by rfl) (hw : X.w = w.w := by rfl) :
    PE X (.Call (.Name x p) (e :: es) [] pos) (tCall (liftSp w.T sp) [] E0 t) := by
  obtain ⟨f, fd, F, b, m, kp⟩ := h.ex
  unfold FnD at F
  rw [← hw] at F
  exact pe_callG F hr gu gl m kp b ha hdb he hpl
/-- the callee runs, bound by keywords -/
theorem run_fnkG {f : Addr} {fd : FuncData} {sp : Sp} {pins : List (Addr × Obj)} {σ : L2.St} {H : Hp} {s : Shared} {Q : VK} {ws : List Value} {zs : List V} (F : FnG X.prog X.w X.K X.mg X.base k f fd ps sp) (hr : Room k X.A) (gu : X.A.guards = some []) (hb : KBinds X.K fd ps ks g gV)
    (I : Inv X pins σ H s) (rz : Vals zs ws) (h : sp (gV [] zs) H Q E0) : wpAny (model X.prog X.w) X.A (call (.ref f) [] (ks.zip ws)) (EP X pins σ Q) X.xe s := by
  have r2 := hb.rel (us := []) .nil rz
  have hl : (g [] ws).length = ps.length := r2.length.symm.trans (F.arity _ _ _ h)
  refine wpAny_call (codeAny_mono (F.go X.A X.stack s H ⟨[], ks.zip ws⟩ (g [] ws) (gV [] zs) Q hr gu I.env0 (hb.to s [] ws I.kIn hl) r2 h) fun r s' hq => ?_)
  match r, hq with
  | .ok (.ret u), hq => exact I.after hq
  | .ok .next, hq => exact False.elim hq
  | .ok .brk, hq => exact False.elim hq
  | .ok .cont, hq => exact False.elim hq
  | .error _, hq => exact False.elim hq
/-- values by names into the order of the parameters -/
def kwp {α : Type} (n : Nat) (is : List Nat) : List α → List α → List α
  | [], ws => if ws.length = n then is.filterMap (ws[·]?) else []
  | _ :: _, _ => []
def prm {α : Type} (is : List Nat) (xs : List α) : List α := is.filterMap (xs[·]?)
theorem prm_rel {α β : Type} {R : α → β → Prop} {vs : List α} {xs : List β} (r : Paired R vs xs) : ∀ is : List Nat, Paired R (prm is vs) (prm is xs)
  | [] => .nil
  | i :: is => by
    unfold prm
    rw [List.filterMap_cons, List.filterMap_cons]
    cases e : vs[i]? with
    | none =>
      have : xs[i]? = none := List.getElem?_eq_none_iff.mpr (by rw [← r.length]; exact List.getElem?_eq_none_iff.mp e)
      rw [this]
      exact prm_rel r is
    | some v =>
      obtain ⟨x, hx, rx⟩ := pget r e
      rw [hx]
      exact .cons rx (prm_rel r is)
theorem kwp_rel {n : Nat} {is : List Nat} {vs : List V} {us : List Value} {zs : List V} {ws : List Value} (r : Vals vs us) (q : Vals zs ws) : Vals (kwp n is vs zs) (kwp n is us ws) := by
  cases r with
  | nil =>
    show Vals (if zs.length = n then prm is zs else []) (if ws.length = n then prm is ws else [])
    rw [q.length]
    split
    · exact prm_rel q is
    · exact .nil
  | cons _ _ => exact .nil
theorem kb_prm {K : PySem.W.Frag} {x qual : Str} {st : Stmt} {f : Addr} {fd : FuncData} {ps ks : List Str} {n : Nat} {is : List Nat} (F : Fun K x qual st f fd) (hps : 0 < ps.length)
    (h : ∀ (kV doc pm : Value) (an : Option Addr) (cdv ct : Value) (ws : List Value), ws.length = n → bindArgs (PySem.W.fnOf x qual (defArgs st) (defBody st) (defScope st) .none kV doc pm an cdv ct) ⟨[], ks.zip ws⟩ = pure (ps.zip (is.filterMap (ws[·]?)))) :
    KBinds K fd ps ks (kwp n is) (kwp n is) := by
  obtain ⟨oc, od, kV, doc, pm, an, cdv, ct, osl, rfl, lk, hcd⟩ := F.ex
  refine ⟨fun s us ws hK hl => ?_, fun r q => kwp_rel r q⟩
  cases us with
  | nil =>
    have hl : (if ws.length = n then is.filterMap (ws[·]?) else ([] : List Value)).length = ps.length := hl
    show BindsTo s _ ⟨[], ks.zip ws⟩ (ps.zip (if ws.length = n then is.filterMap (ws[·]?) else []))
    by_cases e : ws.length = n
    · rw [if_pos e]
      exact .of_eq (h kV doc pm an cdv ct ws e)
    · rw [if_neg e] at hl
      simp at hl
      omega
  | cons u us =>
    have hl : ([] : List Value).length = ps.length := hl
    simp at hl
    omega
theorem pe_callHK {w : Ww} {n : Nat} {is : List Nat} (h : HasK X.prog w X.K X.mg X.base x k ps ks (kwp n is) (kwp n is) sp) (hr : Room k X.A) (gu : X.A.guards = some []) (gl : Gl X x)
    (hkw : PK X kws tk) (hall : (backToKw pos (keywordEach kws X.env)).all (·.1.isSome) = true := by rfl) (hks : (backToKw pos (keywordEach kws X.env)).filterMap (·.1) = ks := by rfl) (hdb : (x == ("__debug__" : Str)) = false := by decide)
    (hpl : ((backTo pos (starEach [] X.env)).any (·.1) || (backToKw pos (keywordEach kws X.env)).any (·.1.isNone)) = false := by rfl) (hw : X.w = w.w := by rfl) :
    PE X (.Call (.Name x p) [] kws pos) (tCallK (liftSp w.T sp) (kwp n is) E0 tNil tk) := by
  obtain ⟨f, fd, F, b, m, kp⟩ := h.ex
  unfold FnD at F
  rw [← hw] at F
  refine ⟨fun pins s σ H Q I h => wpAny_Call_Name_kw (ld_glob I gl m ?_ hdb)⟩
  refine PySem.W.callWith_KW0 (h₀ := X.base) I.ok.mod.kin kp hall (thn (hkw.run pos pins s σ H _ I h) fun ws s2 ⟨zs, H2, I2, rz, q2⟩ => ⟨I2.kIn, ?_⟩) hpl
  rw [hks]
  exact run_fnkG F hr gu b I2 rz q2
end
section
variable {w : Ww}
/-- data by keywords -/
def uCallK (m : Bool) (sp : Spd) (n : Nat) (is : List Nat) (ua : TAd) : TEd := fun s q => ua s fun xs s1 => xs.length = n ∧ xs.all noP = true ∧ sp (prm is xs) s1.d fun r dr' => mkR m r { s1 with d := dr' } q
theorem prm_noP {xs : List Vd} (h : xs.all noP = true) : ∀ is : List Nat, (prm is xs).all noP = true
  | [] => rfl
  | i :: is => by
    unfold prm
    rw [List.filterMap_cons]
    cases e : xs[i]? with
    | none => exact prm_noP h is
    | some x =>
      show (x :: prm is xs).all noP = true
      rw [List.all_cons, prm_noP h is, List.all_eq_true.mp h x (List.mem_of_getElem? e)]
      rfl
theorem ab_callHK (m : Bool) {sp : Spd} {n : Nat} {is : List Nat} {tk : TA} {u : TAd} (h : AbA w tk u) : AbE w (tCallK (liftSp w.T sp) (kwp n is) E0 tNil tk) (uCallK m sp n is u) := fun G W s σ H Q q M0 k hu =>
  h G W s σ H _ _ M0 (fun W1 s1 H1 vs xs e1 m1 r1 ⟨hl, hn, h1⟩ => by
    obtain ⟨p1, p2, p3⟩ := call_pre m1 (prm_rel r1 is) (prm_noP hn is)
    have e : kwp n is [] vs = prm is vs := if_pos (by rw [r1.length]; exact hl)
    rw [e]
    exact ⟨G.δ, cutF W1, prm is xs, s1.d, _, p1, p2, p3, h1, call_end m m1 (k.up e1)⟩) hu
/-! ### more rules -/
theorem abr_mul (m : Bool) : AbR w rMulU (dMul m) := fun G W s σ H v1 v2 x y Q q M1 r1 r2 k h => by
  have rep : ∀ {h' : dList x s fun ds => dInt y fun k => 0 ≤ k ∧ k ≤ 1000 ∧ ds.length ≤ 1000 ∧ mkL m (List.replicate k.toNat ds).flatten s q}, rRep v1 v2 H Q := fun {h'} => by
    obtain ⟨a, vs, ds, rfl, e1, t1, h'⟩ := dList_of M1 r1 h'
    obtain ⟨i, rfl, rfl, h0, h1, h2, h'⟩ := dInt_of r2 h'
    refine ⟨a, i, vs, rfl, rfl, e1, by omega, by omega, ?_, fun p hp => ?_⟩
    · rw [t1.len]
      have : ds.length * i.toNat ≤ 1000 * 1000 := Nat.mul_le_mul h2 (by omega)
      rw [sizeLine_eq]
      omega
    · have : ∀ n : Nat, RepA W.F (List.replicate n vs).flatten (List.replicate n ds).flatten := by
        intro n
        induction n with
        | zero => exact .nil
        | succ n ih =>
          rw [List.replicate_succ, List.replicate_succ, List.flatten_cons, List.flatten_cons]
          exact t1.append ih
      exact M1.newL m hp (this _) k h'
  match x, h with
  | .d (.int i), h =>
    cases r1
    obtain ⟨j, rfl, rfl, c, h⟩ := dInt_of r2 h
    exact .inl ⟨i, j, rfl, rfl, c, k.md M1 (.int _) h⟩
  | .d .none, h => exact h.elim
  | .d (.bool _), h => exact h.elim
  | .d (.str _), h => exact h.elim
  | .d (.tuple _), h => exact h.elim
  | .d (.dict _), h => exact h.elim
  | .dc _, h => exact h.elim
  | .dr, h => exact h.elim
  | .d (.list _), h => exact .inr (rep (h' := h))
  | .p _, h => exact .inr (rep (h' := h))
def dNeg : Vd → TEd := fun x s q => dInt x fun i => q (.d (.int (-i))) s
theorem abu_neg : AbU w (rU fun i => .int (-i)) dNeg := fun G W s σ H v x Q q M1 r k h => by
  obtain ⟨i, rfl, rfl, h⟩ := dInt_of r h
  exact ⟨i, rfl, k.md M1 (.int _) h⟩
/-- xs[::-1] -/
def uRev (m : Bool) (u : TEd) : TEd := fun s q => u s fun x s1 => dList x s1 fun ds => mkL m ds.reverse s1 q
theorem ab_rev {K : PySem.W.Frag} (m : Bool) {t : TE} {u : TEd} (h : AbE w t u) : AbE w (tRevL K t) (uRev m u) := fun G W s σ H Q q M0 k hu =>
  h G W s σ H _ _ M0 (fun W1 s1 H1 v x e1 m1 r1 h1 => by
    obtain ⟨a, vs, ds, rfl, f1, t1, h1⟩ := dList_of m1 r1 h1
    exact ⟨a, vs, rfl, SqL.of f1, fun p hp => m1.newL m hp t1.reverse (k.up e1) h1⟩) hu
/-- a, b = e, e -/
def sPar (i j : Nat) (u : TAd) : TSd := fun E s => u s fun xs s1 => d2 xs fun x y => E.nx { s1 with r := (s1.r.set i (some x)).set j (some y) }
theorem abs_par {i j : Nat} {t : TA} {u : TAd} (h : AbA w t u) : AbS w (tPar i j t) (sPar i j u) := fun G W s σ H D E m l hu =>
  h G W s σ H _ _ m (fun W1 s1 H1 vs xs e1 m1 r1 h1 => by
    obtain ⟨v, u, x, y, rfl, ra, rb, h1⟩ := d2_of r1 h1
    exact ⟨v, u, rfl, l.nx _ _ _ _ e1.f ((m1.slot ra).slot rb) h1⟩) hu
/-- isinstance(x, T), T a built-in class -/
def tyN : Vd → Option String
  | .d .none => some "NoneType"
  | .d (.bool _) => some "bool"
  | .d (.int _) => some "int"
  | .d (.str _) => some "str"
  | .d (.list _) => some "list"
  | .d (.tuple _) => some "tuple"
  | _ => none
theorem tyN_of {K : PySem.W.Frag} {G : Gm} {W : Wd} {s : Sd} {σ : L2.St} {H : Hp} (m : M w G W s σ H) {v : V} {x : Vd} {n : String} (r : RepV W G.δ v x) (h : tyN x = some n) : TyX K H v (.type n) := by
  match x, h with
  | .d .none, h => cases h; cases r; exact .base .non
  | .d (.bool b), h => cases h; cases r; exact .base (.bl b)
  | .d (.int i), h => cases h; cases r; exact .base (.int i)
  | .d (.str z), h => cases h; cases r; exact .base (.str z)
  | .d (.list ds), h =>
    cases h
    cases r with
    | lst e t => exact .base (.lst (m.fz' _ _ ⟨_, .inl rfl⟩ e))
  | .d (.tuple ds), h =>
    cases h
    cases r with
    | tup e t => exact .base (.tup (m.fz' _ _ ⟨_, .inr rfl⟩ e))
def uIsi (T : String) (u : TEd) : TEd := fun s q => u s fun x s1 => ∃ n b, tyN x = some n ∧ L2.kitB n T = some b ∧ q (.d (.bool b)) s1
theorem ab_isi {K : PySem.W.Frag} (T : String) {t : TE} {u : TEd} (h : AbE w t u) : AbE w (tCB (rIsi K) (tCons t (tCons (tC (.ty T)) tNil))) (uIsi T u) := fun G W s σ H Q q M0 k hu =>
  h G W s σ H _ _ M0 (fun W1 s1 H1 v x e1 m1 r1 ⟨n, b, h1, h2, h3⟩ => ⟨v, .ty T, .type n, .type T, b, rfl, .ty T, tyN_of m1 r1 h1, kit_ty h2, (k.up e1).md m1 (.bl b) h3⟩) hu
def dIns : Vd → List Vd → TEd := fun x ys s q => d2 ys fun y z => dInt y fun i => match x with
  | .p n => ∃ xs, s.o[n]? = some (some (.lst xs)) ∧ xs.length < sizeLine ∧ 0 ≤ i ∧ i < 2 ^ 63 ∧ q (.d .none) (s.put n (xs.take i.toNat ++ [z] ++ xs.drop i.toNat))
  | _ => False
theorem abm_ins : AbM w (fun x vs H Q => ∃ (l : Addr) (xs : List V) (i : Int) (y : V), x = .ref l ∧ vs = [.int i, y] ∧ H l = some (.lst xs) ∧ xs.length < sizeLine ∧ 0 ≤ i ∧ i < 2 ^ 63 ∧
    Q .non (upd H l (.lst (xs.take i.toNat ++ [y] ++ xs.drop i.toNat)))) dIns := fun G W s σ H v vs x xs Q q m r rs k h => by
  obtain ⟨u, u2, y, z, rfl, ry, rz, h⟩ := d2_of rs h
  obtain ⟨i, rfl, rfl, h⟩ := dInt_of ry h
  match x, h with
  | .p n, ⟨xs, ho, h1, h2, h3, h⟩ =>
    obtain ⟨a, rfl, ha⟩ := r
    obtain ⟨a', f1, f2, vs, f3, f4⟩ := m.ob n _ ho
    obtain rfl := Option.some.inj (ha.symm.trans f1)
    exact ⟨a, vs, i, u2, rfl, rfl, f3, by rw [f4.length]; exact h1, h2, h3, k.md (m.putL ho ha (paired_app (paired_app (paired_take _ f4) (.cons rz .nil)) (paired_drop _ f4))) .non h⟩
/-- xs.index(k), ints -/
def dIndex : Vd → List Vd → TEd := fun x ys s q => d1 ys fun y => dInt y fun k => dList x s fun ds => ∃ (ns : List Int) (j : Nat), ds = ns.map PyData.int ∧ ns[j]? = some k ∧ (∀ i < j, ns[i]? ≠ some k) ∧ q (.d (.int j)) s
theorem abm_clear : AbM w rClear dClear := fun G W s σ H v vs x xs Q q m r rs k h => by
  match xs, rs, x, h with
  | [], .nil, .p n, ⟨xs0, ho, h⟩ =>
    obtain ⟨a, rfl, ha⟩ := r
    obtain ⟨a', f1, f2, us, f3, f4⟩ := m.ob n _ ho
    obtain rfl := Option.some.inj (ha.symm.trans f1)
    exact ⟨a, us, rfl, rfl, f3, k.md (m.putL ho ha .nil) .non h⟩
end
end Dt


set_option autoImplicit false
set_option Elab.async false
set_option autoImplicit false
set_option linter.all false
set_option maxRecDepth 100000
set_option maxHeartbeats 4000000
/-! The data layer: lemmas for reading. -/
namespace Dt
open PySem PySem.Spec L2 Kt
/-- less told of the slots -/
inductive Lss : List (Option Vd) → List (Option Vd) → Prop
  | nil : Lss [] []
  | same {a : Option Vd} {r' r : List (Option Vd)} : Lss r' r → Lss (a :: r') (a :: r)
  | less {a : Option Vd} {r' r : List (Option Vd)} : Lss r' r → Lss (none :: r') (a :: r)
theorem Lss.len : ∀ {r' r : List (Option Vd)}, Lss r' r → r'.length = r.length
  | _, _, .nil => rfl
  | _, _, .same h => by rw [List.length_cons, List.length_cons, h.len]
  | _, _, .less h => by rw [List.length_cons, List.length_cons, h.len]
theorem Lss.get : ∀ {r' r : List (Option Vd)} {i : Nat} {x : Vd}, Lss r' r → r'[i]? = some (some x) → r[i]? = some (some x)
  | _, _, 0, _, .same h, e => by simpa using e
  | _, _, i + 1, _, .same h, e => by
    have := Lss.get (i := i) h (by simpa using e)
    simpa using this
  | _, _, 0, _, .less h, e => by simp at e
  | _, _, i + 1, _, .less h, e => by
    have := Lss.get (i := i) h (by simpa using e)
    simpa using this
theorem Lss.refl : ∀ r : List (Option Vd), Lss r r
  | [] => .nil
  | _ :: r => .same (Lss.refl r)
theorem wk_r {r r' : List (Option Vd)} {o : List (Option Ob)} {d : Drw} (h : Lss r' r := by repeat (first | exact Lss.nil | refine Lss.same ?_ | refine Lss.less ?_)) : Wk ⟨r, o, d⟩ ⟨r', o, d⟩ := fun w G W σ H m =>
  ⟨W, ExtF.refl W, m.less (r' := r') (h.len.trans m.len) fun i x q => m.sl i x (h.get q)⟩
/-- ids below n -/
def okV (n : Nat) : Vd → Bool
  | .p i => decide (i < n)
  | _ => true
def okS (n : Nat) : Option Vd → Bool
  | some v => okV n v
  | none => true
def okO (n : Nat) : Option Ob → Bool
  | some (.lst xs) => xs.all (okV n)
  | _ => true
/-- objects that nothing points at any more are dropped -/
theorem wk_trim {r : List (Option Vd)} {o o' : List (Option Ob)} {d : Drw} (h1 : r.all (okS o.length) = true := by rfl) (h2 : o.all (okO o.length) = true := by rfl) : Wk ⟨r, o ++ o', d⟩ ⟨r, o, d⟩ := fun w G W σ H m => by
  let W' : Wd := { W with α := fun n => if n < o.length then W.α n else none }
  have hα : ∀ n, n < o.length → W'.α n = W.α n := fun n h => if_pos h
  have hb : ∀ n a, W'.α n = some a → n < o.length ∧ W.α n = some a := fun n a q => by
    have q' : (if n < o.length then W.α n else none) = some a := q
    by_cases z : n < o.length
    · rw [if_pos z] at q'; exact ⟨z, q'⟩
    · rw [if_neg z] at q'; cases q'
  have rep : ∀ v x, okV o.length x = true → RepV W G.δ v x → RepV W' G.δ v x := fun v x hx hr => by
    match x, hx, hr with
    | .d x, _, hr => exact hr
    | .dc kvs, _, hr => exact hr
    | .dr, _, hr => exact hr
    | .p n, hx, ⟨a, h1, h2⟩ => exact ⟨a, h1, (hα n (of_decide_eq_true hx)).trans h2⟩
  refine ⟨W', ⟨fun _ _ e => e, rfl⟩, ⟨m.fz, m.lk, m.fr, m.len, fun i x q => ?_, fun n u q => ?_, fun n a q => ?_, fun i j a q1 q2 => m.inj i j a (hb i a q1).2 (hb j a q2).2, m.dw, m.dn, m.nf, m.gf, m.lz, ⟨m.tx.tb, m.tx.fn, m.tx.gn, fun n a q => m.tx.an n a (hb n a q).2, m.tx.gc⟩⟩⟩
  · obtain ⟨v, e1, e2⟩ := m.sl i x q
    exact ⟨v, e1, rep v x (List.all_eq_true.mp h1 _ (List.mem_of_getElem? q)) e2⟩
  · have q' : o[n]? = some (some u) := q
    have hn : n < o.length := (List.getElem?_eq_some_iff.mp q').1
    obtain ⟨a, e1, e2, e3⟩ := m.ob n u (show (o ++ o')[n]? = some (some u) by rw [List.getElem?_append_left hn]; exact q')
    refine ⟨a, (hα n hn).trans e1, e2, ?_⟩
    have hu := List.all_eq_true.mp h2 _ (List.mem_of_getElem? q')
    match u, hu, e3 with
    | .lst xs, hu, ⟨vs, f1, f2⟩ =>
      refine ⟨vs, f1, ?_⟩
      have hu' : xs.all (okV o.length) = true := hu
      clear f1 e3 hu q q' e1
      induction f2 with
      | nil => exact .nil
      | @cons v x vs xs r t ih =>
        rw [List.all_cons, Bool.and_eq_true] at hu'
        exact .cons (rep v x hu'.1 r) (ih hu'.2)
    | .dk kvs, _, e3 => exact e3
    | .st S k, _, e3 => exact e3
  · obtain ⟨z, q'⟩ := hb n a q
    obtain ⟨_, e2, e3, e4⟩ := m.al n a q'
    exact ⟨z, e2, e3, e4⟩
/-- an own list is frozen in place -/
theorem wk_ice {r : List (Option Vd)} {o : List (Option Ob)} {d : Drw} {i n : Nat} {ds : List PyData} (h1 : r[i]? = some (some (.p n))) (h2 : o[n]? = some (some (.lst (ds.map Vd.d)))) : Wk ⟨r, o, d⟩ ⟨r.set i (some (.d (.list ds))), o.set n none, d⟩ := fun w G W σ H m => by
  obtain ⟨v, hv, a, rfl, ha⟩ := m.sl i _ h1
  obtain ⟨a', f1, f2, vs, h3, h4⟩ := m.ob n _ h2
  obtain rfl := Option.some.inj (ha.symm.trans f1)
  obtain ⟨e, m'⟩ := m.ice h2 ha h3
  exact ⟨_, e.f, m'.tell hv (x := .d (.list ds)) (show Rep _ _ _ from Rep.lst upd_same (repA_of (repVs_ext e h4)))⟩
/-! ### lists of ints -/
theorem cutA_tail {α : Type} (xs : List α) : cutA xs (some 1) none = xs.tail := by
  unfold cutA
  cases xs with
  | nil => rfl
  | cons x xs =>
    have h1 : HT.sIx (x :: xs).length 0 (some 1) = 1 := by
      unfold HT.sIx
      simp
    have h2 : HT.sIx (x :: xs).length (x :: xs).length none = (x :: xs).length := rfl
    rw [h1, h2]
    simp
theorem atI_some {α : Type} {xs : List α} {i : Int} {v : α} (h0 : 0 ≤ i) (h : xs[i.toNat]? = some v) : atI xs i = some v := Kt.atI_of h0 h
theorem atI_ints {l : List Int} {p : Int} (h1 : 1 ≤ p) (h2 : p ≤ (l.length : Int)) : atI (l.map PyData.int) (p - 1) = some (.int (at1 l p)) := by
  refine atI_some (by omega) ?_
  rw [List.getElem?_map, at1_get h1 h2]
  rfl
def pairI (p : Int × Int) : PyData := .tuple [.int p.1, .int p.2]
theorem pairs_ints (xs ys : List Int) : pairsD (xs.map PyData.int) (ys.map PyData.int) = (xs.zip ys).map pairI := by
  unfold pairsD
  induction xs generalizing ys with
  | nil => rfl
  | cons x xs ih =>
    cases ys with
    | nil => rfl
    | cons y ys =>
      rw [List.map_cons, List.map_cons, List.zipWith_cons_cons, List.zip_cons_cons, List.map_cons, ih]
      rfl
end Dt


set_option autoImplicit false
set_option Elab.async false
set_option autoImplicit false
set_option linter.all false
set_option maxRecDepth 100000
set_option maxHeartbeats 4000000
/-! sorted of pairs of an int and a list of ints. -/
namespace Dt
open PySem PySem.Spec L2 Kt
/-! ### the order -/
def lexL : List Int → List Int → Bool
  | [], [] => false
  | [], _ :: _ => true
  | _ :: _, [] => false
  | x :: xs, y :: ys => if x = y then lexL xs ys else decide (x < y)
theorem lexL_irr : ∀ xs : List Int, lexL xs xs = false
  | [] => rfl
  | x :: xs => by unfold lexL; rw [if_pos rfl]; exact lexL_irr xs
theorem lexL_asym : ∀ xs ys : List Int, lexL xs ys = true → lexL ys xs = false
  | [], [], h => by cases h
  | [], _ :: _, _ => rfl
  | _ :: _, [], h => by cases h
  | x :: xs, y :: ys, h => by
    unfold lexL at h ⊢
    by_cases e : x = y
    · rw [if_pos e] at h; rw [if_pos e.symm]; exact lexL_asym xs ys h
    · rw [if_neg e] at h; rw [if_neg (Ne.symm e)]
      have := of_decide_eq_true h
      exact decide_eq_false (by omega)
theorem lexL_tri : ∀ xs ys : List Int, lexL xs ys = false → lexL ys xs = false → xs = ys
  | [], [], _, _ => rfl
  | [], _ :: _, h, _ => by cases h
  | _ :: _, [], _, h => by cases h
  | x :: xs, y :: ys, h, h' => by
    unfold lexL at h h'
    by_cases e : x = y
    · rw [if_pos e] at h; rw [if_pos e.symm] at h'; rw [e, lexL_tri xs ys h h']
    · rw [if_neg e] at h; rw [if_neg (Ne.symm e)] at h'
      have h1 := of_decide_eq_false h
      have h2 := of_decide_eq_false h'
      omega
theorem lexL_tr : ∀ xs ys zs : List Int, lexL xs ys = true → lexL ys zs = true → lexL xs zs = true
  | [], [], _, h, _ => by cases h
  | _ :: _, [], _, h, _ => by cases h
  | _, _ :: _, [], _, h => by cases h
  | [], _ :: _, _ :: _, _, _ => rfl
  | x :: xs, y :: ys, z :: zs, h, h' => by
    unfold lexL at h h' ⊢
    by_cases e : x = y
    · rw [if_pos e] at h
      by_cases e' : y = z
      · rw [if_pos e'] at h'; rw [if_pos (e.trans e')]; exact lexL_tr xs ys zs h h'
      · rw [if_neg e'] at h'; rw [if_neg (by rw [e]; exact e'), e]; exact h'
    · rw [if_neg e] at h
      have h1 := of_decide_eq_true h
      by_cases e' : y = z
      · rw [if_neg (by rw [← e']; exact e)]; rw [← e']; exact h
      · rw [if_neg e'] at h'
        have h2 := of_decide_eq_true h'
        rw [if_neg (by omega)]
        exact decide_eq_true (by omega)
def lexM (p q : Int × List Int) : Bool := if p.1 = q.1 then lexL p.2 q.2 else decide (p.1 < q.1)
theorem lexM_asym (p q : Int × List Int) (h : lexM p q = true) : lexM q p = false := by
  unfold lexM at h ⊢
  by_cases e : p.1 = q.1
  · rw [if_pos e] at h; rw [if_pos e.symm]; exact lexL_asym _ _ h
  · rw [if_neg e] at h; rw [if_neg (Ne.symm e)]
    have := of_decide_eq_true h
    exact decide_eq_false (by omega)
theorem lexM_tri (p q : Int × List Int) (h : lexM p q = false) (h' : lexM q p = false) : p = q := by
  unfold lexM at h h'
  by_cases e : p.1 = q.1
  · rw [if_pos e] at h; rw [if_pos e.symm] at h'
    exact Prod.ext e (lexL_tri _ _ h h')
  · rw [if_neg e] at h; rw [if_neg (Ne.symm e)] at h'
    have h1 := of_decide_eq_false h
    have h2 := of_decide_eq_false h'
    omega
theorem lexM_tr (p q r : Int × List Int) (h : lexM p q = true) (h' : lexM q r = true) : lexM p r = true := by
  unfold lexM at h h' ⊢
  by_cases e : p.1 = q.1
  · rw [if_pos e] at h
    by_cases e' : q.1 = r.1
    · rw [if_pos e'] at h'; rw [if_pos (e.trans e')]; exact lexL_tr _ _ _ h h'
    · rw [if_neg e'] at h'; rw [if_neg (by rw [e]; exact e'), e]; exact h'
  · rw [if_neg e] at h
    have h1 := of_decide_eq_true h
    by_cases e' : q.1 = r.1
    · rw [if_neg (by rw [← e']; exact e), ← e']; exact h
    · rw [if_neg e'] at h'
      have h2 := of_decide_eq_true h'
      rw [if_neg (by omega)]
      exact decide_eq_true (by omega)
/-- not greater -/
def leM (p q : Int × List Int) : Bool := !lexM q p
theorem leM_tr (p q r : Int × List Int) (h : leM p q = true) (h' : leM q r = true) : leM p r = true := by
  unfold leM at h h' ⊢
  have h1 : lexM q p = false := by simpa using h
  have h2 : lexM r q = false := by simpa using h'
  cases e : lexM r p with
  | false => rfl
  | true =>
    exfalso
    cases e1 : lexM p q with
    | true =>
      have := lexM_tr r p q e e1
      rw [h2] at this
      cases this
    | false =>
      have := lexM_tri q p h1 e1
      rw [this] at h2
      rw [e] at h2
      cases h2
theorem leM_tot (p q : Int × List Int) : (leM p q || leM q p) = true := by
  unfold leM
  cases e : lexM q p with
  | false => rfl
  | true => rw [lexM_asym q p e]; rfl
theorem leM_anti (p q : Int × List Int) (h : leM p q = true) (h' : leM q p = true) : p = q := by
  unfold leM at h h'
  exact lexM_tri p q (by simpa using h') (by simpa using h)
def srtM (ps : List (Int × List Int)) : List (Int × List Int) := ps.mergeSort leM
theorem srtM_perm (ps : List (Int × List Int)) : (srtM ps).Perm ps := List.mergeSort_perm _ _
theorem srtM_up (ps : List (Int × List Int)) : (srtM ps).Pairwise fun p q => leM p q = true := List.pairwise_mergeSort (le := leM) leM_tr leM_tot ps
theorem perm_uniq {α : Type} {le : α → α → Bool} (anti : ∀ a b, le a b = true → le b a = true → a = b) : ∀ {l m : List α}, l.Perm m → l.Pairwise (fun a b => le a b = true) → m.Pairwise (fun a b => le a b = true) → l = m
  | [], m, p, _, _ => (List.Perm.eq_nil p.symm).symm
  | a :: l, [], p, _, _ => absurd p.length_eq (by simp)
  | a :: l, b :: m, p, hl, hm => by
    obtain ⟨h1, h2⟩ := List.pairwise_cons.mp hl
    obtain ⟨h3, h4⟩ := List.pairwise_cons.mp hm
    have e : a = b := by
      rcases List.mem_cons.mp (p.mem_iff.mp List.mem_cons_self) with h | h
      · exact h
      · rcases List.mem_cons.mp (p.mem_iff.mpr (List.mem_cons_self (a := b) (l := m))) with h' | h'
        · exact h'.symm
        · exact anti a b (h1 b h') (h3 a h)
    subst e
    rw [perm_uniq anti p.cons_inv h2 h4]
theorem srtM_of {ps qs : List (Int × List Int)} (p : qs.Perm ps) (s : qs.Pairwise fun p q => leM p q = true) : qs = srtM ps := perm_uniq leM_anti (p.trans (srtM_perm ps).symm) s (srtM_up ps)
/-! ### the machine's side -/
/-- a tuple of an int and a list of ints -/
def IsMk (h : Heap) (v : Value) (p : Int × List Int) : Prop := ∃ a o t b n, v = .ref a ∧ h.get? a = some o ∧ o.cls = .type "tuple" ∧ o.data = .seq #[.int p.1 t, .ref b] n ∧ ∃ (vs : List Value), Vals (p.2.map V.int) vs ∧ h.IsList b vs.toArray
theorem firstLt_lexL {e r : Nat → Bool} (xs ys : List Int) (he : ∀ j x y, xs[j]? = some x → ys[j]? = some y → e j = decide (x = y)) (hr : ∀ j x y, xs[j]? = some x → ys[j]? = some y → r j = decide (x < y)) :
    PySem.SeqAt.firstLt e r (decide (xs.length < ys.length)) (List.range (min xs.length ys.length)) = lexL xs ys := by
  suffices h : ∀ (n i : Nat), min xs.length ys.length - i = n → i ≤ min xs.length ys.length → PySem.SeqAt.firstLt e r (decide (xs.length < ys.length)) ((List.range (min xs.length ys.length)).drop i) = lexL (xs.drop i) (ys.drop i) by
    have := h _ 0 rfl (Nat.zero_le _)
    simpa using this
  intro n
  induction n with
  | zero =>
    intro i h1 h2
    have hi : i = min xs.length ys.length := by omega
    have hd : (List.range (min xs.length ys.length)).drop i = [] := List.drop_of_length_le (by rw [List.length_range]; omega)
    rw [hd]
    show decide (xs.length < ys.length) = _
    by_cases hx : xs.length ≤ ys.length
    · have e1 : xs.drop i = [] := List.drop_of_length_le (by omega)
      rw [e1]
      by_cases hy : xs.length < ys.length
      · rw [decide_eq_true hy]
        have : ys.drop i ≠ [] := fun z => by have := congrArg List.length z; rw [List.length_drop] at this; simp at this; omega
        match ys.drop i, this with
        | _ :: _, _ => rfl
      · rw [decide_eq_false hy]
        have : ys.drop i = [] := List.drop_of_length_le (by omega)
        rw [this]
        rfl
    · rw [decide_eq_false (by omega)]
      have e2 : ys.drop i = [] := List.drop_of_length_le (by omega)
      rw [e2]
      have : xs.drop i ≠ [] := fun z => by have := congrArg List.length z; rw [List.length_drop] at this; simp at this; omega
      match xs.drop i, this with
      | _ :: _, _ => rfl
  | succ n ih =>
    intro i h1 h2
    have hx : i < xs.length := by omega
    have hy : i < ys.length := by omega
    have hd : (List.range (min xs.length ys.length)).drop i = i :: (List.range (min xs.length ys.length)).drop (i + 1) := by
      rw [List.drop_eq_getElem_cons (by rw [List.length_range]; omega), List.getElem_range]
    have ex : xs.drop i = xs[i] :: xs.drop (i + 1) := List.drop_eq_getElem_cons hx
    have ey : ys.drop i = ys[i] :: ys.drop (i + 1) := List.drop_eq_getElem_cons hy
    have h3 := he i _ _ (List.getElem?_eq_getElem hx) (List.getElem?_eq_getElem hy)
    have h4 := hr i _ _ (List.getElem?_eq_getElem hx) (List.getElem?_eq_getElem hy)
    rw [hd, ex, ey]
    show (if e i = true then _ else r i) = (if xs[i] = ys[i] then _ else _)
    rw [h3, h4]
    by_cases z : xs[i] = ys[i]
    · rw [decide_eq_true z, if_pos rfl, if_pos z]
      exact ih (i + 1) (by omega) (by omega)
    · rw [decide_eq_false z, if_neg (by decide), if_neg z]

section
open SrtO PyProof.Rows PySem.SeqAt
variable {prog : Program} {w : World} {A : Around} {s : Shared} {E : Value → Shared → Prop}
theorem IsMk.keeps {h h' : Heap} {v : Value} {p : Int × List Int} (m : IsMk h v p) (k : ∀ b o, h.get? b = some o → h'.get? b = some o) : IsMk h' v p := by
  obtain ⟨a, o, t, b, n, e, ho, hc, hd, vs, hv, hl⟩ := m
  obtain ⟨o2, h1, h2⟩ := hl
  exact ⟨a, o, t, b, n, e, k _ _ ho, hc, hd, vs, hv, o2, k _ _ h1, h2⟩
theorem reads_ints {h : Heap} {b : Addr} {vs : List Value} {xs : List Int} (hv : Vals (xs.map V.int) vs) (hl : h.IsList b vs.toArray) : ∃ as, Reads h (.ref b) (dL xs) as := by
  have all : ∀ {xs : List Int} {vs : List Value}, Vals (xs.map V.int) vs → ∃ as, ReadsAll h vs (xs.map PyData.int) as := by
    intro xs
    induction xs with
    | nil => intro vs r; cases r; exact ⟨_, .nil⟩
    | cons x xs ih =>
      intro vs r
      cases r with
      | cons r t =>
        obtain ⟨tk, rfl⟩ := r
        obtain ⟨as, q⟩ := ih t
        exact ⟨_, .cons (.int x tk) q⟩
  obtain ⟨as, q⟩ := all hv
  obtain ⟨o, h1, h2, n, h4⟩ := hl
  exact ⟨_, Reads.list h1 h2 h4 q⟩
theorem mk_cmp {vs : List Value} {k : Value → Int × List Int} (hu : A.units + 70 < cLine) (hp : ∀ v ∈ vs, IsMk s.heap v (k v)) : SrtO.Cmp prog w A s (tuples' true) (fun p => p.1 ∈ vs) (lt2 fun v u => lexM (k v) (k u)) := by
  intro p q hm hm'
  have h1 := hp _ hm
  have h2 := hp _ hm'
  show wpAny (model prog w) A (keyLt' (tuples' true) p.1 q.1) (fun r s' => s' = s ∧ r = lexM (k p.1) (k q.1)) (fun _ _ => False) s
  obtain ⟨a, o, t, b, n, e, ho, hc, hd, us, hv, hl⟩ := h1
  obtain ⟨a', o', t', b', n', e', ho', hc', hd', us', hv', hl'⟩ := h2
  rw [e, e'] 
  have ek : k p.1 = k (.ref a) := by rw [e]
  have ek' : k q.1 = k (.ref a') := by rw [e']
  rw [ek] at hd hv
  rw [ek'] at hd' hv'
  generalize k (.ref a) = pa at hd hv ⊢
  generalize k (.ref a') = pb at hd' hv' ⊢
  obtain ⟨x, y⟩ := pa
  obtain ⟨x', y'⟩ := pb
  refine PySem.W.kat_lt ho hd ho' hd' ?_
  show PySem.W.KatLex prog w A true (decide (2 < 2)) _ [(.int x t, .int x' t'), (.ref b, .ref b')] 0 s
  refine PySem.W.kat_cons (SeqAt.EqAt.int_int x t x' t' prog w _ _ ?_)
  refine PySem.W.kat_go (fun e1 => ?_) (fun e1 => ?_)
  · have ex : x = x' := by simpa using e1
    obtain ⟨as, r1⟩ := reads_ints hv hl
    obtain ⟨bs, r2⟩ := reads_ints hv' hl'
    have sh : ∀ zs : List Int, PyData.canLay0 (dL zs) = true ∧ (dL zs).depth ≤ 64 := fun zs => by
      have := shaped_dL zs
      unfold SeqAt.shaped at this
      rw [Bool.and_eq_true, decide_eq_true_eq] at this
      exact this
    have eq := eqAt_reads _ _ A s _ _ _ _ r1 r2 (sh y).1 (sh y').1 (by have h1 := (sh y).2; have h2 : min (dL y).depth (dL y').depth ≤ (dL y).depth := Nat.min_le_left _ _; show A.units + min (dL y).depth (dL y').depth < cLine; omega)
    rw [eqv_dL] at eq
    refine PySem.W.kat_yes (PySem.W.kat_cons (eq prog w _ _ ?_))
    refine PySem.W.kat_go (fun e2 => ?_) (fun e2 => ?_)
    · have ey : y = y' := by simpa using e2
      have e3 : lexM (x, y) (x', y') = false := by rw [ex, ey]; show (if x' = x' then lexL y' y' else _) = _; rw [if_pos rfl, lexL_irr]
      exact PySem.W.kat_yes (PySem.W.kat_nil ⟨rfl, e3.symm⟩)
    · have e3 : lexM (x, y) (x', y') = lexL y y' := if_pos ex
      have lens : us.toArray.size = y.length ∧ us'.toArray.size = y'.length := by
        rw [List.size_toArray, List.size_toArray, ← hv.length, ← hv'.length, List.length_map, List.length_map]
        exact ⟨rfl, rfl⟩
      have at1 : ∀ {zs : List Int} {ws : List Value} (r : Vals (zs.map V.int) ws) (j : Nat) (hj : j < ws.toArray.size), ∃ z t, zs[j]? = some z ∧ ws.toArray[j] = Value.int z t := fun {zs ws} r j hj => by
        have hj' : j < ws.length := by simpa using hj
        have hz : j < zs.length := by have := r.length; rw [List.length_map] at this; omega
        obtain ⟨u, h1, t, h2⟩ := Vals.get (i := j) (x := V.int zs[j]) r (by rw [List.getElem?_map, List.getElem?_eq_getElem hz]; rfl)
        refine ⟨zs[j], t, List.getElem?_eq_getElem hz, ?_⟩
        rw [List.getElem?_eq_getElem hj'] at h1
        rw [List.getElem_toArray, Option.some.inj h1, h2]
      have key := RcLt.lists (A := A) (s := s) (e := fun j => decide (y.getD j 0 = y'.getD j 0)) (r := fun j => decide (y.getD j 0 < y'.getD j 0)) hl hl' (by omega) (fun j h1 h2 => by
        obtain ⟨z, t, g1, g2⟩ := at1 hv j h1
        obtain ⟨z', t', g1', g2'⟩ := at1 hv' j h2
        rw [g2, g2']
        have : decide (y.getD j 0 = y'.getD j 0) = (z == z') := by
          rw [List.getD_eq_getElem?_getD, List.getD_eq_getElem?_getD, g1, g1']
          show decide (z = z') = _
          by_cases y : z = z' <;> simp [y]
        show EqAt _ s _ _ (decide (y.getD j 0 = y'.getD j 0))
        rw [this]
        exact SeqAt.EqAt.int_int z t z' t') (fun j h1 h2 _ => by
        obtain ⟨z, t, g1, g2⟩ := at1 hv j h1
        obtain ⟨z', t', g1', g2'⟩ := at1 hv' j h2
        rw [g2, g2']
        show RcLt _ s _ _ (decide (y.getD j 0 < y'.getD j 0))
        rw [List.getD_eq_getElem?_getD, List.getD_eq_getElem?_getD, g1, g1']
        exact fun _ _ _ _ h => PyProof.Rows.lt_int h)
      rw [lens.1, lens.2] at key
      rw [firstLt_lexL y y' (fun j x y hx hy => by rw [List.getD_eq_getElem?_getD, List.getD_eq_getElem?_getD, hx, hy]; rfl) (fun j x y hx hy => by rw [List.getD_eq_getElem?_getD, List.getD_eq_getElem?_getD, hx, hy]; rfl)] at key
      exact PySem.W.kat_no (PySem.W.kat_one _ _ (key prog w _ _ ⟨rfl, e3.symm⟩))
  · have ex : ¬ x = x' := by simpa using e1
    have e3 : lexM (x, y) (x', y') = decide (x < x') := if_neg ex
    exact PySem.W.kat_no (oneLt_int ⟨rfl, e3.symm⟩)
theorem lexM_swo (k : Value → Int × List Int) : Swo fun v u => lexM (k v) (k u) := by
  refine ⟨fun x y h => lexM_asym _ _ h, fun x y z h1 h2 => ?_⟩
  have := leM_tr (k x) (k y) (k z)
  unfold leM at this
  have h := this (by rw [h1]; rfl) (by rw [h2]; rfl)
  simpa using h
theorem mk_firsts {h : Heap} : ∀ {vs : List Value}, (∀ v ∈ vs, ∃ p, IsMk h v p) → ∃ fs : List Value, PySem.W.KatTups h vs fs ∧ fs.length = vs.length ∧ ∀ f ∈ fs, ∃ x t, f = Value.int x t
  | [], _ => ⟨[], .nil, rfl, fun f hf => by cases hf⟩
  | v :: vs, hp => by
    obtain ⟨fs, h1, h2, h3⟩ := mk_firsts (vs := vs) fun u hu => hp u (List.mem_cons_of_mem _ hu)
    obtain ⟨p, a, o, t, b, n, rfl, ho, hc, hd, _⟩ := hp v List.mem_cons_self
    refine ⟨.int p.1 t :: fs, .cons ho hc hd rfl h1, by simp [h2], fun f hf => ?_⟩
    rcases List.mem_cons.mp hf with rfl | hf
    · exact ⟨_, _, rfl⟩
    · exact h3 f hf
theorem sorted_mks {l : Addr} {vs : List Value} {k : Value → Int × List Int} {Q : Value → Shared → Prop} (hu : A.units + 72 < cLine) (hl : s.heap.IsList l vs.toArray) (hz : vs.length ≤ sizeLine) (hp : ∀ v ∈ vs, IsMk s.heap v (k v))
    (h : ∀ (h' : Heap) (d : Addr) (out : List Value), Srtd (fun v u => lexM (k v) (k u)) out → Stb (fun v u => lexM (k v) (k u)) out vs → (∀ b o, s.heap.get? b = some o → h'.get? b = some o) → s.heap.objs.size ≤ d → (∃ n, h'.get? d = some (seqObj "list" out.toArray n)) → Q (.ref d) { s with heap := h' }) :
    wpAny (model prog w) A (call (.builtin "sorted") [.ref l]) Q E s := by
  refine sorted_ord (lexM_swo k) hl hz (fun h2 h₁ a ha kk h' keep => ?_) fun out hs hb => ?_
  · have hp' : ∀ v ∈ vs, IsMk h' v (k v) := fun v hm => (hp v hm).keeps fun b o e => keep b o (kk b o e).1 (kk b o e).2
    obtain ⟨fs, h1, h3, h4⟩ := mk_firsts fun v hm => ⟨_, hp' v hm⟩
    refine ⟨tuples' true, fun Q E hq => ?_, mk_cmp (by show A.units + 1 + 1 + 70 < _; omega) hp'⟩
    refine PySem.W.kat_kind (T := .type "int") h1 (by omega) (fun f hm => ?_) (by rfl) ?_
    · obtain ⟨x, t, rfl⟩ := h4 f hm
      exact PySem.W.Looks.now
    · have e : (Value.type "int" != Value.type "tuple") = true := by decide +kernel
      rw [e]
      exact hq
  · exact h _ _ out hs hb (fun b o e => sortedAll_old e) (Nat.le_succ _) (sortedAll_at s.heap vs out.toArray)
end
/-! ### as a rule of the layer -/
open SrtO in
abbrev ltMk (k : V → Int × List Int) (x y : V) : Bool := lexM (k x) (k y)
open SrtO in
def rSortedM (K : PySem.W.Frag) : List V → Hp → VK → Prop := fun vs H Q => ∃ (a : Addr) (xs : List V) (k : V → Int × List Int), vs = [V.ref a] ∧ SqL K H a xs ∧ (∀ x ∈ xs, ∃ t u, x = V.ref t ∧ H t = some (.tup [.int (k x).1, .ref u]) ∧ H u = some (.lst ((k x).2.map V.int))) ∧
  ∀ ys p, Srtd (ltMk k) ys → ys.Perm xs → H p = none → Q (.ref p) (upd H p (.lst ys))
section
open PyProof.Rows
variable {X : Cx}
theorem cr_sortedM (hu : X.A.units + 72 < cLine) : CallR X (.builtin "sorted") (rSortedM X.K) := by
  intro pins s σ H vs us Q I r h
  obtain ⟨a, xs, k, rfl, hs, hx, q⟩ := h
  obtain ⟨its, rv, hl, hz⟩ := I.list hs
  obtain ⟨u, rfl, ru⟩ := vals1 r
  obtain rfl : u = Value.ref a := ru
  obtain ⟨e1, e2⟩ := refs_back rv fun x m => by
    obtain ⟨t, u, e, _⟩ := hx x m
    exact ⟨t, e⟩
  refine sorted_mks (k := fun u => k (backV u)) hu hl.isList (by rw [← rv.length]; exact hz) (fun v hv => ?_) fun h' d out h1 h2 kp hd hn => ?_
  · obtain ⟨t, rfl⟩ := e2 v hv
    have hm : V.ref t ∈ xs := by rw [e1]; exact List.mem_map.mpr ⟨_, hv, rfl⟩
    obtain ⟨t', u', e, ht, hu'⟩ := hx _ hm
    cases e
    obtain ⟨_, its2, r2, o, ho, hc, n, hd⟩ := I.hok _ _ ht
    obtain ⟨u1, u2, rfl, ri, rj⟩ := vals2 r2
    obtain ⟨t1, rfl⟩ := ri
    cases rj
    obtain ⟨its3, r3, hl3, _⟩ := I.list (SqL.of hu')
    exact ⟨t, o, t1, u', n, rfl, ho, hc, hd, its3, r3, hl3.isList⟩
  · have h3 : ∀ u ∈ out, ∃ a, u = Value.ref a := fun u hu => e2 u (h2.perm.mem_iff.mp hu)
    obtain ⟨n, hn⟩ := hn
    have hb : (out.map backV).Perm xs := by
      rw [e1]
      exact h2.perm.map backV
    refine ⟨.ref d, upd H d (.lst (out.map backV)), I.laid (t' := s.toks) kp hd ⟨?_, out, n, vals_back h3, hn⟩, rfl, q _ d (SrtO.srtd_map h1) hb (I.hok.fresh hd)⟩
    rw [hb.length_eq]
    exact hz
end
/-! ### over data -/
def markD (p : Int × List Int) : PyData := .tuple [.int p.1, dL p.2]
def dSortedM (m : Bool) : List Vd → TEd := fun xs s q => d1 xs fun x => dList x s fun ds => ∃ ps : List (Int × List Int), ds = ps.map markD ∧ mkL m ((srtM ps).map markD) s q
theorem rep_mark {w : Ww} {G : Gm} {W : Wd} {s : Sd} {σ : L2.St} {H : Hp} (m : M w G W s σ H) {v : V} {p : Int × List Int} (r : Rep W.F v (markD p)) : ∃ t u, v = .ref t ∧ H t = some (.tup [.int p.1, .ref u]) ∧ H u = some (.lst (p.2.map V.int)) ∧ W.F t = some (.tup [.int p.1, .ref u]) ∧ W.F u = some (.lst (p.2.map V.int)) := by
  unfold markD at r
  cases r with
  | tup e t =>
    cases t with
    | cons r1 t =>
      cases t with
      | cons r2 t =>
        cases t
        cases r1
        unfold dL at r2
        cases r2 with
        | lst e2 t2 =>
          obtain rfl := RepA.ofInts t2
          exact ⟨_, _, rfl, m.fz' _ _ ⟨_, .inr rfl⟩ e, m.fz' _ _ ⟨_, .inl rfl⟩ e2, e, e2⟩
open Classical in
theorem abc_sortedM {w : Ww} {K : PySem.W.Frag} (mm : Bool) : AbC w (rSortedM K) (dSortedM mm) := fun G W s σ H vs xs Q q M1 r k h => by
  obtain ⟨v, x, rfl, rfl, r, h⟩ := d1_of r h
  obtain ⟨a, us, ds, rfl, e1, t1, ps, rfl, h⟩ := dList_of M1 r h
  let good : V → Int × List Int → Prop := fun v p => Rep W.F v (markD p)
  have uniq : ∀ v p p', good v p → good v p' → p = p' := fun v p p' g g' => by
    obtain ⟨t, u, rfl, h1, h2, _⟩ := rep_mark M1 g
    obtain ⟨t', u', e, h1', h2', _⟩ := rep_mark M1 g'
    cases e
    rw [h1] at h1'
    injection (Option.some.inj h1') with z
    injection z with z1 z2
    injection z1 with z1
    injection z2 with z2 _
    injection z2 with z2
    subst z2
    rw [h2] at h2'
    injection (Option.some.inj h2') with z
    have inj : ∀ {l m : List Int}, l.map V.int = m.map V.int → l = m := by
      intro l
      induction l with
      | nil => intro m e; cases m with
        | nil => rfl
        | cons _ _ => cases e
      | cons x l ih => intro m e; cases m with
        | nil => cases e
        | cons y m =>
          rw [List.map_cons, List.map_cons] at e
          injection e with e1 e2
          injection e1 with e1
          rw [e1, ih e2]
    exact Prod.ext z1 (inj z)
  let kk : V → Int × List Int := fun v => if h : ∃ p, good v p then choose h else (0, [])
  have kkg : ∀ v p, good v p → kk v = p := fun v p g => by
    have hx : ∃ p, good v p := ⟨p, g⟩
    have : kk v = choose hx := dif_pos hx
    rw [this]
    exact uniq v _ _ (choose_spec hx) g
  have mks : ∀ (ps : List (Int × List Int)) (us : List V), RepA W.F us (ps.map markD) → us.map kk = ps ∧ ∀ u ∈ us, good u (kk u) := by
    intro ps
    induction ps with
    | nil => intro us t; cases t; exact ⟨rfl, fun u hu => by cases hu⟩
    | cons p ps ih =>
      intro us t
      rw [List.map_cons] at t
      cases t with
      | cons r t =>
        obtain ⟨i1, i2⟩ := ih _ t
        have e := kkg _ p r
        refine ⟨by rw [List.map_cons, e, i1], fun u hu => ?_⟩
        rcases List.mem_cons.mp hu with rfl | hu
        · rw [e]; exact r
        · exact i2 u hu
  have mk := mks ps us t1
  refine ⟨a, us, kk, rfl, SqL.of e1, fun u hu => ?_, fun ys p hs hb hp => ?_⟩
  · obtain ⟨t, b, h1, h2, h3, _⟩ := rep_mark M1 (mk.2 u hu)
    exact ⟨t, b, h1, h2, h3⟩
  · have e : ys.map kk = srtM ps := by
      refine srtM_of (by rw [← mk.1]; exact hb.map kk) ?_
      rw [List.pairwise_map]
      refine List.Pairwise.imp ?_ hs
      intro x y hxy
      unfold leM
      have : lexM (kk y) (kk x) = false := hxy
      rw [this]
      rfl
    rw [← e, List.map_map] at h
    refine M1.newL mm hp ?_ k h
    have : ∀ l : List V, (∀ u ∈ l, good u (kk u)) → RepA W.F l (l.map (markD ∘ kk)) := by
      intro l
      induction l with
      | nil => intro _; exact .nil
      | cons v l ih => intro hl; exact .cons (hl v List.mem_cons_self) (ih fun u hu => hl u (List.mem_cons_of_mem _ hu))
    exact this ys fun u hu => mk.2 u (hb.mem_iff.mp hu)
theorem _root_.L2.Room.units72 {k : Nat} {A : PySem.Around} (r : L2.Room k A) : A.units + 72 < PySem.cLine := by have := r.un; omega
end Dt


set_option autoImplicit false
set_option Elab.async false
set_option autoImplicit false
set_option linter.all false
set_option maxRecDepth 100000
set_option maxHeartbeats 4000000
/-! The data layer: comprehensions and loops whose parts are functions. -/
namespace Dt
open PySem PySem.Spec L2 Kt
section
variable {m : Bool} {g : TGd} {ut : TTd} {ue : TEd} {vs : List Nat} {s1 : Sd} {q : Vd → Sd → Prop} {α : Type}
/-- [f x for x in L if p x] -/
theorem lc_src (φ : α → PyData) (p : α → Bool) (f : α → PyData) (L : List α) (hl : L.length ≤ sizeLine)
    (h : ∀ x ∈ L, ∀ (R : Vd → List (Option Ob) → Drw → Prop) (R' : List (Option Ob) → Drw → Prop), (p x = true → R (.d (f x)) s1.o s1.d) → (p x = false → R' s1.o s1.d) → g (.d (φ x)) ⟨wipeD s1.r vs, s1.o, s1.d⟩ fun s2 => ut s2 fun b s3 => if b = true then ue s3 (fun y s4 => R y s4.o s4.d) else R' s3.o s3.d)
    (k : mkL m ((L.filter p).map f) s1 q) : ∃ I : Ic, I 0 [] s1.o s1.d ∧
  (∀ i d acc o dr, (L.map φ)[i]? = some d → I i acc o dr → g (.d d) ⟨wipeD s1.r vs, o, dr⟩ fun s2 => ut s2 fun b s3 => if b = true then ue s3 fun y s4 => acc.length < sizeLine ∧ ∃ y', y = .d y' ∧ I (i + 1) (acc ++ [y']) s4.o s4.d else I (i + 1) acc s3.o s3.d) ∧
  ∀ acc o dr, I (L.map φ).length acc o dr → mkL m acc ⟨s1.r, o, dr⟩ q := by
  refine ⟨fun i acc o dr => acc = ((L.take i).filter p).map f ∧ o = s1.o ∧ dr = s1.d, ⟨rfl, rfl, rfl⟩, ?_, ?_⟩
  · rintro i d acc o dr hd ⟨rfl, rfl, rfl⟩
    obtain ⟨x, hx, rfl⟩ := map_get hd
    have st : (L.take (i + 1)).filter p = if p x = true then (L.take i).filter p ++ [x] else (L.take i).filter p := by
      rw [List.take_add_one, hx, Option.toList_some, List.filter_append]
      by_cases e : p x = true
      · rw [if_pos e, List.filter_cons_of_pos e]; rfl
      · rw [if_neg e, List.filter_cons_of_neg e]; simp
    have hlt : i < L.length := (List.getElem?_eq_some_iff.mp hx).1
    have len : (((L.take i).filter p).map f).length < sizeLine := by
      rw [List.length_map]
      have := List.length_filter_le p (L.take i)
      rw [List.length_take] at this
      omega
    refine h x (List.mem_of_getElem? hx) (fun y o d => (((L.take i).filter p).map f).length < sizeLine ∧ ∃ y', y = .d y' ∧ (((L.take i).filter p).map f ++ [y'] = ((L.take (i + 1)).filter p).map f ∧ o = s1.o ∧ d = s1.d)) (fun o d => ((L.take i).filter p).map f = ((L.take (i + 1)).filter p).map f ∧ o = s1.o ∧ d = s1.d) (fun e => ⟨len, f x, rfl, ?_, rfl, rfl⟩) (fun e => ⟨?_, rfl, rfl⟩)
    · rw [st, if_pos e, List.map_append]; rfl
    · rw [st, if_neg (by rw [e]; decide)]
  · rintro acc o dr ⟨rfl, rfl, rfl⟩
    rw [List.length_map, List.take_length]
    exact k
/-- [f x for x in L] -/
theorem lc_map (φ : α → PyData) (f : α → PyData) (L : List α) (hl : L.length ≤ sizeLine)
    (h : ∀ x ∈ L, ∀ (R : Vd → List (Option Ob) → Drw → Prop) (R' : List (Option Ob) → Drw → Prop), R (.d (f x)) s1.o s1.d → g (.d (φ x)) ⟨wipeD s1.r vs, s1.o, s1.d⟩ fun s2 => ut s2 fun b s3 => if b = true then ue s3 (fun y s4 => R y s4.o s4.d) else R' s3.o s3.d)
    (k : mkL m (L.map f) s1 q) : ∃ I : Ic, I 0 [] s1.o s1.d ∧
  (∀ i d acc o dr, (L.map φ)[i]? = some d → I i acc o dr → g (.d d) ⟨wipeD s1.r vs, o, dr⟩ fun s2 => ut s2 fun b s3 => if b = true then ue s3 fun y s4 => acc.length < sizeLine ∧ ∃ y', y = .d y' ∧ I (i + 1) (acc ++ [y']) s4.o s4.d else I (i + 1) acc s3.o s3.d) ∧
  ∀ acc o dr, I (L.map φ).length acc o dr → mkL m acc ⟨s1.r, o, dr⟩ q :=
  lc_src φ (fun _ => true) f L hl (fun x hx R R' h1 _ => h x hx R R' (h1 rfl)) (by rw [List.filter_eq_self.mpr fun _ _ => rfl]; exact k)
end
section
variable {g : TGd} {b : TSd} {E : Ed} {s1 : Sd} {α β : Type}
/-- for x in L: a state is stepped on -/
theorem for_fold (φ : α → PyData) (L : List α) (S : β → Sd) (step : β → α → β) (b0 : β) (h0 : s1 = S b0)
    (h : ∀ i x, L[i]? = some x → ∀ c : β, c = (L.take i).foldl step b0 → ∀ N : Sd → Prop, N (S (step c x)) → ∀ bk : Sd → Prop, g (.d (φ x)) (S c) fun s2 => b ⟨fun s3 => ∃ s4, Wk s3 s4 ∧ N s4, E.rt, bk, fun s3 => ∃ s4, Wk s3 s4 ∧ N s4⟩ s2)
    (hd : E.nx (S (L.foldl step b0))) : ∃ I : Nat → Sd → Prop, I 0 s1 ∧
  (∀ i d s, (L.map φ)[i]? = some d → I i s → g (.d d) s fun s2 => b ⟨fun s3 => ∃ s4, Wk s3 s4 ∧ I (i + 1) s4, E.rt, fun s3 => ∃ s4, Wk s3 s4 ∧ E.nx s4, fun s3 => ∃ s4, Wk s3 s4 ∧ I (i + 1) s4⟩ s2) ∧ ∀ s, I (L.map φ).length s → E.nx s := by
  refine ⟨fun i s => s = S ((L.take i).foldl step b0), h0, ?_, ?_⟩
  · rintro i d s hd ⟨rfl, _⟩
    obtain ⟨x, hx, rfl⟩ := map_get hd
    exact h i x hx _ rfl (fun s => s = S ((L.take (i + 1)).foldl step b0)) (by rw [fold_step hx]) _
  · rintro s rfl
    rw [List.length_map, List.take_length]
    exact hd
end
section
variable {m : Bool} {ui : TId} {g : TGd} {ut : TTd} {ue : TEd} {vs : List Nat} {s s1 : Sd} {q : Vd → Sd → Prop} {α β : Type} {b : TSd} {E : Ed}
/-- [f x for x in L if p x], as it stands in a reading -/
theorem uLc_src (φ : α → PyData) (p : α → Bool) (f : α → PyData) (L : List α) (s1 : Sd) (hi : ∀ R : List PyData → Sd → Prop, R (L.map φ) s1 → ui s R) (hl : L.length ≤ sizeLine)
    (h : ∀ x ∈ L, ∀ (R : Vd → List (Option Ob) → Drw → Prop) (R' : List (Option Ob) → Drw → Prop), (p x = true → R (.d (f x)) s1.o s1.d) → (p x = false → R' s1.o s1.d) → g (.d (φ x)) ⟨wipeD s1.r vs, s1.o, s1.d⟩ fun s2 => ut s2 fun b s3 => if b = true then ue s3 (fun y s4 => R y s4.o s4.d) else R' s3.o s3.d)
    (k : mkL m ((L.filter p).map f) s1 q) : uLc m ui g ut ue vs s q := by
  unfold uLc
  exact hi _ (lc_src φ p f L hl h k)
theorem uLc_map (φ : α → PyData) (f : α → PyData) (L : List α) (s1 : Sd) (hi : ∀ R : List PyData → Sd → Prop, R (L.map φ) s1 → ui s R) (hl : L.length ≤ sizeLine)
    (h : ∀ x ∈ L, ∀ (R : Vd → List (Option Ob) → Drw → Prop) (R' : List (Option Ob) → Drw → Prop), R (.d (f x)) s1.o s1.d → g (.d (φ x)) ⟨wipeD s1.r vs, s1.o, s1.d⟩ fun s2 => ut s2 fun b s3 => if b = true then ue s3 (fun y s4 => R y s4.o s4.d) else R' s3.o s3.d)
    (k : mkL m (L.map f) s1 q) : uLc m ui g ut ue vs s q := by
  unfold uLc
  exact hi _ (lc_map φ f L hl h k)
/-- for x in L, as it stands in a reading -/
theorem sFor_fold (φ : α → PyData) (L : List α) (S : β → Sd) (step : β → α → β) (b0 : β) (hi : ∀ R : List PyData → Sd → Prop, R (L.map φ) (S b0) → ui s R)
    (h : ∀ i x, L[i]? = some x → ∀ c : β, c = (L.take i).foldl step b0 → ∀ N : Sd → Prop, N (S (step c x)) → ∀ bk : Sd → Prop, g (.d (φ x)) (S c) fun s2 => b ⟨fun s3 => ∃ s4, Wk s3 s4 ∧ N s4, E.rt, bk, fun s3 => ∃ s4, Wk s3 s4 ∧ N s4⟩ s2)
    (hd : E.nx (S (L.foldl step b0))) : sFor ui g b E s := by
  unfold sFor
  exact hi _ (for_fold φ L S step b0 rfl h hd)
/-- for x in L, by what holds ahead of each turn -/
theorem sFor_inv (φ : α → PyData) (L : List α) (s1 : Sd) (I : Nat → Sd → Prop) (hi : ∀ R : List PyData → Sd → Prop, R (L.map φ) s1 → ui s R) (h0 : I 0 s1)
    (h : ∀ i x s, L[i]? = some x → I i s → g (.d (φ x)) s fun s2 => b ⟨fun s3 => ∃ s4, Wk s3 s4 ∧ I (i + 1) s4, E.rt, fun s3 => ∃ s4, Wk s3 s4 ∧ E.nx s4, fun s3 => ∃ s4, Wk s3 s4 ∧ I (i + 1) s4⟩ s2)
    (hd : ∀ s, I L.length s → E.nx s) : sFor ui g b E s := by
  unfold sFor
  exact hi _ ⟨I, h0, fun i d s hd hI => by
      obtain ⟨x, hx, rfl⟩ := map_get hd
      exact h i x s hx hI, fun s hI => hd s (by rw [List.length_map] at hI; exact hI)⟩
/-- while, by what holds and a measure -/
theorem sWhile_by {c : TTd} (s0 : Sd) (I : Sd → Prop) (μ : Sd → Nat) (h0 : I s0) (h : ∀ s, I s → c s fun x s1 => if x = true then b ⟨fun s3 => ∃ s4, Wk s3 s4 ∧ I s4 ∧ μ s4 < μ s, E.rt, fun s3 => ∃ s4, Wk s3 s4 ∧ E.nx s4, fun s3 => ∃ s4, Wk s3 s4 ∧ I s4 ∧ μ s4 < μ s⟩ s1 else E.nx s1) : sWhile c b E s0 := by
  unfold sWhile
  exact ⟨I, μ, h0, h⟩
/-- a comprehension by what holds ahead of each turn -/
theorem uLc_inv (φ : α → PyData) (L : List α) (s1 : Sd) (I : Ic) (hi : ∀ R : List PyData → Sd → Prop, R (L.map φ) s1 → ui s R) (h0 : I 0 [] s1.o s1.d)
    (h : ∀ i x acc o dr, L[i]? = some x → I i acc o dr → g (.d (φ x)) ⟨wipeD s1.r vs, o, dr⟩ fun s2 => ut s2 fun b s3 => if b = true then ue s3 fun y s4 => acc.length < sizeLine ∧ ∃ y', y = .d y' ∧ I (i + 1) (acc ++ [y']) s4.o s4.d else I (i + 1) acc s3.o s3.d)
    (hd : ∀ acc o dr, I L.length acc o dr → mkL m acc ⟨s1.r, o, dr⟩ q) : uLc m ui g ut ue vs s q := by
  unfold uLc
  exact hi _ ⟨I, h0, fun i d acc o dr hd hI => by
      obtain ⟨x, hx, rfl⟩ := map_get hd
      exact h i x acc o dr hx hI, fun acc o dr hI => hd acc o dr (by rw [List.length_map] at hI; exact hI)⟩
end
theorem shp_int (i : Int) : Shp (.int i) := by unfold Shp SeqAt.shaped; rw [PyData.canLay0, PyData.depth]; rfl
theorem shp_bool (b : Bool) : Shp (.bool b) := by unfold Shp SeqAt.shaped; rw [PyData.canLay0, PyData.depth]; rfl
theorem shp_non : Shp .none := by unfold Shp SeqAt.shaped; rw [PyData.canLay0, PyData.depth]; rfl
theorem eqv_int (i j : Int) : PyData.eqv (.int i) (.int j) = decide (i = j) := by
  rw [PyData.eqv]
  by_cases h : i = j <;> simp [h]
theorem eqv_bool (i j : Bool) : PyData.eqv (.bool i) (.bool j) = decide (i = j) := by
  rw [PyData.eqv]
  by_cases h : i = j <;> simp [h]
theorem eqv_str (i j : Str) : PyData.eqv (.str i) (.str j) = decide (i = j) := by
  rw [PyData.eqv]
  by_cases h : i = j
  · rw [h]; simp
  · simp [h]
theorem ints_src (lo : Int) (n : Nat) : intsR lo n = (List.range n).map fun i => .int (lo + (i : Nat)) := rfl
end Dt


set_option autoImplicit false
set_option Elab.async false
set_option autoImplicit false
set_option linter.all false
set_option maxRecDepth 100000
set_option maxHeartbeats 4000000
/-! sum(a list of lists, []): each one joined by +. -/
namespace Dt
open PySem
section
variable {prog : Program} {w : World} {A : Around} {R : Result → Shared → Prop}
/-- l1 + l2 + .. -/
def cats (lst : Nat → List Value) : Nat → List Value
  | 0 => []
  | i + 1 => cats lst i ++ lst i
theorem args_sum2 (a b : Value) : argsOk "sum" ⟨[a, b], []⟩ := by unfold argsOk; kernel_rfl
theorem sub_list_str' : isSubtype (.type "list") (.type "str") = pure false := by rw [isSubtype_type]; kernel_rfl
theorem sub_list_bytes' : isSubtype (.type "list") (.type "bytes") = pure false := by rw [isSubtype_type]; kernel_rfl
theorem sub_list_bytearray' : isSubtype (.type "list") (.type "bytearray") = pure false := by rw [isSubtype_type]; kernel_rfl
theorem codeAny_sum_lists {I l : Addr} {at_ : List Addr} (hh : A.in1.handled = none) (hne : l ≠ I) (lst : Nat → List Value) (S : Addr) (hS1 : S ≠ I) (hS2 : S ≠ l) (len : ∀ i, i ≤ at_.length → (cats lst i).length ≤ sizeLine) (sz0 : Nat) :
    ∀ (k i : Nat) (s : Shared) (T : Addr) (c n : Nat), at_.length - i = k → i ≤ at_.length → s.heap.IsListIter I l i → s.heap.IsList l (at_.map Value.ref).toArray →
      s.heap.get? S = some { cls := .type "list", dict := none, data := .seq #[.ref T] c, slots := #[] } → T ≠ S → T ≠ I → IsL s.heap T (cats lst i).toArray n → (0 < i → sz0 ≤ T) → sz0 ≤ S →
      (∀ j b, at_[j]? = some b → b ≠ S ∧ b ≠ I ∧ ∃ n, IsL s.heap b (lst j).toArray n) →
      (∀ h' tk T' n', (∀ b o, b ≠ I → b ≠ S → s.heap.get? b = some o → h'.get? b = some o) → T' ≠ S → T' ≠ I → IsL h' T' (cats lst at_.length).toArray n' → (0 < at_.length → sz0 ≤ T') → (i = at_.length → T' = T) → R (.ok (.ret (.ref T'))) { s with heap := h', toks := tk }) →
      codeAny (model prog w) A (.builtin "sum.loop" ⟨[.ref I, .ref S, rawInt 2, rawInt 0], []⟩) R s := by
  have W := Walks.list (prog := prog) (w := w) (A := A.in1) hh I l hne (at_.map Value.ref).toArray
  have hsz : (at_.map Value.ref).toArray.size = at_.length := by simp
  intro k
  induction k with
  | zero =>
    intro i s T c n hk hi hit hl hS hT1 hT2 hT hfr z0 hb hR
    have hin : i = at_.length := by omega
    subst hin
    refine codeAny_builtin F.entry_sum_loop ?_
    rw [Around.under_plainId F.plain_sum_loop _]
    show wpAny _ A.in1 (seqItems? (.ref S) >>= _) _ _ s
    refine wpAny_bind (wpAny_seqItems hS rfl ?_)
    show wpAny _ A.in1 (tryCatch (pyNext (.ref I)) _ >>= _) _ _ s
    refine wpAny_bind (wpAny_tryCatch (W.done s _ _ (by rw [hsz]; exact ⟨hit, hl⟩) fun h' tk hk' => ?_))
    exact wpAny_pure (hR h' tk T n (fun b o h1 _ e => hk' b o (by simpa using h1) e) hT1 hT2 (hk' T _ (by simpa using hT2) hT) hfr fun _ => rfl)
  | succ k ih =>
    intro i s T c n hk hi hit hl hS hT1 hT2 hT hfr z0 hb hR
    have hlt : i < at_.length := by omega
    refine codeAny_builtin F.entry_sum_loop ?_
    rw [Around.under_plainId F.plain_sum_loop _]
    show wpAny _ A.in1 (seqItems? (.ref S) >>= _) _ _ s
    refine wpAny_bind (wpAny_seqItems hS rfl ?_)
    show wpAny _ A.in1 (tryCatch (pyNext (.ref I)) _ >>= _) _ _ s
    refine wpAny_bind (wpAny_tryCatch (W.item i s _ _ (by rw [hsz]; exact hlt) ⟨hit, hl⟩ fun v h' tk hP hst' hk' => ?_))
    have hP' : at_[i]?.map Value.ref = some v := by simpa using hP
    obtain ⟨b, hbi, rfl⟩ : ∃ b, at_[i]? = some b ∧ v = .ref b := by
      cases e : at_[i]? with
      | none => rw [e] at hP'; cases hP'
      | some b => rw [e] at hP'; exact ⟨b, rfl, (Option.some.inj hP').symm⟩
    obtain ⟨b1, b2, nb, hbl⟩ := hb i b hbi
    have hS' := hk' S _ (by simpa using hS1) hS
    have hT' := hk' T _ (by simpa using hT2) hT
    have hb' := hk' b _ (by simpa using b2) hbl
    have szl : (cats lst i).toArray.size + (lst i).toArray.size ≤ sizeLine := by
      have := len (i + 1) hlt
      have e : cats lst (i + 1) = cats lst i ++ lst i := rfl
      rw [e, List.length_append] at this
      simpa using this
    show wpAny _ A.in1 ((holding [Value.ref b] (binaryOp .Add (.ref T) (.ref b))).attempt >>= _) _ _ _
    refine wpAny_bind (wpAny_attempt (wpAny_holding (PySem.P.add_list hT' hb' ?_ szl)))
    show wpAny _ A.in1 (updateSeq S (fun _ => #[.ref h'.objs.size]) >>= _) _ _ _
    have hlt' : ∀ {x : Addr} {o : Obj}, h'.get? x = some o → x ≠ h'.objs.size := fun e => Nat.ne_of_lt (Heap.lt_size e)
    have hS'' := Heap.get?_push_of_some { cls := Value.type "list", data := .seq ((cats lst i).toArray ++ (lst i).toArray) } hS'
    refine wpAny_bind ?_
    refine wpAny_updateSeq hS'' rfl ?_
    have hQ2 := Heap.get?_update_self (Obj.mapSeq fun _ => #[Value.ref h'.objs.size]) hS'' rfl
    refine wpAny_bind (wpAny_letGo ?_)
    refine wpAny_bind ?_
    have keep : ∀ x o, x ≠ S → h'.get? x = some o → ((((h'.push { cls := Value.type "list", data := .seq ((cats lst i).toArray ++ (lst i).toArray) }).update S (Obj.mapSeq fun _ => #[Value.ref h'.objs.size])).update S (Obj.mapSeq fun _ => #[Value.ref h'.objs.size]))).get? x = some o := fun x o h1 e =>
      (Heap.get?_update_other _ _ (Ne.symm h1)).trans ((Heap.get?_update_other _ _ (Ne.symm h1)).trans (Heap.get?_push_of_some _ e))
    have nS : h'.objs.size ≠ S := fun z => hlt' hS' z.symm
    have newL : IsL ((((h'.push { cls := Value.type "list", data := .seq ((cats lst i).toArray ++ (lst i).toArray) }).update S (Obj.mapSeq fun _ => #[Value.ref h'.objs.size])).update S (Obj.mapSeq fun _ => #[Value.ref h'.objs.size]))) h'.objs.size (cats lst (i + 1)).toArray 0 := by
      refine (Heap.get?_update_other _ _ (Ne.symm nS)).trans ((Heap.get?_update_other _ _ (Ne.symm nS)).trans ?_)
      rw [Heap.get?_push_size _ rfl]
      show _ = some (_ : Obj)
      have e : cats lst (i + 1) = cats lst i ++ lst i := rfl
      rw [e]
      simp
    obtain ⟨oI, eI, cI, dI⟩ := hst'.1
    obtain ⟨oL, eL, cL⟩ := hst'.2
    refine wpAny_updateSeq hQ2 rfl (wpAny_pure ⟨plainId_quiet F.plain_sum_loop _, ih (i + 1) _ h'.objs.size _ 0 (by omega) hlt ⟨oI, keep I _ (Ne.symm hS1) eI, cI, dI⟩ ⟨oL, keep l _ (Ne.symm hS2) eL, cL⟩ (Heap.get?_update_self _ hQ2 rfl) nS (fun z => hlt' eI z.symm) newL (fun _ => ?_) z0 (fun j x hj => ?_) fun h'' tk'' T'' n'' hk'' g1 g2 g3 g4 g5 => ?_⟩)
    · exact Nat.le_trans z0 (Nat.le_of_lt (Heap.lt_size hS'))
    · obtain ⟨x1, x2, nx, hx⟩ := hb j x hj
      exact ⟨x1, x2, nx, keep x _ x1 (hk' x _ (by simpa using x2) hx)⟩
    · exact hR h'' tk'' T'' n'' (fun x o h1 h2 e => hk'' x o h1 h2 (keep x o h2 (hk' x o (by simpa using h1) e))) g1 g2 g3 g4 fun z => absurd z (by omega)
theorem call_sum_lists {E : Value → Shared → Prop} {s : Shared} {Q : Value → Shared → Prop} {l st : Addr} {at_ : List Addr} {n0 : Nat} (hh : A.handled = none) (lst : Nat → List Value) (hl : s.heap.IsList l (at_.map Value.ref).toArray) (hst : IsL s.heap st #[] n0)
    (len : ∀ i, i ≤ at_.length → (cats lst i).length ≤ sizeLine) (hb : ∀ j b, at_[j]? = some b → ∃ n, IsL s.heap b (lst j).toArray n)
    (h : ∀ h' tk T' n', (∀ b o, s.heap.get? b = some o → h'.get? b = some o) → IsL h' T' (cats lst at_.length).toArray n' → (0 < at_.length → s.heap.objs.size ≤ T') → (at_.length = 0 → T' = st) → Q (.ref T') { s with heap := h', toks := tk }) :
    wpAny (model prog w) A (call (.builtin "sum") [.ref l, .ref st]) Q E s := by
  refine call_function_tree F.kind_sum F.plain_sum F.entry_sum (args_sum2 _ _) ?_
  unfold Builtin.«sum»
  simp only [List.length_cons, List.length_nil]
  rw [if_neg (by decide)]
  refine wpAny_bind (wpAny_of_eq (show Builtin.Builtins.bindParams "sum" ["start"] 0 { pos := [Value.ref st] } = pure [some (.ref st)] from rfl) ?_)
  have hlt : ∀ {x : Addr} {o : Obj}, s.heap.get? x = some o → x ≠ s.heap.objs.size := fun e => Nat.ne_of_lt (Heap.lt_size e)
  refine wpAny_bind (wpAny_pyIter_list hl ?_)
  generalize hI : s.heap.objs.size = I
  generalize hs2 : s.heap.push { cls := Value.type "list_iterator", data := .fields #[.ref l, .int 0 0] } = H2
  have keep : ∀ x o, s.heap.get? x = some o → H2.get? x = some o := fun x o e => by rw [← hs2]; exact Heap.get?_push_of_some _ e
  have hIt : H2.get? I = some { cls := Value.type "list_iterator", data := .fields #[.ref l, .int 0 0] } := by rw [← hs2, ← hI]; exact Heap.get?_push_size _ rfl
  have hsz2 : H2.objs.size = I + 1 := by rw [← hs2, ← hI]; simp [Heap.push]
  refine wpAny_bind (wpAny_pure ?_)
  have ty : ({ s with heap := H2 } : Shared).TypeIs (.ref st) "list" := ⟨_, keep st _ hst, rfl⟩
  simp only [List.forIn_cons, List.forIn_nil]
  refine wpAny_bind (wpAny_bind (wpAny_bind (wpAny_isInstance (T := "list") (b := false) ty sub_list_str' ?_)))
  simp only [Bool.false_eq_true, if_false]
  refine wpAny_pure (wpAny_bind (wpAny_bind (wpAny_isInstance (T := "list") (b := false) ty sub_list_bytes' ?_)))
  simp only [Bool.false_eq_true, if_false]
  refine wpAny_pure (wpAny_bind (wpAny_bind (wpAny_isInstance (T := "list") (b := false) ty sub_list_bytearray' ?_)))
  simp only [Bool.false_eq_true, if_false]
  refine wpAny_pure (wpAny_pure ?_)
  refine wpAny_bind (wpAny_newObj_type ?_)
  have ltI : ∀ {x : Addr} {o : Obj}, s.heap.get? x = some o → x < I := fun e => by rw [← hI]; exact Heap.lt_size e
  have neS : ∀ {x : Addr} {o : Obj}, s.heap.get? x = some o → x ≠ H2.objs.size := fun e z => by
    have h := ltI e
    rw [z, hsz2] at h
    exact absurd h (Nat.not_lt.mpr (Nat.le_succ I))
  have neI : ∀ {x : Addr} {o : Obj}, s.heap.get? x = some o → x ≠ I := fun e => Nat.ne_of_lt (ltI e)
  obtain ⟨oL, eL, cL⟩ := hl
  have p3 : ∀ x o, H2.get? x = some o → (H2.push { cls := Value.type "list", data := .seq #[Value.ref st] }).get? x = some o := fun x o e => Heap.get?_push_of_some _ e
  refine wpAny_pure ⟨plainId_quiet F.plain_sum_loop _, codeAny_sum_lists (I := I) (l := l) (at_ := at_) hh (neI eL) lst H2.objs.size (by rw [hsz2]; exact Nat.succ_ne_self I) (neS eL).symm len s.heap.objs.size _ 0 _ st _ n0 rfl (Nat.zero_le _) ⟨_, p3 _ _ hIt, rfl, rfl⟩ ⟨oL, p3 _ _ (keep _ _ eL), cL⟩ (Heap.get?_push_size _ rfl) (neS hst) (neI hst) (p3 _ _ (keep _ _ hst)) (fun z => absurd z (Nat.lt_irrefl _)) (by rw [hsz2, hI]; exact Nat.le_succ I) (fun j b hj => ?_) fun h' tk T' n' hk g1 g2 g3 g4 g5 => ?_⟩
  · obtain ⟨n, hn⟩ := hb j b hj
    exact ⟨neS hn, neI hn, n, p3 _ _ (keep _ _ hn)⟩
  · exact h h' tk T' n' (fun b o e => hk b o (neI e) (neS e) (p3 _ _ (keep _ _ e))) g3 g4 fun z => g5 z.symm
end
end Dt
namespace Dt
open PySem PySem.Spec L2 Kt
/-- sum(xs, []), xs a list of lists -/
def rSumL (K : PySem.W.Frag) : List V → Hp → VK → Prop := fun vs H Q => ∃ (a b : Addr) (as : List Addr) (ls : List (List V)), vs = [.ref a, .ref b] ∧ SqL K H a (as.map V.ref) ∧ H b = some (.lst []) ∧ Paired (fun x l => H x = some (.lst l)) as ls ∧ ls.flatten.length ≤ sizeLine ∧
  (ls = [] → Q (.ref b) H) ∧ (ls ≠ [] → ∀ p, H p = none → Q (.ref p) (upd H p (.lst ls.flatten)))
theorem flat_take {α : Type} (ls : List (List α)) (i : Nat) : (ls.take i).flatten.length ≤ ls.flatten.length := by
  conv => rhs; rw [← List.take_append_drop i ls]
  rw [List.flatten_append, List.length_append]
  omega
theorem cr_sumL {X : Cx} (hc : X.calm = true) : CallR X (.builtin "sum") (rSumL X.K) := by
  intro pins s σ H vs us Q I r h
  obtain ⟨a, b, as, ls, rfl, hs, hb, hp, hl, q0, q1⟩ := h
  obtain ⟨its, rv, hla, hzz⟩ := I.list hs
  clear hzz
  cases r with
  | cons ra r =>
    cases r with
    | cons rb r =>
      cases r
      cases ra
      cases rb
      have e : its = as.map Value.ref := by
        clear hs hla hp
        induction as generalizing its with
        | nil => cases rv; rfl
        | cons x as ih =>
          cases rv with
          | cons r1 t => cases r1; rw [ih _ t]; rfl
      subst e
      obtain ⟨_, itb, n0, rb', gb⟩ := I.hok _ _ hb
      cases rb'
      -- what the inner lists hold
      have inner : ∃ vls : List (List Value), Paired (fun (l : List V) (v : List Value) => Vals l v) ls vls ∧ ∀ (j : Nat) (x : Addr) (v : List Value), as[j]? = some x → vls[j]? = some v → ∃ n, IsL s.heap x v.toArray n := by
        clear q0 q1 hl hs hla rv
        induction hp with
        | nil => exact ⟨[], .nil, fun j x v h => by simp at h⟩
        | @cons x l as ls hx t ih =>
          obtain ⟨vls, h1, h2⟩ := ih
          obtain ⟨z, its, n, r1, r2⟩ := I.hok _ _ hx
          refine ⟨its :: vls, .cons r1 h1, fun j y v hj hv => ?_⟩
          cases j with
          | zero =>
            simp at hj hv
            subst hj hv
            exact ⟨n, r2⟩
          | succ j => exact h2 j y v (by simpa using hj) (by simpa using hv)
      obtain ⟨vls, h1, h2⟩ := inner
      have hlen : as.length = vls.length := hp.length.trans h1.length
      have cat : ∀ i, i ≤ vls.length → cats (fun j => vls.getD j []) i = (vls.take i).flatten := by
        intro i
        induction i with
        | zero => intro _; rfl
        | succ i ih =>
          intro hi
          have hi' : i < vls.length := hi
          show cats _ i ++ vls.getD i [] = _
          rw [ih (by omega), List.take_add_one, List.getElem?_eq_getElem hi', Option.toList_some, List.flatten_append, List.getD_eq_getElem?_getD, List.getElem?_eq_getElem hi']
          simp
      have vflat : ∀ {ls : List (List V)} {vls : List (List Value)}, Paired (fun (l : List V) (v : List Value) => Vals l v) ls vls → Vals ls.flatten vls.flatten := by
        intro ls vls h
        induction h with
        | nil => exact .nil
        | cons r t ih => rw [List.flatten_cons, List.flatten_cons]; exact r.append ih
      have vf := vflat h1
      refine call_sum_lists (at_ := as) (st := b) (I.ok.hd hc) (fun j => vls.getD j []) hla.isList gb (fun i hi => ?_) (fun j x hj => ?_) fun h' tk T' n' hk g1 g2 g3 => ?_
      · rw [cat i (by omega)]
        have := flat_take vls i
        have := vf.length
        omega
      · have hj' : j < vls.length := by have := (List.getElem?_eq_some_iff.mp hj).1; omega
        obtain ⟨n, hn⟩ := h2 j x _ hj (List.getElem?_eq_getElem hj')
        refine ⟨n, ?_⟩
        show IsL s.heap x (vls.getD j []).toArray n
        rw [List.getD_eq_getElem?_getD, List.getElem?_eq_getElem hj']
        exact hn
      · rw [hlen, cat _ (Nat.le_refl _), List.take_length] at g1
        by_cases hn : ls = []
        · subst hn
          have z : as.length = 0 := hp.length
          obtain rfl := g3 z
          exact ⟨.ref T', H, I.kept (t' := tk) hk, rfl, q0 rfl⟩
        · have pos : 0 < as.length := by
            rw [hp.length]
            exact List.length_pos_iff.mpr hn
          have hf : H T' = none := I.hok.fresh (g2 pos)
          exact ⟨.ref T', upd H T' (.lst ls.flatten), I.laid (t' := tk) (o := .lst ls.flatten) hk (g2 pos) ⟨hl, _, n', vf, g1⟩, rfl, q1 hn T' hf⟩
/-- over data: a list of lists of data, and a written empty list -/
def dSumL : List Vd → TEd := fun xs s q => d2 xs fun x y => match y with
  | .d (.list []) => dList x s fun ds => ∃ lss : List (List PyData), ds = lss.map PyData.list ∧ lss.flatten.length ≤ sizeLine ∧ q (.d (.list lss.flatten)) s
  | _ => False
theorem repA_lists {w : Ww} {G : Gm} {W : Wd} {s : Sd} {σ : L2.St} {H : Hp} (m : M w G W s σ H) : ∀ {vs : List V} {lss : List (List PyData)}, RepA W.F vs (lss.map PyData.list) → ∃ (as : List Addr) (ls : List (List V)), vs = as.map V.ref ∧ Paired (fun x l => H x = some (.lst l)) as ls ∧ RepA W.F ls.flatten lss.flatten ∧ ls.length = lss.length
  | _, [], h => by cases h; exact ⟨[], [], rfl, .nil, .nil, rfl⟩
  | _, l :: lss, h => by
    cases h with
    | cons r t =>
      obtain ⟨as, ls, rfl, h1, h2, h3⟩ := repA_lists m t
      cases r with
      | lst e t2 => exact ⟨_ :: as, _ :: ls, rfl, .cons (m.fz' _ _ ⟨_, .inl rfl⟩ e) h1, by rw [List.flatten_cons, List.flatten_cons]; exact t2.append h2, by rw [List.length_cons, List.length_cons, h3]⟩
theorem abc_sumL {w : Ww} {K : PySem.W.Frag} : AbC w (rSumL K) dSumL := fun G W s σ H vs xs Q q M1 r k h => by
  obtain ⟨v, u, x, y, rfl, r1, r2, h⟩ := d2_of r h
  match y, r2, h with
  | .d (.list []), r2, h =>
    have r2' : Rep W.F u (.list []) := r2
    obtain ⟨a, us, ds, rfl, e1, t1, lss, rfl, hl, h⟩ := dList_of M1 r1 h
    cases r2' with
    | lst e t2 =>
      cases t2
      have hb := M1.fz' _ _ ⟨_, .inl rfl⟩ e
      obtain ⟨as, ls, rfl, h1, h2, h3⟩ := repA_lists M1 t1
      refine ⟨a, _, as, ls, rfl, SqL.of e1, hb, h1, by rw [h2.len]; exact hl, fun z => ?_, fun z p hp => ?_⟩
      · subst z
        have : lss = [] := List.eq_nil_of_length_eq_zero (by rw [← h3]; rfl)
        subst this
        exact k.md M1 (.lst e .nil) h
      · exact M1.newL false hp h2 k h
end Dt


set_option autoImplicit false
set_option Elab.async false
set_option autoImplicit false
set_option linter.all false
set_option maxRecDepth 100000
set_option maxHeartbeats 4000000
/-! The data layer: promises about slots and heaps, told over data. -/
namespace Dt
open PySem PySem.Spec L2 Kt
theorem fnG_ofOk {P : Program} {w : World} {K : PySem.W.Frag} {mg : Str → Option Value} {base : Heap} {k : Nat} {f : Addr} {fd : FuncData} {ps : List Str} {sp : Sp} (F : FnOk P w K mg base CX0 k f fd ps sp) : FnG P w K mg base k f fd ps sp :=
  ⟨fun vs H Q h => F.len vs H Q E0 h, fun A below s H args us vs Q hr _ e b r h => codeAny_mono (F.run A below s H args us vs Q E0 hr e b r h) fun res s' q => by
    match res, q with
    | .ok (.ret u), q => exact q
    | .ok .next, q => exact q
    | .ok .brk, q => exact q
    | .ok .cont, q => exact q
    | .error e, q => exact q⟩
theorem fnD_ofOk {P : Program} {w : Ww} {K : PySem.W.Frag} {mg : Str → Option Value} {base : Heap} {k : Nat} {f : Addr} {fd : FuncData} {ps : List Str} {sp : Sp} {sd : Spd} (F : FnOk P w.w K mg base CX0 k f fd ps sp) (h : ∀ vs H Q E, liftSp w.T sd vs H Q E → sp vs H Q E) : FnD P w K mg base k f fd ps sd :=
  fnG_ofOk (F.imp h)
section
variable {T : List (Addr × Str)} {δ : Option Addr} {F H H' : Hp} {Q : VK} {q : Rs → Drw → Prop} {dr : Drw}
/-- what is new is frozen -/
def newF (F H H' : Hp) : Hp := fun a => match H a with
  | some _ => F a
  | none => strip H' a
theorem newF_old {a : Addr} {u : HO} (h : H a = some u) : newF F H H' a = F a := by unfold newF; rw [h]
theorem newF_new {a : Addr} (h : H a = none) : newF F H H' a = strip H' a := by unfold newF; rw [h]
theorem newF_nt (nf : ∀ a ts, F a ≠ some (HO.tbl ts)) : ∀ a ts, newF F H H' a ≠ some (HO.tbl ts) := fun a ts z => by
  cases e : H a with
  | some u => rw [newF_old e] at z; exact nf a ts z
  | none => rw [newF_new e] at z; exact (strip_some z).2 ts rfl
theorem strip_same (s : Same H H') : ∀ b o, strip H b = some o → H' b = some o := fun b o e => s b o (strip_some e).1
theorem ty_same {F' : Hp} (t : LamX.Tabs T H) (s : Same H H') (nf : ∀ a ts, F' a ≠ some (HO.tbl ts)) : Ty T H F' H' := ⟨t.ext s, nf, fun b u _ z => noCode_tab t (fun p hp => by
  obtain ⟨ps, h1, _⟩ := t p hp
  rw [h1]
  exact s _ _ h1) z⟩
theorem ty_but {F' : Hp} {a : Addr} {n k : Int} {c : Bool} (t : LamX.Tabs T H) (s : But a H H') (hD : H a = some (DrO n k c)) (nf : ∀ a ts, F' a ≠ some (HO.tbl ts)) : Ty T H F' H' := by
  have ne : ∀ {b : Addr} {o : HO}, H b = some o → (∀ xs, o ≠ .lst xs) → b ≠ a := fun {b o} e n z => by
    rw [z, hD] at e
    exact n _ (Option.some.inj e).symm
  refine ⟨fun p hp => ?_, nf, fun b u _ z => noCode_tab t (fun p hp => ?_) z⟩
  · obtain ⟨ps, h1, h2, h3⟩ := t p hp
    refine ⟨ps, s _ _ (ne h1 fun xs z => by cases z) h1, h2, fun w' cv hc => ?_⟩
    obtain ⟨c', e1, e2⟩ := h3 w' cv hc
    exact ⟨c', e1, s _ _ (ne e2 fun xs z => by cases z) e2⟩
  · obtain ⟨ps, h1, _⟩ := t p hp
    rw [h1]
    exact s _ _ (ne h1 fun xs z => by cases z) h1
/-- a pure answer; all that was stands -/
theorem end_pure (hF : ∀ a o, F a = some o → H a = some o) (hd : DrH δ F H dr) (k : After T δ F H Q q) (s : Same H H') {v : V} {x : PyData} (r : Rep (newF F H H') v x) (h : q (.d x) dr) : Q v H' := by
  refine k.2 (newF F H H') H' v (.d x) dr (fun a o e => by rw [newF_old (hF a o e)]; exact e) (fun a o e => ?_) (fun a o e => ?_) (fun b o e _ => strip_same s b o e) ⟨fun a e => ?_, hd.2⟩ r (ty_same k.1.1 s (newF_nt k.1.2)) h
  · cases z : H a with
    | some u => rw [newF_old z] at e; exact s _ _ (hF a o e)
    | none => rw [newF_new z] at e; exact (strip_some e).1
  · cases z : H a with
    | some u => rw [newF_old z] at e; exact .inl e
    | none => exact .inr (strip_none z)
  · obtain ⟨t, h1, h2, n, kk, c, h3, h4⟩ := hd.1 a e
    exact ⟨t, h1, (newF_old h3).trans h2, n, kk, c, s _ _ h3, h4⟩
/-- a new list -/
theorem end_list (hF : ∀ a o, F a = some o → H a = some o) (hd : DrH δ F H dr) (k : After T δ F H Q q) (s : Same H H') {p : Addr} {xs : List Int} (hp : H p = none) (hx : LI H' p xs) (h : q (.nl (xs.map PyData.int)) dr) : Q (.ref p) H' := by
  refine k.2 F H' (.ref p) (.nl (xs.map PyData.int)) dr (fun a o e => e) (fun a o e => s _ _ (hF a o e)) (fun a o e => .inl e) (fun b o e _ => strip_same s b o e) ⟨fun a e => ?_, hd.2⟩ ⟨p, _, rfl, ?_, strip_none hp, hx, RepA.ints xs⟩ (ty_same k.1.1 s k.1.2) h
  · obtain ⟨t, h1, h2, n, kk, c, h3, h4⟩ := hd.1 a e
    exact ⟨t, h1, h2, n, kk, c, s _ _ h3, h4⟩
  · cases z : F p with
    | none => rfl
    | some o => rw [hF p o z] at hp; cases hp
/-- arguments -/
theorem rep_li (hF : ∀ a o, F a = some o → H a = some o) {v : V} {xs : List Int} (r : Rep F v (dL xs)) : ∃ a, v = .ref a ∧ LI H a xs := by
  unfold dL at r
  cases r with
  | lst e t =>
    have := RepA.ofInts t
    subst this
    exact ⟨_, rfl, hF _ _ e⟩
theorem repA_fam (hF : ∀ a o, F a = some o → H a = some o) : ∀ {vs : List V} {f : List (List Int)}, RepA F vs (f.map dL) → ∃ as, vs = as.map V.ref ∧ Paired (LI H) as f
  | _, [], h => by cases h; exact ⟨[], rfl, .nil⟩
  | _, c :: f, h => by
    cases h with
    | cons r t =>
      obtain ⟨a, rfl, ha⟩ := rep_li hF r
      obtain ⟨as, rfl, hs⟩ := repA_fam hF t
      exact ⟨a :: as, rfl, .cons ha hs⟩
theorem rep_fam (hF : ∀ a o, F a = some o → H a = some o) {v : V} {f : List (List Int)} (r : Rep F v (dF f)) : ∃ a, v = .ref a ∧ Fam H a f := by
  unfold dF at r
  cases r with
  | lst e t =>
    obtain ⟨as, rfl, hs⟩ := repA_fam hF t
    exact ⟨_, rfl, as, hF _ _ e, hs⟩
theorem repA_row (hF : ∀ a o, F a = some o → H a = some o) : ∀ {vs : List V} {r : List (List (List Int))}, RepA F vs (r.map dF) → ∃ as, vs = as.map V.ref ∧ Paired (Fam H) as r
  | _, [], h => by cases h; exact ⟨[], rfl, .nil⟩
  | _, c :: f, h => by
    cases h with
    | cons r t =>
      obtain ⟨a, rfl, ha⟩ := rep_fam hF r
      obtain ⟨as, rfl, hs⟩ := repA_row hF t
      exact ⟨a :: as, rfl, .cons ha hs⟩
theorem rep_row (hF : ∀ a o, F a = some o → H a = some o) {v : V} {f : List (List (List Int))} (r : Rep F v (dR f)) : ∃ a, v = .ref a ∧ RowA H a f := by
  unfold dR at r
  cases r with
  | lst e t =>
    obtain ⟨as, rfl, hs⟩ := repA_row hF t
    exact ⟨_, rfl, as, hF _ _ e, hs⟩
/-- the draws -/
theorem rep_dr (hd : DrH δ F H dr) {α : Nat → Option Addr} {l : List Addr} {v : V} (r : RepV ⟨F, α, l⟩ δ v .dr) : ∃ a t n k c, δ = some a ∧ dr = some t ∧ v = .ref a ∧ H a = some (DrO n k c) ∧ 0 ≤ k ∧ k ≤ t := by
  obtain ⟨a, rfl, ha⟩ := r
  obtain ⟨t, h1, _, n, k, c, h3, h4, h5⟩ := hd.1 a ha
  exact ⟨a, t, n, k, c, ha, h1, rfl, h3, h4, h5⟩
/-- a pure answer behind draws -/
theorem end_drawn (hF : ∀ a o, F a = some o → H a = some o) (hd : DrH δ F H dr) (k : After T δ F H Q q) {a : Addr} (ha : δ = some a) (s : But a H H') {n k' t' : Int} {c : Bool} (hD : H' a = some (DrO n k' c)) (h0 : 0 ≤ k') (h1 : k' ≤ t') {v : V} {x : PyData} (r : Rep (newF F H H') v x) (h : q (.d x) (some t')) : Q v H' := by
  obtain ⟨t, d1, d2, n0, k0, c0, d3, d4⟩ := hd.1 a ha
  have nf : ∀ b o, F b = some o → b ≠ a := fun b o e z => by rw [z, d2] at e; cases e
  refine k.2 (newF F H H') H' v (.d x) (some t') (fun b o e => by rw [newF_old (hF b o e)]; exact e) (fun b o e => ?_) (fun b o e => ?_) (fun b o e hb => s b o (fun z => hb (by rw [z]; exact ha)) (strip_some e).1) ⟨fun b e => ?_, fun _ _ => ⟨a, ha⟩⟩ r (ty_but k.1.1 s d3 (newF_nt k.1.2)) h
  · cases z : H b with
    | some u => rw [newF_old z] at e; exact s _ _ (nf b o e) (hF b o e)
    | none => rw [newF_new z] at e; exact (strip_some e).1
  · cases z : H b with
    | some u => rw [newF_old z] at e; exact .inl e
    | none => exact .inr (strip_none z)
  · obtain rfl : a = b := Option.some.inj (ha.symm.trans e)
    exact ⟨t', rfl, (newF_old d3).trans d2, n, k', c, hD, h0, h1⟩
theorem end_listD (hF : ∀ a o, F a = some o → H a = some o) (hd : DrH δ F H dr) (k : After T δ F H Q q) {a : Addr} (ha : δ = some a) (s : But a H H') {n k' t' : Int} {c : Bool} (hD : H' a = some (DrO n k' c)) (h0 : 0 ≤ k') (h1 : k' ≤ t') {p : Addr} {xs : List Int} (hp : H p = none) (hx : LI H' p xs) (h : q (.nl (xs.map PyData.int)) (some t')) : Q (.ref p) H' := by
  obtain ⟨t, d1, d2, n0, k0, c0, d3, d4⟩ := hd.1 a ha
  have nf : ∀ b o, F b = some o → b ≠ a := fun b o e z => by rw [z, d2] at e; cases e
  refine k.2 F H' (.ref p) (.nl (xs.map PyData.int)) (some t') (fun b o e => e) (fun b o e => s _ _ (nf b o e) (hF b o e)) (fun b o e => .inl e) (fun b o e hb => s b o (fun z => hb (by rw [z]; exact ha)) (strip_some e).1) ⟨fun b e => ?_, fun _ _ => ⟨a, ha⟩⟩ ⟨p, _, rfl, ?_, strip_none hp, hx, RepA.ints xs⟩ (ty_but k.1.1 s d3 k.1.2) h
  · obtain rfl : a = b := Option.some.inj (ha.symm.trans e)
    exact ⟨t', rfl, d2, n, k', c, hD, h0, h1⟩
  · cases z : F p with
    | none => rfl
    | some o => rw [hF p o z] at hp; cases hp
/-- new chains and families -/
theorem rep_newL {a : Addr} {xs : List Int} (h : H a = none) (hx : LI H' a xs) : Rep (newF F H H') (.ref a) (dL xs) := .lst ((newF_new h).trans (strip_of hx fun ts z => by cases z)) (RepA.ints xs)
theorem rep_newF {a : Addr} {f : List (List Int)} (h : H a = none) {as : List Addr} (hr : Refs H' a as) (hp : Paired (LI H') as f) (hn : ∀ b ∈ as, H b = none) : Rep (newF F H H') (.ref a) (dF f) := by
  refine .lst ((newF_new h).trans (strip_of hr fun ts z => by cases z)) ?_
  clear hr
  induction hp with
  | nil => exact .nil
  | @cons b c as f r t ih => exact .cons (rep_newL (hn b List.mem_cons_self) r) (ih fun x hx => hn x (List.mem_cons_of_mem _ hx))
end
end Dt


set_option autoImplicit false
set_option Elab.async false
set_option autoImplicit false
set_option linter.all false
set_option maxRecDepth 100000
set_option maxHeartbeats 4000000
/-! The data layer: own objects lent as data while something flat is worked out. -/
namespace Dt
open PySem PySem.Spec L2 Kt
mutual
/-- the data an own value stands for now -/
inductive Res (o : List (Option Ob)) : Vd → PyData → Prop
  | d (x : PyData) : Res o (.d x) x
  | lst {n : Nat} {xs : List Vd} {ds : List PyData} : o[n]? = some (some (.lst xs)) → ResA o xs ds → Res o (.p n) (.list ds)
inductive ResA (o : List (Option Ob)) : List Vd → List PyData → Prop
  | nil : ResA o [] []
  | cons {x : Vd} {xs : List Vd} {d : PyData} {ds : List PyData} : Res o x d → ResA o xs ds → ResA o (x :: xs) (d :: ds)
end
theorem resA_pure (o : List (Option Ob)) : ∀ ds : List PyData, ResA o (ds.map Vd.d) ds
  | [] => .nil
  | d :: ds => .cons (.d d) (resA_pure o ds)
theorem Res.own {o : List (Option Ob)} {n : Nat} {ds : List PyData} (h : o[n]? = some (some (.lst (ds.map Vd.d)))) : Res o (.p n) (.list ds) := .lst h (resA_pure o ds)
/-- the slots as they are lent -/
inductive Lent (o : List (Option Ob)) : List (Option Vd) → List (Option Vd) → Prop
  | nil : Lent o [] []
  | same {x : Vd} {r r' : List (Option Vd)} (hx : noP x = true) : Lent o r r' → Lent o (some x :: r) (some x :: r')
  | drop {x : Option Vd} {r r' : List (Option Vd)} : Lent o r r' → Lent o (x :: r) (none :: r')
  | own {x : Vd} {d : PyData} {r r' : List (Option Vd)} : Res o x d → Lent o r r' → Lent o (some x :: r) (some (.d d) :: r')
theorem Lent.len {o : List (Option Ob)} : ∀ {r r' : List (Option Vd)}, Lent o r r' → r'.length = r.length
  | _, _, .nil => rfl
  | _, _, .same _ h => by rw [List.length_cons, List.length_cons, h.len]
  | _, _, .drop h => by rw [List.length_cons, List.length_cons, h.len]
  | _, _, .own _ h => by rw [List.length_cons, List.length_cons, h.len]
section
variable {w : Ww} {G : Gm} {W : Wd} {s : Sd} {σ : L2.St} {H : Hp}
open Classical in
/-- the frozen part and the own lists -/
noncomputable def lendF (W : Wd) (s : Sd) (H : Hp) : Hp := fun a => match W.F a with
  | some u => some u
  | none => if ∃ n xs, W.α n = some a ∧ s.o[n]? = some (some (.lst xs)) then H a else none
theorem lendF_old {a : Addr} {u : HO} (h : W.F a = some u) : lendF W s H a = some u := by unfold lendF; rw [h]
open Classical in
theorem lendF_own {a : Addr} {n : Nat} {xs : List Vd} (h : W.F a = none) (h1 : W.α n = some a) (h2 : s.o[n]? = some (some (.lst xs))) : lendF W s H a = H a := by
  unfold lendF
  rw [h]
  exact if_pos ⟨n, xs, h1, h2⟩
open Classical in
theorem lendF_cases {a : Addr} {u : HO} (h : lendF W s H a = some u) : W.F a = some u ∨ (W.F a = none ∧ H a = some u ∧ ∃ n xs, W.α n = some a ∧ s.o[n]? = some (some (.lst xs))) := by
  unfold lendF at h
  cases e : W.F a with
  | some v => rw [e] at h; exact .inl h
  | none =>
    rw [e] at h
    by_cases c : ∃ n xs, W.α n = some a ∧ s.o[n]? = some (some (Ob.lst xs))
    · have h' : (if ∃ n xs, W.α n = some a ∧ s.o[n]? = some (some (Ob.lst xs)) then H a else none) = some u := h
      rw [if_pos c] at h'
      exact .inr ⟨rfl, h', c⟩
    · have h' : (if ∃ n xs, W.α n = some a ∧ s.o[n]? = some (some (Ob.lst xs)) then H a else none) = some u := h
      rw [if_neg c] at h'
      cases h'
mutual
theorem res_rep (m : M w G W s σ H) : ∀ (d : PyData) (x : Vd) (v : V), Res s.o x d → RepV W G.δ v x → Rep (lendF W s H) v d
  | d, .d x, v, h, r => by
    cases h
    exact Rep.mono (fun a o _ q => lendF_old q) d v r
  | .list ds, .p n, v, h, ⟨a, hv, ha⟩ => by
    cases h with
    | lst e t =>
      obtain ⟨a', h1, h2, vs, h3, h4⟩ := m.ob n _ e
      obtain rfl := Option.some.inj (ha.symm.trans h1)
      subst hv
      exact .lst ((lendF_own h2 ha e).trans h3) (resA_rep m ds _ vs t h4)
  | .none, .p n, v, h, _ => by cases h
  | .bool _, .p n, v, h, _ => by cases h
  | .int _, .p n, v, h, _ => by cases h
  | .str _, .p n, v, h, _ => by cases h
  | .tuple _, .p n, v, h, _ => by cases h
  | .dict _, .p n, v, h, _ => by cases h
  | _, .dc _, v, h, _ => by cases h
  | _, .dr, v, h, _ => by cases h
theorem resA_rep (m : M w G W s σ H) : ∀ (ds : List PyData) (xs : List Vd) (vs : List V), ResA s.o xs ds → Paired (RepV W G.δ) vs xs → RepA (lendF W s H) vs ds
  | [], _, _, h, r => by cases h; cases r; exact .nil
  | d :: ds, _, _, h, r => by
    cases h with
    | cons h1 h2 =>
      cases r with
      | cons r1 r2 => exact .cons (res_rep m d _ _ h1 r1) (resA_rep m ds _ _ h2 r2)
end
theorem Lent.get {o : List (Option Ob)} : ∀ {r r' : List (Option Vd)} {i : Nat} {x : Vd}, Lent o r r' → r'[i]? = some (some x) → ∃ y, r[i]? = some (some y) ∧ ((y = x ∧ noP x = true) ∨ ∃ d, x = .d d ∧ Res o y d)
  | _, _, 0, _, .same hx h, e => by simp at e; subst e; exact ⟨_, rfl, .inl ⟨rfl, hx⟩⟩
  | _, _, i + 1, _, .same hx h, e => by
    obtain ⟨y, h1, h2⟩ := Lent.get (i := i) h (by simpa using e)
    exact ⟨y, by simpa using h1, h2⟩
  | _, _, 0, _, .drop h, e => by simp at e
  | _, _, i + 1, _, .drop h, e => by
    obtain ⟨y, h1, h2⟩ := Lent.get (i := i) h (by simpa using e)
    exact ⟨y, by simpa using h1, h2⟩
  | _, _, 0, _, .own hr h, e => by simp at e; subst e; exact ⟨_, rfl, .inr ⟨_, rfl, hr⟩⟩
  | _, _, i + 1, _, .own hr h, e => by
    obtain ⟨y, h1, h2⟩ := Lent.get (i := i) h (by simpa using e)
    exact ⟨y, by simpa using h1, h2⟩
theorem M.lendN (m : M w G W s σ H) : ∀ a ts, lendF W s H a ≠ some (HO.tbl ts) := fun a ts z => by
  rcases lendF_cases z with h | ⟨_, h, n, xs, hα, _⟩
  · exact m.tx.fn a ts h
  · exact (m.tx.an n a hα).1 ts h
theorem M.lend {r' : List (Option Vd)} (m : M w G W s σ H) (hl : Lent s.o s.r r') : M w ⟨strip H, lendF W s H, G.δ, G.z, NoCode w.T H⟩ ⟨lendF W s H, fun _ => none, W.lk⟩ ⟨r', [], s.d⟩ σ H where
  fz := fun a o q l => by
    rcases lendF_cases q with h | ⟨_, h, _⟩
    · exact m.fz a o h l
    · exact h
  lk := fun a l => by
    obtain ⟨ks, od, h1, h2⟩ := m.lk a l
    exact ⟨ks, od, lendF_old h1, h2⟩
  fr := fun b o q _ _ => (strip_some q).1
  len := hl.len.trans m.len
  sl := fun i x q => by
    obtain ⟨y, h1, h2⟩ := hl.get q
    obtain ⟨v, hv, rv⟩ := m.sl i y h1
    refine ⟨v, hv, ?_⟩
    rcases h2 with ⟨rfl, hn⟩ | ⟨d, rfl, hr⟩
    · match y, hn, rv with
      | .d d, _, rv => exact Rep.mono (fun a o _ q => lendF_old q) d v rv
      | .dr, _, rv => exact rv
    · exact res_rep m d y v hr rv
  ob := fun n o q => by cases (show (([] : List (Option Ob))[n]? = some (some o)) from q)
  al := fun n a q => by cases q
  inj := fun i j a q => by cases q
  dw := fun a q => by
    obtain ⟨t, h1, h2, h3⟩ := m.dw a q
    refine ⟨t, h1, ?_, h3⟩
    show lendF W s H a = none
    cases e : lendF W s H a with
    | none => rfl
    | some u =>
      rcases lendF_cases e with h | ⟨_, _, n, xs, hα, _⟩
      · rw [h2] at h; cases h
      · exact absurd q (m.al n a hα).2.2.1
  dn := m.dn
  nf := fun a o q => .inl q
  lz := m.lz
  gf := fun a o q => by
    rcases lendF_cases q with h | ⟨_, h, _⟩
    · by_cases l : a ∈ W.lk
      · obtain ⟨ks, od, _, h2⟩ := m.lk a l
        exact ⟨_, strip_of h2 fun ts z => by cases z⟩
      · exact ⟨_, strip_of (m.fz a o h l) fun ts z => m.tx.fn a ts (by rw [h, z])⟩
    · exact ⟨_, strip_of h fun ts z => m.lendN a ts (q.trans (congrArg some z))⟩
  tx := ⟨m.tx.tb, m.lendN, fun a ts z => (strip_some z).2 ts rfl, (fun n a q => by cases q), fun b u _ z => z⟩
theorem M.back {W' : Wd} {s' : Sd} {σ' : L2.St} {H' : Hp} (m : M w G W s σ H) (e : ExtF ⟨lendF W s H, fun _ => none, W.lk⟩ W') (m' : M w ⟨strip H, lendF W s H, G.δ, G.z, NoCode w.T H⟩ W' s' σ' H') : M w G W { s with d := s'.d } σ H' := by
  have lk' : W'.lk = W.lk := e.2
  have fr : ∀ b o, strip H b = some o → G.δ ≠ some b → b ∉ W.lk → H' b = some o := fun b o q h l => m'.fr b o q h (by rw [lk']; exact l)
  have st : ∀ {n : Nat} {a : Addr} {u : HO}, W.α n = some a → H a = some u → strip H a = some u := fun {n a u} q h => strip_of h fun ts z => (m.tx.an n a q).1 ts (by rw [h, z])
  have lkδ : ∀ a ∈ W.lk, G.δ ≠ some a := fun a l z => by
    obtain ⟨_, _, e, _⟩ := m.dw a z
    obtain ⟨_, _, e2, _⟩ := m.lk a l
    rw [e] at e2
    cases e2
  have Fδ : ∀ a o, W.F a = some o → G.δ ≠ some a := fun a o q z => by
    obtain ⟨_, _, e, _⟩ := m.dw a z
    rw [e] at q
    cases q
  refine ⟨fun a o q l => fr a o (strip_of (m.fz a o q l) fun ts z => m.tx.fn a ts (by rw [q, z])) (Fδ a o q) l, fun a l => ?_, fun b o q h l => fr b o (strip_of (m.fr b o q h l) fun ts z => m.tx.gn b ts (by rw [q, z])) h l, m.len, m.sl, fun n o q => ?_, fun n a q => ?_, m.inj, fun a q => ?_, m'.dn, m.nf, m.gf, m'.lz, ⟨m'.tx.tb, m.tx.fn, m.tx.gn, fun n a q => ?_, fun b u q z => ?_⟩⟩
  · obtain ⟨ks, od, h1, h2⟩ := m.lk a l
    obtain ⟨ks', od', h1', h2'⟩ := m'.lk a (by rw [lk']; exact l)
    have := e.1 a _ (lendF_old h1)
    rw [h1'] at this
    obtain rfl := HO.dK.inj (Option.some.inj this)
    exact ⟨_, od', h1, h2'⟩
  · obtain ⟨a, h1, h2, h3⟩ := m.ob n o q
    obtain ⟨_, _, h4, u, h5⟩ := m.al n a h1
    have l : a ∉ W.lk := fun z => by
      obtain ⟨_, _, e2, _⟩ := m.lk a z
      rw [h2] at e2
      cases e2
    exact ⟨a, h1, h2, h3.stay (Ext.refl W) ((fr a u (st h1 h5) h4 l).trans h5.symm)⟩
  · obtain ⟨h1, h2, h3, u, h5⟩ := m.al n a q
    by_cases l : a ∈ W.lk
    · obtain ⟨ks', od', _, e4⟩ := m'.lk a (by rw [lk']; exact l)
      exact ⟨h1, h2, h3, _, e4⟩
    exact ⟨h1, h2, h3, u, fr a u (st q h5) h3 l⟩
  · obtain ⟨t, h1, h2, n, k, c, h3, h4⟩ := m'.dw a q
    obtain ⟨t0, g1, g2, _⟩ := m.dw a q
    exact ⟨t, h1, g2, n, k, c, h3, h4⟩
  · obtain ⟨_, _, h3, u, h5⟩ := m.al n a q
    refine ⟨fun ts z => ?_, m'.tx.gc a u (st q h5) (m.tx.an n a q).2⟩
    by_cases l : a ∈ W.lk
    · obtain ⟨ks', od', _, e4⟩ := m'.lk a (by rw [lk']; exact l)
      rw [e4] at z
      cases z
    · exact (m.tx.an n a q).1 ts (by rw [h5, ← fr a u (st q h5) h3 l, z])
  · have n := m.tx.gc b u q z
    by_cases d : G.δ = some b
    · obtain ⟨_, _, _, _, _, _, e, _⟩ := m.dw b d
      exact m'.tx.gc b _ (strip_of e fun ts z => by cases z) n
    · by_cases l : b ∈ W.lk
      · obtain ⟨_, _, _, e2⟩ := m.lk b l
        exact m'.tx.gc b _ (strip_of e2 fun ts z => by cases z) n
      · exact m'.tx.gc b u (strip_of (m.fr b u q d l) fun ts z => m.tx.gn b ts (by rw [q, z])) n
end
end Dt


set_option autoImplicit false
set_option Elab.async false
set_option autoImplicit false
set_option linter.all false
set_option maxRecDepth 100000
set_option maxHeartbeats 4000000
/-! The data layer: lending, repr of anything, dicts that are walked, index. -/
namespace Dt
open PySem PySem.Spec L2 Kt
section
variable {w : Ww}
/-! ### lending -/
def uLendT (u : TTd) : TTd := fun s q => ∃ r', Lent s.o s.r r' ∧ u ⟨r', [], s.d⟩ fun b s1 => q b { s with d := s1.d }
theorem abt_lend {t : TT} {u : TTd} (h : AbT w t u) : AbT w t (uLendT u) := fun G W s σ H Q q m k ⟨r', hl, hu⟩ =>
  h _ _ _ σ H Q _ (m.lend hl) (fun W' s' H' b e m' h' => k W { s with d := s'.d } H' b (Ext.refl W) (m.back e.f m') h') hu
def flatD : PyData → Bool
  | .none => true
  | .bool _ => true
  | .int _ => true
  | .str _ => true
  | _ => false
def dFlat (x : Vd) (k : PyData → Prop) : Prop := match x with
  | .d x => flatD x = true ∧ k x
  | _ => False
theorem flat_rep {F F' : Hp} {v : V} {x : PyData} (r : Rep F v x) (h : flatD x = true) : Rep F' v x := by
  match x, h with
  | .none, _ => cases r; exact .non
  | .bool b, _ => cases r; exact .bl b
  | .int b, _ => cases r; exact .int b
  | .str b, _ => cases r; exact .str b
def uLendE (u : TEd) : TEd := fun s q => ∃ r', Lent s.o s.r r' ∧ u ⟨r', [], s.d⟩ fun x s1 => dFlat x fun y => q (.d y) { s with d := s1.d }
theorem ab_lend {t : TE} {u : TEd} (h : AbE w t u) : AbE w t (uLendE u) := fun G W s σ H Q q m k ⟨r', hl, hu⟩ =>
  h _ _ _ σ H Q _ (m.lend hl) (fun W' s' H' v x e m' rx h' => by
    match x, h' with
    | .d y, ⟨hf, h'⟩ => exact k W { s with d := s'.d } H' v (.d y) (Ext.refl W) (m.back e.f m') (flat_rep rx hf) h') hu
/-! ### repr -/
def rReprN : List V → Hp → VK → Prop := fun vs H Q => (vs = [.non] ∧ Q (.str "None") H) ∨ ∃ b, vs = [.bl b] ∧ Q (.str (if b then "True" else "False")) H
theorem cr_reprN {X : Cx} : CallR X (.builtin "repr") rReprN := by
  intro pins s σ H vs us Q I r h
  rcases h with ⟨rfl, q⟩ | ⟨b, rfl, q⟩
  · obtain ⟨u, rfl, r2⟩ := vals1 r
    obtain rfl : u = Value.none := r2
    exact PySem.P.repr_of_none ⟨.str _, H, I.tok _, ⟨_, rfl⟩, q⟩
  · obtain ⟨u, rfl, r2⟩ := vals1 r
    obtain rfl : u = Value.bool b := r2
    exact PySem.P.repr_of_bool ⟨.str _, H, I.tok _, ⟨_, rfl⟩, q⟩
def rReprU (K : PySem.W.Frag) : List V → Hp → VK → Prop := fun vs H Q => rReprD K vs H Q ∨ rReprN vs H Q
theorem cr_reprU {X : Cx} (gu : X.A.guards = some []) (hu : X.A.units + 64 < cLine) : CallR X (.builtin "repr") (rReprU X.K) := callR_or (call_reprD gu hu) cr_reprN
def dReprU : List Vd → TEd := fun xs s q => d1 xs fun x => match x with
  | .d .none => q (.d (.str "None")) s
  | .d (.bool b) => q (.d (.str (if b then "True" else "False"))) s
  | x => dRepr [x] s q
theorem abc_reprU {K : PySem.W.Frag} : AbC w (rReprU K) dReprU := fun G W s σ H vs xs Q q M1 r k h => by
  have r0 := r
  obtain ⟨v, x, rfl, rfl, r, h⟩ := d1_of r h
  match x, r, r0, h with
  | .d .none, r, _, h => cases r; exact .inr (.inl ⟨rfl, k.md M1 (.str _) h⟩)
  | .d (.bool b), r, _, h => cases r; exact .inr (.inr ⟨b, rfl, k.md M1 (.str _) h⟩)
  | .d (.int i), r, r0, h => exact .inl (abc_repr G W s σ H _ _ Q q M1 r0 k h)
  | .d (.str i), r, r0, h => exact .inl (abc_repr G W s σ H _ _ Q q M1 r0 k h)
  | .d (.list i), r, r0, h => exact .inl (abc_repr G W s σ H _ _ Q q M1 r0 k h)
  | .d (.tuple i), r, r0, h => exact .inl (abc_repr G W s σ H _ _ Q q M1 r0 k h)
  | .d (.dict i), r, r0, h => exact .inl (abc_repr G W s σ H _ _ Q q M1 r0 k h)
  | .dc i, r, r0, h => exact .inl (abc_repr G W s σ H _ _ Q q M1 r0 k h)
  | .p i, r, r0, h => exact .inl (abc_repr G W s σ H _ _ Q q M1 r0 k h)
  | .dr, r, r0, h => exact .inl (abc_repr G W s σ H _ _ Q q M1 r0 k h)
/-! ### index -/
def uIndex (ux : TEd) (ua : TAd) : TEd := fun s q => ux s fun x s1 => match x with
  | .d (.list ds) => ua s1 fun ys s2 => ∃ (ns : List Int) (k : Int) (j : Nat), ds = ns.map PyData.int ∧ ys = [.d (.int k)] ∧ ns[j]? = some k ∧ (∀ i, i < j → ns[i]? ≠ some k) ∧ q (.d (.int j)) s2
  | _ => False
theorem eqV_int (a b : Int) : eqV (.int a) (.int b) = decide (a = b) := by
  have := inV_ints a [b]
  by_cases h : a = b
  · subst h; simp [eqV]
  · simp [eqV, h]
theorem ab_index {K : PySem.W.Frag} {to : TE} {t : TA} {ux : TEd} {ua : TAd} (hx : AbE w to ux) (ha : AbA w t ua) : AbE w (tBM K "list" (rIndex K) to t) (uIndex ux ua) := fun G W s σ H Q q M1 k h => by
  refine hx G W s σ H _ _ M1 (fun W1 s1 H1 v x e1 m1 r1 h1 => ?_) h
  match x, r1, h1 with
  | .d (.list ds), r1, h1 =>
    cases r1 with
    | @lst a vs _ e t1 =>
      refine ⟨.inl ⟨rfl, _, SqL.of (m1.fz' _ _ ⟨_, .inl rfl⟩ e)⟩, ha G W1 s1 σ H1 _ _ m1 (fun W2 s2 H2 us ys e2 m2 r2 ⟨ns, i, j, hd, hy, hj, hno, h2⟩ => ?_) h1⟩
      subst hd hy
      obtain rfl := RepA.ofInts t1
      cases r2 with
      | cons ry rt =>
        cases rt
        cases ry
        refine ⟨a, ns.map V.int, .int i, j, .int i, rfl, rfl, SqL.of (m2.fz' _ _ ⟨_, .inl rfl⟩ (e2.1 _ _ e)), rfl, flat_ns ns, by rw [List.getElem?_map, hj]; rfl, by rw [eqV_int]; exact decide_eq_true rfl, fun m z hm hz => ?_, (k.up (e1.trans e2)).md m2 (.int _) h2⟩
        obtain ⟨n, hn, rfl⟩ := map_get hz
        rw [eqV_int]
        exact decide_eq_false fun z => hno m hm (by rw [← z]; exact hn)
/-! ### dicts -/
def lookD : List (Int × PyData) → Int → Option PyData
  | [], _ => none
  | e :: t, k => if e.1 = k then some e.2 else lookD t k
theorem repK_val {F : Hp} {ks : List (L2.Key × V)} {kvs : List (Int × PyData)} {k : Int} {d : PyData} (r : RepK F ks kvs) (h : lookD kvs k = some d) : ∃ v, valV ks (Sum.inl k) = some v ∧ Rep F v d := by
  induction r with
  | nil => cases h
  | @cons a v e ks kvs r t ih =>
    unfold lookD at h
    by_cases z : a = k
    · rw [if_pos z] at h
      obtain rfl := Option.some.inj h
      exact ⟨v, valV_pos (by show (Sum.inl a : L2.Key) = _; rw [z]), r⟩
    · rw [if_neg z] at h
      obtain ⟨u, h1, h2⟩ := ih h
      exact ⟨u, (valV_neg (fun y => z (Sum.inl.inj y))).trans h1, h2⟩
theorem repK_get {F : Hp} {ks : List (L2.Key × V)} {kvs : List (Int × PyData)} (r : RepK F ks kvs) {i : Nat} {k : L2.Key} {v : V} (h : ks[i]? = some (k, v)) : ∃ a d, kvs[i]? = some (a, d) ∧ k = Sum.inl a ∧ Rep F v d := by
  induction r generalizing i with
  | nil => simp at h
  | cons r t ih =>
    cases i with
    | zero => simp at h; obtain ⟨rfl, rfl⟩ := h; exact ⟨_, _, rfl, rfl, r⟩
    | succ i => exact ih (by simpa using h)
/-- d[k] of a frozen dict -/
def uDGet (ux uy : TEd) : TEd := fun s q => ux s fun x s1 => uy s1 fun y s2 => dInt y fun k => match x with
  | .dc kvs => ∃ d, lookD kvs k = some d ∧ q (.d d) s2
  | _ => False
theorem M.rd {G : Gm} {W : Wd} {s : Sd} {σ : L2.St} {H : Hp} (m : M w G W s σ H) {a : Addr} {ks : List (L2.Key × V)} (h : W.F a = some (.dK ks)) : Rd H a (.dK ks) := by
  by_cases l : a ∈ W.lk
  · obtain ⟨ks', od, h1, h2⟩ := m.lk a l
    rw [h] at h1
    obtain rfl := HO.dK.inj (Option.some.inj h1)
    exact .inr ⟨od, h2⟩
  · exact .inl (m.fz a _ h l)
theorem ab_dget {tx ty : TE} {ux uy : TEd} (hx : AbE w tx ux) (hy : AbE w ty uy) : AbE w (tDGet tx ty) (uDGet ux uy) := fun G W s σ H Q q m k h => by
  refine hx G W s σ H _ _ m (fun W1 s1 H1 v x e1 m1 r1 h1 => ?_) h
  refine hy G W1 s1 σ H1 _ _ m1 (fun W2 s2 H2 v' y e2 m2 r2 h2 => ?_) h1
  obtain ⟨i, rfl, rfl, h2⟩ := dInt_of r2 h2
  match x, r1.ext e2, h2 with
  | .dc kvs, ⟨a, ks, hv, hF, rK⟩, ⟨d, hd, h2⟩ =>
    subst hv
    obtain ⟨u, hu, ru⟩ := repK_val rK hd
    exact ⟨a, u, rfl, .inl ⟨ks, Sum.inl i, m2.rd hF, rfl, hu.symm⟩, (k.up (e1.trans e2)).md m2 ru h2⟩
/-! ### where no dict is walked -/
variable (w) in
def AbE0 (t : TE) (u : TEd) : Prop := ∀ (G : Gm) (W : Wd) (s : Sd) (σ : L2.St) (H : Hp) (Q : VK) (q : Vd → Sd → Prop), W.lk = [] → M w G W s σ H → Ko w G W σ Q q → u s q → t σ H Q
variable (w) in
def AbS0 (t : TS) (u : TSd) : Prop := ∀ (G : Gm) (W : Wd) (s : Sd) (σ : L2.St) (H : Hp) (D : Ends) (E : Ed), W.lk = [] → M w G W s σ H → Le w G W D E → u E s → t D σ H
theorem abs_any {t : TS} {u : TSd} (h : AbS w t u) : AbS0 w t u := fun G W s σ H D E _ m l hu => h G W s σ H D E m l hu
theorem ab_any {t : TE} {u : TEd} (h : AbE w t u) : AbE0 w t u := fun G W s σ H Q q _ m k hu => h G W s σ H Q q m k hu
theorem abs_seq0 {t t' : TS} {u u' : TSd} (h : AbS0 w t u) (h' : AbS0 w t' u') : AbS0 w (tSeq t t') (sSeq u u') := fun G W s σ H D E z m l hu =>
  h G W s σ H _ { E with nx := u' E } z m ⟨fun W1 s1 σ1 H1 e1 m1 h1 => h' G W1 s1 σ1 H1 D E (e1.2.trans z) m1 (l.up e1) h1, l.rt, l.bk, l.ct⟩ hu
theorem abs_asg0 {t : TE} {g : TG} {u : TEd} {gd : TGd} (h : AbE0 w t u) (hg : AbG w g gd) : AbS0 w (tAsg t g) (sAsg u gd) := fun G W s σ H D E z m l hu =>
  h G W s σ H _ _ z m (fun W1 s1 H1 v x e1 m1 r1 h1 => hg G W1 s1 σ H1 v x _ _ m1 r1 (l.nx.up e1.f).g h1) hu
theorem fnD_of0 {P : Program} {K : PySem.W.Frag} {mg : Str → Option Value} {base : Heap} {x qual : Str} {st : Stmt} {f : Addr} {fd : FuncData} {N ps : List Str} {k : Nat} {sp : Spd} (F : Fun K x qual st f fd) (S : FnScope N ps (defScope st))
    (ar : ∀ xs dr q, sp xs dr q → xs.length = ps.length)
    (body : ∀ (cdv : Value) (A : Around) (below : List Env) (s : Shared) (H : Hp), Room k (A.deeper (PyProof.Rows.envOfC qual (defScope st) s.heap.objs.size f cdv)) → A.guards = some [] →
      ∃ t u, PSs (cxOf CX0 P w.w K mg base N qual (defScope st) f cdv A below s H E0).nox (defBody st) t ∧ AbS0 w t u ∧ ∀ xs dr q, sp xs dr q → u (endD q) (startD N xs dr)) : FnD P w K mg base (k + 1) f fd ps sp := by
  refine fnG_of F S (fun vs H Q h => ?_) (fun cdv A below s H vs Q hr hg h => ?_)
  · obtain ⟨δ, F, xs, dr, q, _, _, r, h, _⟩ := h
    rw [r.length]
    exact ar xs dr q h
  · obtain ⟨δ, F, xs, dr, q, h1, h2, r, h, k⟩ := h
    obtain ⟨t, u, ht, hu, hb⟩ := body cdv A below s H hr hg
    exact ⟨t, ht, hu _ _ _ _ _ _ _ rfl (start_m h1 h2 r k.1) (end_le k) (hb xs dr q h)⟩
/-! ### [.. for k in d ..], d a frozen dict of ints -/
def keysD (kvs : List (Int × PyData)) : List PyData := kvs.map fun e => .int e.1
def uIKeys (i : Nat) : TId := fun s q => ∃ kvs, s.r[i]? = some (some (.dc kvs)) ∧ q (keysD kvs) s
theorem jl_keys {G : Gm} {W : Wd} {a : Addr} {ks : List (L2.Key × V)} {kvs : List (Int × PyData)} {o : Obj} (hF : W.F a = some (.dK ks)) (r : RepK W.F ks kvs) (hs : ∀ G' W' s σ H, Gs G G' → ExtF W W' → M w G' W' s σ H → H a = some (.frz o (.dK ks))) : JL w G W (Itk a o ks) (keysD kvs) where
  go := fun G' W' s σ H i hd e m hi => ⟨hs G' W' s σ H hd e m, by unfold keysD at hi; rw [List.length_map] at hi; rw [r.len]; exact hi⟩
  stop := fun G' W' s σ H hd e m => ⟨hs G' W' s σ H hd e m, by unfold keysD; rw [List.length_map, r.len]; exact Nat.le_refl _⟩
  yld := fun G' W' s σ H i v H' _ e m hi ⟨h1, k, u, h2, h3⟩ => by
    obtain ⟨b, d, hb, rfl, _⟩ := repK_get r h2
    subst h1 h3
    exact ⟨W', .int b, by unfold keysD; rw [List.getElem?_map, hb]; rfl, Ext.refl W', m, .int b⟩
theorem repOb_lk {W : Wd} {l : List Addr} {δ : Option Addr} {H : Hp} {a : Addr} : ∀ {o : Ob}, RepOb w W δ H a o → RepOb w { W with lk := l } δ H a o
  | .lst xs, ⟨vs, h1, h2⟩ => ⟨vs, h1, Paired.mapP h2 fun v x h => by
    match x, h with
    | .d x, h => exact h
    | .dc kvs, h => exact h
    | .p n, h => exact h
    | .dr, h => exact h⟩
  | .dk kvs, h => h
  | .st S n, h => h
theorem repV_lk {W : Wd} {l : List Addr} {δ : Option Addr} {v : V} : ∀ {x : Vd}, RepV W δ v x → RepV { W with lk := l } δ v x
  | .d x, h => h
  | .dc kvs, h => h
  | .p n, h => h
  | .dr, h => h
theorem M.lockD {G : Gm} {W : Wd} {s : Sd} {σ : L2.St} {H : Hp} {a : Addr} {ks : List (L2.Key × V)} {od : Obj} (m : M w G W s σ H) (z : W.lk = []) (hF : W.F a = some (.dK ks)) : M w { G with z := upd G.z a (.frz od (.dK ks)) } { W with lk := [a] } s σ (upd H a (.frz od (.dK ks))) := by
  have nl : ∀ b, b ∉ W.lk := fun b l => by rw [z] at l; cases l
  refine ⟨fun b o q l => (upd_ne fun y => l (by rw [y]; exact List.mem_singleton.mpr rfl)).trans (m.fz b o q (nl b)), fun b l => ?_, fun b o q h l => (upd_ne fun y => l (by rw [y]; exact List.mem_singleton.mpr rfl)).trans (m.fr b o q h (nl b)), m.len, fun i x q => ?_, fun n o q => ?_, fun n b q => ?_, m.inj, fun b q => ?_, m.dn, m.nf, m.gf, fun b o u q => ?_, m.tx.updO (m.fz a _ hF (nl a)) (fun ts z => by cases z) (fun c q z => by cases z) (fun ts z => by cases z)⟩
  · obtain rfl := List.mem_singleton.mp l
    exact ⟨ks, od, hF, upd_same⟩
  · obtain ⟨v, h1, h2⟩ := m.sl i x q
    exact ⟨v, h1, repV_lk h2⟩
  · obtain ⟨b, h1, h2, h3⟩ := m.ob n o q
    exact ⟨b, h1, h2, repOb_lk (h3.stay (Ext.refl W) (upd_ne fun y => by rw [y, hF] at h2; cases h2))⟩
  · obtain ⟨h0, h1, h2, u, h3⟩ := m.al n b q
    by_cases y : b = a
    · exact ⟨h0, h1, h2, _, by rw [y]; exact upd_same⟩
    · exact ⟨h0, h1, h2, u, (upd_ne y).trans h3⟩
  · obtain ⟨t, h1, h2, n, k, c, h3, h4⟩ := m.dw b q
    exact ⟨t, h1, h2, n, k, c, (upd_ne (show b ≠ a from fun y => by rw [y, hF] at h2; cases h2)).trans h3, h4⟩
  · have q' : upd G.z a (.frz od (.dK ks)) b = some (.frz o u) := q
    by_cases y : b = a
    · subst y
      rw [upd_same] at q' ⊢
      exact q'
    · rw [upd_ne y] at q' ⊢
      exact m.lz b o u q'
theorem M.openD {G : Gm} {W : Wd} {s : Sd} {σ : L2.St} {H : Hp} {a : Addr} {ks : List (L2.Key × V)} {od : Obj} (m : M w { G with z := upd G.z a (.frz od (.dK ks)) } W s σ H) (z : W.lk = [a]) (hF : W.F a = some (.dK ks)) (hG : ∀ o, G.h a = some o → o = .dK ks) (hz : ∀ od u, G.z a ≠ some (.frz od u)) : M w G { W with lk := [] } s σ (upd H a (.dK ks)) := by
  have nl : ∀ b, b ≠ a → b ∉ W.lk := fun b h l => by rw [z] at l; exact h (List.mem_singleton.mp l)
  refine ⟨fun b o q l => ?_, fun b l => absurd l (List.not_mem_nil), fun b o q h l => ?_, m.len, fun i x q => ?_, fun n o q => ?_, fun n b q => ?_, m.inj, fun b q => ?_, m.dn, m.nf, m.gf, fun b o u q => ?_, by
    obtain ⟨_, _, _, h2⟩ := m.lk a (by rw [z]; exact List.mem_singleton.mpr rfl)
    exact m.tx.updO h2 (fun ts z => by cases z) (fun c q z => by cases z) (fun ts z => by cases z)⟩
  · by_cases y : b = a
    · subst y
      have q' : W.F b = some o := q
      rw [hF] at q'
      rw [upd_same]
      exact q'
    · exact (upd_ne y).trans (m.fz b o q (nl b y))
  · by_cases y : b = a
    · subst y
      rw [upd_same, hG o q]
    · exact (upd_ne y).trans (m.fr b o q h (nl b y))
  · obtain ⟨v, h1, h2⟩ := m.sl i x q
    exact ⟨v, h1, repV_lk h2⟩
  · obtain ⟨b, h1, h2, h3⟩ := m.ob n o q
    exact ⟨b, h1, h2, repOb_lk (h3.stay (Ext.refl W) (upd_ne fun y => by rw [y, hF] at h2; cases h2))⟩
  · obtain ⟨h0, h1, h2, u, h3⟩ := m.al n b q
    by_cases y : b = a
    · exact ⟨h0, h1, h2, _, by rw [y]; exact upd_same⟩
    · exact ⟨h0, h1, h2, u, (upd_ne y).trans h3⟩
  · obtain ⟨t, h1, h2, n, k, c, h3, h4⟩ := m.dw b q
    exact ⟨t, h1, h2, n, k, c, (upd_ne (show b ≠ a from fun y => by rw [y, hF] at h2; cases h2)).trans h3, h4⟩
  · have ne : b ≠ a := fun y => hz o u (by rw [← y]; exact q)
    exact (upd_ne ne).trans (m.lz b o u (by show upd G.z a _ b = _; rw [upd_ne ne]; exact q))
theorem ab_lcD (m : Bool) (i : Nat) {g : TG} {tt : TT} {te : TE} {vs : List Nat} {gd : TGd} {ut : TTd} {ue : TEd} (hg : AbG w g gd) (hk : TgOk vs g) (ht : AbT w tt ut) (he : AbE w te ue) : AbE0 w (tLockE (tLc (iKeys (tVar i)) g tt te vs)) (uLc m (uIKeys i) gd ut ue vs) := fun G W s σ H Q q z M0 k hu => by
  have hu' := hu
  unfold uLc at hu'
  obtain ⟨kvs, hs, _⟩ := hu'
  obtain ⟨v, hv, a, ks, rfl, hF, rK⟩ := M0.sl i _ hs
  have nl : ∀ b, b ∉ W.lk := fun b l => by rw [z] at l; cases l
  have hH := M0.fz a _ hF (nl a)
  have hd : G.δ ≠ some a := fun y => by
    obtain ⟨_, _, e, _⟩ := M0.dw a y
    rw [e] at hF
    cases hF
  have hG : ∀ o, G.h a = some o → o = .dK ks := fun o q => by
    have := M0.fr a o q hd (nl a)
    rw [hH] at this
    exact (Option.some.inj this).symm
  have hz : ∀ od u, G.z a ≠ some (.frz od u) := fun od u q => by
    have := M0.lz a od u q
    rw [hH] at this
    cases this
  refine ⟨a, .dK ks, hH, trivial, fun od => ?_⟩
  have m1 := M0.lockD (od := od) z hF
  have opn : ∀ {W' : Wd} {s' : Sd} {H' : Hp}, Ext { W with lk := [a] } W' → M w { G with z := upd G.z a (.frz od (.dK ks)) } W' s' σ H' → H' a = some (.frz od (.dK ks)) ∧ Ext W { W' with lk := [] } ∧ M w G { W' with lk := [] } s' σ (upd H' a (.dK ks)) := fun {W' s' H'} e m' =>
    ⟨m'.lz a od _ (by show upd G.z a _ a = _; rw [upd_same]), ⟨e.1, e.2.1, z.symm⟩, m'.openD e.2.2 (e.1 _ _ hF) hG hz⟩
  refine lc_at m hg hk ht he m1 (q := q) (fun W' s' H' v x e m' r h => ?_) (fun R qI hR h => ?_) hu
  · obtain ⟨h1, h2, h3⟩ := opn e m'
    exact ⟨h1, k _ s' _ v x h2 h3 (repV_lk r) h⟩
  · obtain ⟨kvs', hs', h⟩ := h
    rw [hs] at hs'
    obtain rfl := Vd.dc.inj (Option.some.inj (Option.some.inj hs'))
    exact ⟨_, hv, a, od, rfl, .inl ⟨ks, upd_same, hR _ s _ _ _ (Ext.refl _) m1 (jl_keys (W := { W with lk := [a] }) hF rK fun G' W' s' σ' H' g e m' => m'.lz a od _ (by rw [g.2]; show upd G.z a _ a = _; rw [upd_same])) h⟩⟩
theorem abs_lockLc (m : Bool) (i j : Nat) {g : TG} {tt : TT} {te : TE} {vs : List Nat} {gd : TGd} {ut : TTd} {ue : TEd} (hg : AbG w g gd) (hk : TgOk vs g) (ht : AbT w tt ut) (he : AbE w te ue) : AbS0 w (tLock (tAsg (tLc (iKeys (tVar i)) g tt te vs) (gName j))) (sAsg (uLc m (uIKeys i) gd ut ue vs) (gdName j)) := fun G W s σ H D E z M0 l hu => by
  have hu' := hu
  unfold sAsg uLc at hu'
  unfold sAsg at hu
  obtain ⟨kvs, hs, _⟩ := hu'
  obtain ⟨v, hv, a, ks, rfl, hF, rK⟩ := M0.sl i _ hs
  have nl : ∀ b, b ∉ W.lk := fun b l => by rw [z] at l; cases l
  have hH := M0.fz a _ hF (nl a)
  have hd : G.δ ≠ some a := fun y => by
    obtain ⟨_, _, e, _⟩ := M0.dw a y
    rw [e] at hF
    cases hF
  have hG : ∀ o, G.h a = some o → o = .dK ks := fun o q => by
    have := M0.fr a o q hd (nl a)
    rw [hH] at this
    exact (Option.some.inj this).symm
  have hz : ∀ od u, G.z a ≠ some (.frz od u) := fun od u q => by
    have := M0.lz a od u q
    rw [hH] at this
    cases this
  refine ⟨a, .dK ks, hH, trivial, fun od => ?_⟩
  have m1 := M0.lockD (od := od) z hF
  have opn : ∀ {W' : Wd} {s' : Sd} {H' : Hp}, Ext { W with lk := [a] } W' → M w { G with z := upd G.z a (.frz od (.dK ks)) } W' s' σ H' → H' a = some (.frz od (.dK ks)) ∧ Ext W { W' with lk := [] } ∧ M w G { W' with lk := [] } s' σ (upd H' a (.dK ks)) := fun {W' s' H'} e m' =>
    ⟨m'.lz a od _ (by show upd G.z a _ a = _; rw [upd_same]), ⟨e.1, e.2.1, z.symm⟩, m'.openD e.2.2 (e.1 _ _ hF) hG hz⟩
  refine lc_at m hg hk ht he m1 (q := fun x s1 => gdName j x s1 E.nx) (fun W' s' H' v x e m' r h => ?_) (fun R qI hR h => ?_) hu
  · obtain ⟨h1, h2, h3⟩ := opn e m'
    exact ⟨h1, l.nx _ _ _ _ h2.f (h3.slot (repV_lk r)) h⟩
  · obtain ⟨kvs', hs', h⟩ := h
    rw [hs] at hs'
    obtain rfl := Vd.dc.inj (Option.some.inj (Option.some.inj hs'))
    exact ⟨_, hv, a, od, rfl, .inl ⟨ks, upd_same, hR _ s _ _ _ (Ext.refl _) m1 (jl_keys (W := { W with lk := [a] }) hF rK fun G' W' s' σ' H' g e m' => m'.lz a od _ (by rw [g.2]; show upd G.z a _ a = _; rw [upd_same])) h⟩⟩
/-- data, or an own list that is read for good -/
def uIceOr (i : Nat) : TEd := fun s q => (∃ x, s.r[i]? = some (some (.d x)) ∧ q (.d x) s) ∨ uIce i s q
theorem ab_iceor (i : Nat) : AbE w (tVar i) (uIceOr i) := fun G W s σ H Q q m k h => by
  rcases h with ⟨x, hx, h⟩ | h
  · exact ab_var i G W s σ H Q q m k ⟨_, hx, h⟩
  · exact ab_ice i G W s σ H Q q m k h
end
end Dt


set_option autoImplicit false
set_option Elab.async false
set_option autoImplicit false
set_option linter.all false
set_option maxRecDepth 100000
set_option maxHeartbeats 4000000
/-! The data layer: a call with draws made on the spot. -/
namespace Dt
open PySem PySem.Spec L2 Kt
def NewDr (sp : Sp) : Prop := ∀ (c : Int) (H : Hp) (Q : VK) (E : XK), (∀ p n (b : Bool), H p = none → Q (.ref p) (upd H p (DrO n 0 b))) → sp [.int c] H Q E
def isD : Vd → Bool
  | .d _ => true
  | _ => false
def uCallNew (m : Bool) (sp : Spd) (ua : TAd) : TEd := fun s q => s.d = none ∧ ua s fun xs s1 => s1.d = none ∧ xs.all isD = true ∧ sp (.dr :: xs) (some 0) fun r _ => mkR m r s1 q
section
variable {w : Ww}
theorem repV_δ {W : Wd} {δ δ' : Option Addr} (h : δ = none) {v : V} : ∀ {x : Vd}, RepV W δ v x → RepV W δ' v x
  | .d x, q => q
  | .dc kvs, q => q
  | .p n, q => q
  | .dr, ⟨a, _, q⟩ => by rw [h] at q; cases q
theorem repOb_δ {W : Wd} {δ δ' : Option Addr} {H : Hp} {a : Addr} (h : δ = none) : ∀ {o : Ob}, RepOb w W δ H a o → RepOb w W δ' H a o
  | .lst xs, ⟨vs, h1, h2⟩ => ⟨vs, h1, Paired.mapP h2 fun _ _ q => repV_δ h q⟩
  | .dk kvs, q => q
  | .st S n, q => q
theorem isD_noP {xs : List Vd} (h : xs.all isD = true) : (Vd.dr :: xs).all noP = true := by
  rw [List.all_cons]
  refine (Bool.and_eq_true _ _).mpr ⟨rfl, List.all_eq_true.mpr fun x hx => ?_⟩
  have := List.all_eq_true.mp h x hx
  match x, this with
  | .d _, _ => rfl
theorem ab_callNew (m : Bool) {sp0 : Sp} (h0 : NewDr sp0) {sp : Spd} {c : Int} {E1 : XK} {ta : TA} {ua : TAd} (ha : AbA w ta ua) : AbE w (tCall (liftSp w.T sp) [] E0 (tCons (tCall sp0 [] E1 (tCons (tC (.int c)) tNil)) ta)) (uCallNew m sp ua) := fun G W s σ H Q q m0 k ⟨hd, hu⟩ => by
  have δn : G.δ = none := by
    cases e : G.δ with
    | none => rfl
    | some a =>
      obtain ⟨t, h, _⟩ := m0.dw a e
      rw [hd] at h
      cases h
  refine h0 c H _ _ fun p n b hp => ?_
  have fr := m0.free hp
  have m1 := m0.same (same_upd (o := DrO n 0 b) hp)
  have m2 := m1.guard fr upd_same
  refine ha _ W s σ _ _ _ m2 (fun W2 s2 H2 vs xs e2 m3 r2 ⟨hd2, hall, h2⟩ => ?_) hu
  have hl : p ∉ W2.lk := by rw [e2.2.2]; exact fr.2.1
  have hF : W2.F p = none := by
    cases z : W2.F p with
    | none => rfl
    | some o =>
      rcases m3.nf p o z with h | h
      · obtain ⟨u, hu⟩ := m0.gf p o h
        rw [fr.2.2.1] at hu
        cases hu
      · have h' : upd G.h p (DrO n 0 b) p = none := h
        rw [upd_same] at h'
        cases h'
  obtain ⟨m4, u2, at2⟩ := m3.unguard fr.2.2.1 fr.2.2.2.1 hl hF m0.gf
  have M' : M w { G with δ := some p } W2 { s2 with d := some 0 } σ H2 :=
    ⟨m4.fz, m4.lk, fun b o q _ l => m4.fr b o q (by rw [δn]; intro z; cases z) l, m4.len, fun i x q => by
      obtain ⟨v, h1, h2⟩ := m4.sl i x q
      exact ⟨v, h1, repV_δ δn h2⟩, fun n o q => by
      obtain ⟨a, h1, h2, h3⟩ := m4.ob n o q
      exact ⟨a, h1, h2, repOb_δ δn h3⟩, fun n a q => by
      obtain ⟨h1, h2, h3, h4⟩ := m4.al n a q
      exact ⟨h1, h2, fun z => u2.2.2.2.2 n (by rw [q]; exact z.symm), h4⟩, m4.inj, fun a q => by
      obtain rfl : p = a := Option.some.inj q
      exact ⟨0, rfl, hF, n, 0, b, at2, Int.le_refl _, Int.le_refl _⟩, fun t _ => ⟨p, rfl⟩, m4.nf, m4.gf, m4.lz, m4.tx⟩
  have rr : Paired (RepV W2 (some p)) (V.ref p :: vs) (Vd.dr :: xs) := .cons ⟨p, rfl, rfl⟩ (Paired.mapP r2 fun _ _ q => repV_δ δn q)
  obtain ⟨p1, p2, p3⟩ := call_pre M' rr (isD_noP hall)
  show liftSp w.T sp ((V.ref p :: vs) ++ []) H2 Q E0
  rw [List.append_nil]
  refine ⟨some p, cutF W2, .dr :: xs, some 0, _, p1, p2, p3, h2, ⟨M'.tx.tb, fun a ts z => M'.tx.fn a ts (cutF_some z).2⟩, ?_⟩
  intro F' H' v x dr' h1 h2 h3 h4 h5 r ty h
  obtain ⟨W', e, m', hF', hU⟩ := call_post M' h1 h2 h3 h4 h5 ty
  have mB : M w G W' s2 σ H' :=
    ⟨m'.fz, m'.lk, fun b o q _ l => m'.fr b o q (fun z => by
      obtain rfl : p = b := Option.some.inj z
      rw [fr.2.2.1] at q
      cases q) l, m'.len, fun i x q => by
      obtain ⟨v, g1, g2⟩ := m4.sl i x q
      exact ⟨v, g1, g2.ext e⟩, fun n o q => by
      obtain ⟨a, g1, g2, g3⟩ := m4.ob n o q
      obtain ⟨a', f1, f2, _⟩ := m'.ob n o q
      obtain rfl := Option.some.inj ((e.2.1 _ _ g1).symm.trans f1)
      obtain ⟨_, _, _, u, g4⟩ := m4.al n a g1
      exact ⟨a, f1, f2, g3.stay e ((h4 a u (strip_of g4 fun ts z => (m4.tx.an n a g1).1 ts (by rw [g4, z])) (fun z => u2.2.2.2.2 n (by rw [g1]; exact z.symm))).trans g4.symm)⟩, fun n a q => by
      obtain ⟨g1, g2, _, g4⟩ := m'.al n a q
      exact ⟨g1, g2, (by rw [δn]; intro z; cases z), g4⟩, m'.inj, (fun a q => by rw [δn] at q; cases q), (fun t q => by rw [hd2] at q; cases q), m'.nf, m'.gf, m'.lz, m'.tx⟩
  have un : ∀ a, F' a = none → strip H2 a = none → Unc G W' a := fun a g1 g2 => by
    obtain ⟨f1, f2, f3, _, f5⟩ := hU a g1 g2
    exact ⟨f1, f2, f3, (by rw [δn]; intro z; cases z), f5⟩
  have k2 := k.up e2
  match x, r, h with
  | .d x, r, h => exact k2 W' _ H' v (.d x) e mB (Rep.mono (fun a o _ q => hF' a o q) x v r) h
  | .dc kvs, ⟨a, ks, q1, q2, q3⟩, h => exact k2 W' _ H' v (.dc kvs) e mB ⟨a, ks, q1, hF' _ _ q2, q3.mono fun a o _ q => hF' a o q⟩ h
  | .nl ds, ⟨a, vs, q1, q2, q3, q4, q5⟩, h =>
    subst q1
    exact mB.mkV m (un a q2 q3) q4 (of_repA (RepA.mono (fun a o _ q => hF' a o q) _ _ q5)) (k2.up e) (mkL_V h)
  | .nn xss, r, h => exact M.claimNN m mB hF' un (k2.up e) r h
  | .n3 xsss, r, h => exact M.claimN3 m mB hF' un (k2.up e) r h
/-- a state with nothing but the draws in slot i -/
theorem start_dr {H : Hp} (hT : LamX.Tabs w.T H) {σ : L2.St} {i n : Nat} {d : Addr} {k t m : Int} {c : Bool} (hl : σ.length = n) (hi : i < n) (hD : H d = some (DrO m k c)) (h0 : 0 ≤ k) (h1 : k ≤ t) : M w ⟨strip H, fun _ => none, some d, fun _ => none, NoCode w.T H⟩ ⟨fun _ => none, fun _ => none, []⟩ ⟨(List.replicate n none).set i (some .dr), [], some t⟩ (σ.set i (some (.ref d))) H where
  fz := fun a o q _ => by cases q
  lk := fun a l => by cases l
  fr := fun b o q _ _ => (strip_some q).1
  len := by
    show ((List.replicate n none).set i (some Vd.dr)).length = _
    rw [List.length_set, List.length_set, List.length_replicate, hl]
  sl := fun j x q => by
    have q' : ((List.replicate n none).set i (some Vd.dr))[j]? = some (some x) := q
    by_cases z : i = j
    · subst z
      rw [List.getElem?_set_self (by rw [List.length_replicate]; exact hi)] at q'
      obtain rfl := Option.some.inj (Option.some.inj q')
      exact ⟨.ref d, List.getElem?_set_self (by rw [hl]; exact hi), d, rfl, rfl⟩
    · rw [List.getElem?_set_ne z] at q'
      obtain ⟨h, e⟩ := List.getElem?_eq_some_iff.mp q'
      rw [List.getElem_replicate] at e
      cases e
  ob := fun n o q => by cases (show (([] : List (Option Ob))[n]? = some (some o)) from q)
  al := fun n a q => by cases q
  inj := fun m n a q => by cases q
  dw := fun a q => by
    obtain rfl : d = a := Option.some.inj q
    exact ⟨t, rfl, rfl, m, k, c, hD, h0, h1⟩
  dn := fun _ _ => ⟨d, rfl⟩
  nf := fun a o q => by cases q
  gf := fun a o q => by cases q
  lz := fun a o u q => by cases q
  tx := ⟨hT, (fun a ts z => by cases z), fun a ts z => (strip_some z).2 ts rfl, (fun n a q => by cases q), fun b u _ z => z⟩
/-- a state of which nothing is told -/
theorem start_no {H : Hp} (hT : LamX.Tabs w.T H) {σ : L2.St} {n : Nat} (hl : σ.length = n) : M w ⟨strip H, fun _ => none, none, fun _ => none, NoCode w.T H⟩ ⟨fun _ => none, fun _ => none, []⟩ ⟨List.replicate n none, [], none⟩ σ H where
  fz := fun a o q _ => by cases q
  lk := fun a l => by cases l
  fr := fun b o q _ _ => (strip_some q).1
  len := by show (List.replicate n none).length = _; rw [List.length_replicate, hl]
  sl := fun j x q => by
    have q' : (List.replicate n (none : Option Vd))[j]? = some (some x) := q
    obtain ⟨h, e⟩ := List.getElem?_eq_some_iff.mp q'
    rw [List.getElem_replicate] at e
    cases e
  ob := fun n o q => by cases (show (([] : List (Option Ob))[n]? = some (some o)) from q)
  al := fun n a q => by cases q
  inj := fun m n a q => by cases q
  dw := fun a q => by cases q
  dn := fun _ q => by cases q
  nf := fun a o q => by cases q
  gf := fun a o q => by cases q
  lz := fun a o u q => by cases q
  tx := ⟨hT, (fun a ts z => by cases z), fun a ts z => (strip_some z).2 ts rfl, (fun n a q => by cases q), fun b u _ z => z⟩
end
end Dt


set_option autoImplicit false
set_option Elab.async false
set_option autoImplicit false
set_option linter.all false
set_option maxRecDepth 100000
set_option maxHeartbeats 4000000
/-! The data layer: powers, shifts, bits; all. -/
namespace Dt
open PySem PySem.Spec L2 Kt
section
variable {w : Ww}
theorem abr_pow : AbR w (rI CPow fun i j => .int (i ^ j.toNat)) (dII CPow fun i j => .int (i ^ j.toNat)) := abr_I fun i j => .inl ⟨_, rfl, rfl⟩
theorem abr_shl : AbR w (rI CPow fun i j => .int (i * 2 ^ j.toNat)) (dII CPow fun i j => .int (i * 2 ^ j.toNat)) := abr_I fun i j => .inl ⟨_, rfl, rfl⟩
theorem abr_shr : AbR w (rI (fun _ j => 0 ≤ j) fun i j => .int (i / 2 ^ j.toNat)) (dII (fun _ j => 0 ≤ j) fun i j => .int (i / 2 ^ j.toNat)) := abr_I fun i j => .inl ⟨_, rfl, rfl⟩
theorem abr_and : AbR w (rI0 fun i j => .int (Builtin.bitAnd i j)) (dII0 fun i j => .int (Builtin.bitAnd i j)) := abr_I0 fun i j => .inl ⟨_, rfl, rfl⟩
theorem abr_or : AbR w (rI0 fun i j => .int (Builtin.bitOr i j)) (dII0 fun i j => .int (Builtin.bitOr i j)) := abr_I0 fun i j => .inl ⟨_, rfl, rfl⟩
def dInv : Vd → TEd := fun x s q => dInt x fun i => q (.d (.int (Builtin.bitNot i))) s
theorem abu_inv : AbU w (rU fun i => .int (Builtin.bitNot i)) dInv := fun G W s σ H v x Q q M1 r k h => by
  obtain ⟨i, rfl, rfl, h⟩ := dInt_of r h
  exact ⟨i, rfl, k.md M1 (.int _) h⟩
theorem ip_or {X : Cx} : PIp X .BitOr (ipI Builtin.bitOr) := by
  intro pins s σ H x y v u Q I r1 r2 h
  obtain ⟨i, j, e1, e2, q⟩ := h
  subst e1; subst e2
  obtain ⟨t, rfl⟩ := r1
  obtain ⟨t', rfl⟩ := r2
  exact PyProof.Rows.ior_int ⟨.int _, H, I.tok _, ⟨_, rfl⟩, q⟩
theorem RepA.ofBools {F : Hp} : ∀ {bs : List Bool} {vs : List V}, RepA F vs (bs.map PyData.bool) → vs = bs.map V.bl
  | [], _, h => by cases h; rfl
  | n :: ns, _, h => by
    cases h with
    | cons r t =>
      cases r
      rw [RepA.ofBools t]
      rfl
def dAll : List Vd → TEd := fun xs s q => d1 xs fun x => dList x s fun ds => ∃ bs : List Bool, ds = bs.map PyData.bool ∧ q (.d (.bool (bs.all id))) s
theorem abc_all {K : PySem.W.Frag} : AbC w (rAll K) dAll := fun G W s σ H vs xs Q q M1 r k h => by
  obtain ⟨v, x, rfl, rfl, r, h⟩ := d1_of r h
  obtain ⟨a, us, ds, rfl, e1, t1, ns, rfl, h⟩ := dList_of M1 r h
  obtain rfl := RepA.ofBools t1
  exact ⟨a, ns, rfl, SqL.of e1, k.md M1 (.bl _) h⟩
/-- bits of numbers -/
theorem bitOr_nat (a b : Nat) : Builtin.bitOr (a : Int) (b : Int) = ((a ||| b : Nat) : Int) := bitOr_nn (Int.natCast_nonneg _) (Int.natCast_nonneg _)
theorem bitAnd_nat (a b : Nat) : Builtin.bitAnd (a : Int) (b : Int) = ((a &&& b : Nat) : Int) := by simp [Builtin.bitAnd]
theorem shr_and (a : Nat) (j : Int) (h : 0 ≤ j) : Builtin.bitAnd ((a : Int) / 2 ^ j.toNat) 1 = if a.testBit j.toNat then 1 else 0 := by
  have e : ((a : Int) / 2 ^ j.toNat) = ((a / 2 ^ j.toNat : Nat) : Int) := by
    rw [Int.natCast_ediv, Int.natCast_pow]
    rfl
  have e2 : Builtin.bitAnd ((a / 2 ^ j.toNat : Nat) : Int) 1 = ((a / 2 ^ j.toNat % 2 : Nat) : Int) := by
    rw [← Nat.and_one_is_mod]
    exact bitAnd_nat _ 1
  rw [e, e2, Nat.testBit_eq_decide_div_mod_eq]
  rcases Nat.mod_two_eq_zero_or_one (a / 2 ^ j.toNat) with h | h <;> rw [h] <;> rfl
end
end Dt


set_option autoImplicit false
set_option Elab.async false
set_option autoImplicit false
set_option linter.all false
set_option maxRecDepth 100000
set_option maxHeartbeats 4000000
/-! The data layer: comprehensions that make lists of own things; what own things are lent as. -/
namespace Dt
open PySem PySem.Spec L2 Kt
section
variable {w : Ww}
abbrev Iv := Nat → List Vd → List (Option Ob) → Drw → Prop
@[irreducible] def uLcV (ui : TId) (g : TGd) (ut : TTd) (ue : TEd) (vs : List Nat) : TEd := fun s q => ui s fun xs s1 => ∃ I : Iv, I 0 [] s1.o s1.d ∧
  (∀ i d acc o dr, xs[i]? = some d → I i acc o dr → g (.d d) ⟨wipeD s1.r vs, o, dr⟩ fun s2 => ut s2 fun b s3 => if b = true then ue s3 fun y s4 => acc.length < sizeLine ∧ I (i + 1) (acc ++ [y]) s4.o s4.d else I (i + 1) acc s3.o s3.d) ∧
  ∀ acc o dr, I xs.length acc o dr → q (.p o.length) ⟨s1.r, o ++ [some (.lst acc)], dr⟩
structure Mv (w : Ww) (G : Gm) (W1 : Wd) (r1 : List (Option Vd)) (σ : L2.St) (D : Addr) (H : Hp) (o : List (Option Ob)) (dr : Drw) (acc : List Vd) (W : Wd) (vs : List V) : Prop where
  ext : Ext W1 W
  m : M w G W ⟨r1, o, dr⟩ σ H
  unc : Unc G W D
  at_ : H D = some (.lst vs)
  rep : Paired (RepV W G.δ) vs acc
variable {G : Gm} {W1 W W2 : Wd} {r1 : List (Option Vd)} {σ σ2 : L2.St} {D : Addr} {H H2 : Hp} {o : List (Option Ob)} {dr : Drw} {acc : List Vd} {vs : List V} {s2 : Sd}
theorem Mv.more (c : Mv w G W1 r1 σ D H o dr acc W vs) {v : V} {y : Vd} (r : RepV W G.δ v y) : Mv w G W1 r1 σ D (upd H D (.lst (vs ++ [v]))) o dr (acc ++ [y]) W (vs ++ [v]) :=
  ⟨c.ext, c.m.scratch c.unc (fun od v q => by rw [c.at_] at q; cases q) c.at_, c.unc, upd_same, paired_snoc' r c.rep⟩
theorem Mv.inn (c : Mv w G W1 r1 σ D H o dr acc W vs) (ns : List Nat) : M w { G with h := upd G.h D (.lst vs) } W ⟨wipeD r1 ns, o, dr⟩ (wipe σ ns) H := by
  refine (c.m.guard c.unc c.at_).less (r' := wipeD r1 ns) (by rw [wipeD_len, wipe_length]; exact c.m.len) fun i x q => ?_
  obtain ⟨h1, h2⟩ := wipe_get (σ := σ) q
  rw [h2]
  exact c.m.sl i x h1
theorem Mv.out (c : Mv w G W1 r1 σ D H o dr acc W vs) (e : Ext W W2) (m : M w { G with h := upd G.h D (.lst vs) } W2 s2 σ2 H2) : Mv w G W1 r1 σ D H2 s2.o s2.d acc W2 vs := by
  have hl : D ∉ W2.lk := by rw [e.2.2]; exact c.unc.2.1
  have hF : W2.F D = none := by
    cases q : W2.F D with
    | none => rfl
    | some v =>
      rcases m.nf D v q with h | h
      · obtain ⟨u, hu⟩ := c.m.gf D v h
        rw [c.unc.2.2.1] at hu
        cases hu
      · have h' : upd G.h D (.lst vs) D = none := h
        rw [upd_same] at h'
        cases h'
  obtain ⟨m', u, a⟩ := m.unguard c.unc.2.2.1 c.unc.2.2.2.1 hl hF c.m.gf
  exact ⟨c.ext.trans e, m'.less (r' := r1) c.m.len fun i x q => by
    obtain ⟨v, h1, h2⟩ := c.m.sl i x q
    exact ⟨v, h1, h2.ext e⟩, u, a, repVs_ext e c.rep⟩
end
section
variable {w : Ww}
theorem ab_lcV {wi : TI} {g : TG} {tt : TT} {te : TE} {vs : List Nat} {ui : TId} {gd : TGd} {ut : TTd} {ue : TEd} (hi : AbI w wi ui) (hg : AbG w g gd) (hk : TgOk vs g) (ht : AbT w tt ut) (he : AbE w te ue) : AbE w (tLc wi g tt te vs) (uLcV ui gd ut ue vs) := fun G W s σ H Q q M0 k hu => by
  unfold uLcV at hu
  refine hi G W s σ H _ _ M0 (fun W1 s1 H1 J xs e1 m1 j ⟨I, h0, hs, hd⟩ D hD => ?_) hu
  have st : Mv w G W1 s1.r σ D (upd H1 D (.lst [])) s1.o s1.d [] W1 [] := ⟨Ext.refl W1, m1.same (same_upd hD), m1.free hD, upd_same, .nil⟩
  refine ⟨fun i n H => n = xs.length - i ∧ i ≤ xs.length ∧ ∃ W' o dr acc us, Mv w G W1 s1.r σ D H o dr acc W' us ∧ I i acc o dr, ⟨xs.length, by omega, Nat.zero_le _, W1, _, _, [], [], st, h0⟩, ?_⟩
  rintro i n H2 ⟨rfl, hle, W2, o, dr, acc, us, c, hI⟩
  by_cases hlt : i < xs.length
  · refine .inr ⟨j.go G W2 _ σ H2 i (Gs.refl G) c.ext.f c.m hlt, fun H => i + 1 ≤ xs.length ∧ ∃ W' o dr acc us, Mv w G W1 s1.r σ D H o dr acc W' us ∧ I (i + 1) acc o dr, fun H' ⟨h1, h2⟩ => ⟨xs.length - (i + 1), by omega, rfl, h1, h2⟩, fun v H3 hy => hk.at' ?_⟩
    obtain ⟨W3, d, hd3, e3, m3, r3⟩ := j.yld { G with h := upd G.h D (.lst us) } W2 _ (wipe σ vs) H2 i v H3 (Gs.refl _) c.ext.f (c.inn vs) hlt hy
    refine hg _ W3 _ _ H3 v (.d d) _ _ m3 r3 (fun W4 s4 σ4 H4 e4 m4 h4 => ?_) (hs i d acc o dr hd3 hI)
    refine ht _ W4 s4 σ4 H4 _ _ m4 (fun W5 s5 H5 b e5 m5 h5 => ?_) h4
    have e25 := e3.trans (e4.trans e5)
    cases b with
    | false => exact ⟨hlt, W5, _, _, acc, us, c.out e25 m5, h5⟩
    | true =>
      refine he _ W5 s5 σ4 H5 _ _ m5 (fun W6 s6 H6 v6 y e6 m6 r6 ⟨h6, h7⟩ => ?_) h5
      have c6 := c.out (e25.trans e6) m6
      exact ⟨us, c6.at_, by rw [c6.rep.length]; exact h6, hlt, W6, _, _, acc ++ [y], us ++ [v6], c6.more r6, h7⟩
  · have e : i = xs.length := by omega
    subst e
    exact .inl ⟨j.stop G W2 _ σ H2 (Gs.refl G) c.ext.f c.m, c.m.mkV true c.unc c.at_ c.rep (k.up (e1.trans c.ext)) (hd acc o dr hI)⟩
end
section
variable {g : TGd} {ui : TId} {ut : TTd} {ue : TEd} {vs : List Nat} {s s1 : Sd} {q : Vd → Sd → Prop} {α : Type}
/-- [a new list for x in L] -/
theorem uLcV_lists (φ : α → PyData) (f : α → List PyData) (L : List α) (s1 : Sd) (hi : ∀ R : List PyData → Sd → Prop, R (L.map φ) s1 → ui s R) (hl : L.length ≤ sizeLine)
    (h : ∀ x ∈ L, ∀ (o : List (Option Ob)) (R : Vd → List (Option Ob) → Drw → Prop) (R' : List (Option Ob) → Drw → Prop), R (.p o.length) (o ++ [some (.lst ((f x).map Vd.d))]) s1.d → g (.d (φ x)) ⟨wipeD s1.r vs, o, s1.d⟩ fun s2 => ut s2 fun b s3 => if b = true then ue s3 (fun y s4 => R y s4.o s4.d) else R' s3.o s3.d)
    (k : q (.p (s1.o.length + L.length)) ⟨s1.r, s1.o ++ L.map (fun x => some (.lst ((f x).map Vd.d))) ++ [some (.lst ((List.range L.length).map fun i => .p (s1.o.length + i)))], s1.d⟩) : uLcV ui g ut ue vs s q := by
  unfold uLcV
  refine hi _ ⟨fun i acc o dr => i ≤ L.length ∧ acc = (List.range i).map (fun j => .p (s1.o.length + j)) ∧ o = s1.o ++ (L.take i).map (fun x => some (.lst ((f x).map Vd.d))) ∧ dr = s1.d, ⟨Nat.zero_le _, rfl, by rw [List.take_zero, List.map_nil, List.append_nil], rfl⟩, ?_, ?_⟩
  · rintro i d acc o dr hd ⟨hle, rfl, rfl, rfl⟩
    obtain ⟨x, hx, rfl⟩ := map_get hd
    have hi' := (List.getElem?_eq_some_iff.mp hx).1
    have lo : (s1.o ++ (L.take i).map (fun x => some (Ob.lst ((f x).map Vd.d)))).length = s1.o.length + i := by
      rw [List.length_append, List.length_map, List.length_take, Nat.min_eq_left hle]
    refine h x (List.mem_of_getElem? hx) (s1.o ++ (L.take i).map (fun x => some (Ob.lst ((f x).map Vd.d)))) (fun y o2 d2 => ((List.range i).map (fun j => Vd.p (s1.o.length + j))).length < sizeLine ∧ (i + 1 ≤ L.length ∧ (List.range i).map (fun j => Vd.p (s1.o.length + j)) ++ [y] = (List.range (i + 1)).map (fun j => Vd.p (s1.o.length + j)) ∧ o2 = s1.o ++ (L.take (i + 1)).map (fun x => some (.lst ((f x).map Vd.d))) ∧ d2 = s1.d))
      (fun o2 d2 => i + 1 ≤ L.length ∧ (List.range i).map (fun j => Vd.p (s1.o.length + j)) = (List.range (i + 1)).map (fun j => Vd.p (s1.o.length + j)) ∧ o2 = s1.o ++ (L.take (i + 1)).map (fun x => some (.lst ((f x).map Vd.d))) ∧ d2 = s1.d) ⟨by rw [List.length_map, List.length_range]; omega, hi', ?_, ?_, rfl⟩
    · rw [List.range_succ, List.map_append, lo]
      rfl
    · rw [List.take_add_one, hx, List.map_append, List.append_assoc]
      rfl
  · rintro acc o dr ⟨_, rfl, rfl, rfl⟩
    rw [List.length_map, List.take_length, List.length_append, List.length_map]
    exact k
end
/-! ### what a range of own lists is lent as -/
theorem resA_range {o : List (Option Ob)} {b : Nat} : ∀ {xss : List (List PyData)} {k : Nat}, xss.length = k → (∀ i xs, xss[i]? = some xs → o[b + i]? = some (some (.lst (xs.map Vd.d)))) → ResA o ((List.range k).map fun i => Vd.p (b + i)) (xss.map PyData.list) := by
  intro xss k hk h
  have key : ∀ (xss : List (List PyData)) (b : Nat), (∀ i xs, xss[i]? = some xs → o[b + i]? = some (some (.lst (xs.map Vd.d)))) → ResA o ((List.range xss.length).map fun i => Vd.p (b + i)) (xss.map PyData.list) := by
    intro xss
    induction xss with
    | nil => intro b _; exact .nil
    | cons xs xss ih =>
      intro b h
      have e : (List.range (xs :: xss).length).map (fun i => Vd.p (b + i)) = .p b :: (List.range xss.length).map fun i => Vd.p (b + 1 + i) := by
        rw [List.length_cons, List.range_succ_eq_map, List.map_cons, List.map_map]
        congr 1
        refine List.map_congr_left fun i _ => ?_
        show Vd.p (b + (i + 1)) = _
        rw [show b + (i + 1) = b + 1 + i by omega]
      rw [e, List.map_cons]
      refine .cons (Res.own (h 0 xs rfl)) (ih (b + 1) fun i ys hy => ?_)
      rw [show b + 1 + i = b + (i + 1) by omega]
      exact h (i + 1) ys hy
  subst hk
  exact key xss b h
theorem resA_ex {o : List (Option Ob)} : ∀ {xs : List Vd}, (∀ x ∈ xs, ∃ d, Res o x d) → ∃ ds, ResA o xs ds
  | [], _ => ⟨[], .nil⟩
  | x :: xs, h => by
    obtain ⟨d, hd⟩ := h x List.mem_cons_self
    obtain ⟨ds, hds⟩ := resA_ex (xs := xs) fun y hy => h y (List.mem_cons_of_mem _ hy)
    exact ⟨d :: ds, .cons hd hds⟩
end Dt


set_option autoImplicit false
set_option Elab.async false
set_option autoImplicit false
set_option linter.all false
set_option maxRecDepth 100000
set_option maxHeartbeats 4000000
/-! The data layer: slices with a step, max of a list, a range from its end. -/
namespace Dt
open PySem PySem.Spec L2 Kt PyProof.Rows
def pickV {α : Type} (xs : List α) (i j k : Int) : List α := (sliceRange i j k).filterMap (xs[·]?)
theorem bounds3 {i j k : Int} {n : Nat} (i0 : 0 ≤ i) (i1 : i ≤ n) (j0 : 0 ≤ j) (j1 : j ≤ n) (k1 : 1 ≤ k) : sliceBounds (some i) (some j) (some k) n = (i, j, k) := by
  simp only [sliceBounds, Option.getD_some, show k > 0 by omega, if_true, if_neg (show ¬ i < 0 by omega), if_neg (show ¬ j < 0 by omega)]
  rw [show min i (n : Int) = i by omega, show min j (n : Int) = j by omega, show max 0 i = i by omega, show max 0 j = j by omega]
theorem pick_len {α : Type} (xs : List α) (i j k : Int) (h0 : 0 ≤ i) (hj : j ≤ xs.length) (k1 : 1 ≤ k) : (pickV xs i j k).length ≤ xs.length := by
  unfold pickV
  refine Nat.le_trans (List.length_filterMap_le _ _) ?_
  unfold sliceRange
  rw [List.length_map, List.length_range, if_pos (by omega)]
  split
  · have : (j - i + k - 1) / k ≤ j - i := ceilDiv_le (j - i) k (by omega) k1
    omega
  · omega
theorem valsPick {vs : List V} {us : List Value} (r : Vals vs us) : ∀ ix : List Nat, Vals (ix.filterMap (vs[·]?)) (ix.filterMap (us[·]?))
  | [] => .nil
  | i :: ix => by
    rw [List.filterMap_cons, List.filterMap_cons]
    cases e : vs[i]? with
    | none =>
      have : us[i]? = none := List.getElem?_eq_none_iff.mpr (by rw [← r.length]; exact List.getElem?_eq_none_iff.mp e)
      rw [this]
      exact valsPick r ix
    | some v =>
      obtain ⟨u, hu, ru⟩ := pget r e
      rw [hu]
      exact .cons ru (valsPick r ix)
section
variable {X : Cx}
def tSl3 (K : PySem.W.Frag) (te : TE) (ta tb tc : TO) : TE := fun σ H Q => te σ H fun x H1 => ta σ H1 fun lo H2 => tb σ H2 fun hi H3 => tc σ H3 fun st H4 => ∃ (a : Addr) (xs : List V) (i j k : Int), x = .ref a ∧ lo = some i ∧ hi = some j ∧ st = some k ∧ 0 ≤ i ∧ i ≤ (xs.length : Int) ∧ 0 ≤ j ∧ j ≤ (xs.length : Int) ∧ 1 ≤ k ∧ SqL K H4 a xs ∧ ∀ p, H4 p = none → Q (.ref p) (upd H4 p (.lst (pickV xs i j k)))
theorem pe_sl3 {e : Expr} {ea eb : Option Expr} {ec : Expr} {te : TE} {ta tb tc : TO} {p3 pos : Pos} (he : PE X e te) (ha : PO X ea ta) (hb : PO X eb tb) (hst : PO X (some ec) tc) : PE X (.Subscript e (.Slice ea eb (some ec) p3) pos) (tSl3 X.K te ta tb tc) := by
  refine ⟨fun pins s σ H Q I h => ?_⟩
  refine Subscript_ (thn (he.run pins s σ H _ I h) fun v s1 ⟨x, H1, I1, r1, q1⟩ => ?_)
  refine wpAny_Slice (thn (ha.run pins s1 σ H1 _ I1 q1) fun vl s2 ⟨lo, H2, I2, pl, q2⟩ => ?_)
  refine thn (hb.run pins s2 σ H2 _ I2 q2) fun vu s3 ⟨hi, H3, I3, pu, q3⟩ => ?_
  refine thn (hst.run pins s3 σ H3 _ I3 q3) fun vs s4 ⟨st, H4, I4, ps, q4⟩ => ?_
  obtain ⟨a, xs, i, j, k, rfl, rfl, rfl, rfl, i0, i1, j0, j1, k1, hx, q⟩ := q4
  cases r1
  have I5 : Inv X pins σ H4 { s4 with heap := s4.heap.push { cls := .type "slice", data := .fields #[vl, vu, vs] } } := I4.kept (t' := s4.toks) fun b ob q => Heap.get?_push_of_some _ q
  obtain ⟨its, r, ht, hz⟩ := I5.list hx
  have hlen := r.length
  show wpAny (model X.prog X.w) X.A (subscriptTail e (.Slice ea eb (some ec) p3) (.ref a) (.ref s4.heap.objs.size)) (EP X pins σ Q) X.xe { s4 with heap := s4.heap.push { cls := .type "slice", data := .fields #[vl, vu, vs] } }
  refine tail_any (ops := [.ref a, .ref s4.heap.objs.size]) ht.isList.typeIs (PySem.slot_list_getitem.lookup) ?_ (by with_unfolding_all rfl)
  refine wpAny_getItem_list_slice ht.isList (Heap.IsSliceOf.new _ vl vu vs) pl pu ps (fun z => by have := Option.some.inj z; omega) ?_ (by rw [List.size_toArray]; omega)
  have e : slicePick its.toArray (some i) (some j) (some k) = (pickV its i j k).toArray := by
    unfold slicePick pickV
    rw [bounds3 i0 (by rw [List.size_toArray]; omega) j0 (by rw [List.size_toArray]; omega) k1]
    congr 1
    refine congrArg (fun f => (sliceRange i j k).filterMap f) (funext fun t => ?_)
    simp
  rw [e]
  refine ⟨.ref _, _, I5.laid (t' := s4.toks) (o := .lst (pickV xs i j k)) (fun b ob q => Heap.get?_push_of_some _ q) (Nat.le_refl _) ?_, rfl, q _ (I5.hok.fresh (Nat.le_refl _))⟩
  exact ⟨Nat.le_trans (pick_len xs i j k i0 j1 k1) hz, _, 0, valsPick r _, Heap.get?_push_size _ rfl⟩
end
section
variable {w : Ww}
def uSl3 (m : Bool) (ux : TEd) (ua ub uc : TOd) : TEd := fun s q => ux s fun x s1 => ua s1 fun lo s2 => ub s2 fun hi s3 => uc s3 fun st s4 => dList x s4 fun ds => ∃ i j k : Int, lo = some i ∧ hi = some j ∧ st = some k ∧ 0 ≤ i ∧ i ≤ (ds.length : Int) ∧ 0 ≤ j ∧ j ≤ (ds.length : Int) ∧ 1 ≤ k ∧ mkL m (pickV ds i j k) s4 q
theorem repPick {F : Hp} {vs : List V} {ds : List PyData} (r : RepA F vs ds) : ∀ ix : List Nat, RepA F (ix.filterMap (vs[·]?)) (ix.filterMap (ds[·]?))
  | [] => .nil
  | i :: ix => by
    rw [List.filterMap_cons, List.filterMap_cons]
    cases e : vs[i]? with
    | none =>
      have : ds[i]? = none := List.getElem?_eq_none_iff.mpr (by rw [← r.len]; exact List.getElem?_eq_none_iff.mp e)
      rw [this]
      exact repPick r ix
    | some v =>
      obtain ⟨d, hd, rd⟩ := r.get e
      rw [hd]
      exact .cons rd (repPick r ix)
theorem ab_sl3 {K : PySem.W.Frag} (m : Bool) {t : TE} {ta tb tc : TO} {ux : TEd} {ua ub uc : TOd} (hx : AbE w t ux) (ha : AbO w ta ua) (hb : AbO w tb ub) (hc : AbO w tc uc) : AbE w (tSl3 K t ta tb tc) (uSl3 m ux ua ub uc) := fun G W s σ H Q q M0 k h => by
  refine hx G W s σ H _ _ M0 (fun W1 s1 H1 v x e1 m1 r1 h1 => ?_) h
  refine ha G W1 s1 σ H1 _ _ m1 (fun W2 s2 H2 lo e2 m2 h2 => ?_) h1
  refine hb G W2 s2 σ H2 _ _ m2 (fun W3 s3 H3 hi e3 m3 h3 => ?_) h2
  refine hc G W3 s3 σ H3 _ _ m3 (fun W4 s4 H4 st e4 m4 h4 => ?_) h3
  obtain ⟨a, vs, ds, rfl, f1, t1, i, j, kk, rfl, rfl, rfl, i0, i1, j0, j1, k1, h4⟩ := dList_of m4 (r1.ext (e2.trans (e3.trans e4))) h4
  refine ⟨a, vs, i, j, kk, rfl, rfl, rfl, rfl, i0, by rw [t1.len]; exact i1, j0, by rw [t1.len]; exact j1, k1, SqL.of f1, fun p hp => m4.newL m hp (repPick t1 _) (k.up (e1.trans (e2.trans (e3.trans e4)))) h4⟩
def dMaxL : List Vd → TEd := fun xs s q => d1 xs fun x => dList x s fun ds => ∃ ns : List Int, ds = ns.map PyData.int ∧ 0 < ns.length ∧ ∀ m, m ∈ ns → (∀ y, y ∈ ns → y ≤ m) → q (.d (.int m)) s
theorem abc_maxL {K : PySem.W.Frag} : AbC w (rMax K) dMaxL := fun G W s σ H vs xs Q q M1 r k h => by
  obtain ⟨v, x, rfl, rfl, r, h⟩ := d1_of r h
  obtain ⟨a, us, ds, rfl, e1, t1, ns, rfl, hl, h⟩ := dList_of M1 r h
  obtain rfl := RepA.ofInts t1
  exact ⟨a, ns, rfl, SqL.of e1, hl, fun m h1 h2 => k.md M1 (.int _) (h m h1 h2)⟩
def uIRevR1 (ua : TEd) : TId := fun s q => ua s fun x s1 => dInt x fun j => -(2 ^ 62) ≤ j ∧ j < 2 ^ 62 ∧ q (intsC (0 + (((j - 0).toNat : Nat) : Int) - 1) (-1) (j - 0).toNat) s1
theorem abi_revR1 {ta : TE} {ua : TEd} (ha : AbE w ta ua) : AbI w (iRevR (tRg1 ta)) (uIRevR1 ua) := fun G W s σ H R q m k hu => by
  refine ha G W s σ H _ _ m (fun W1 s1 H1 v x e1 m1 r1 h1 => ?_) hu
  obtain ⟨j, rfl, rfl, a, b, h1⟩ := dInt_of r1 h1
  exact ⟨j, rfl, by decide, by decide, a, b, k W1 s1 H1 _ _ e1 m1 (jl_rangeC _ _ _) h1⟩
end
end Dt


set_option autoImplicit false
set_option Elab.async false
set_option autoImplicit false
set_option linter.all false
set_option maxRecDepth 100000
set_option maxHeartbeats 4000000
/-! The data layer: sorted(range(n), key=lambda y: xs[y]). -/
namespace Dt
open PySem PySem.Spec L2 Kt
section
variable {w : Ww}
/-- tables grew, nothing else changed -/
theorem M.kp {G : Gm} {W : Wd} {s : Sd} {σ : L2.St} {H H2 : Hp} (m : M w G W s σ H) (k : Kp H H2) (tb : LamX.Tabs w.T H2) (nc : ∀ b u, H b = some u → NoCode w.T H b → NoCode w.T H2 b) : M w G W s σ H2 where
  fz := fun a o q l => k.same (m.fz a o q l) fun ts z => m.tx.fn a ts (by rw [q, z])
  lk := fun a l => let ⟨ks, od, h1, h2⟩ := m.lk a l; ⟨ks, od, h1, k.same h2 fun ts z => by cases z⟩
  fr := fun b o q h l => k.same (m.fr b o q h l) fun ts z => m.tx.gn b ts (by rw [q, z])
  len := m.len
  sl := m.sl
  ob := fun n o q => by
    obtain ⟨a, h1, h2, h3⟩ := m.ob n o q
    obtain ⟨_, _, _, u, hu⟩ := m.al n a h1
    exact ⟨a, h1, h2, h3.stay (Ext.refl W) ((k.same hu fun ts z => (m.tx.an n a h1).1 ts (by rw [hu, z])).trans hu.symm)⟩
  al := fun n a q => let ⟨h0, h1, h2, u, hu⟩ := m.al n a q; ⟨h0, h1, h2, u, k.same hu fun ts z => (m.tx.an n a q).1 ts (by rw [hu, z])⟩
  inj := m.inj
  dw := fun a q => let ⟨t, h1, h2, n, j, c, h3, h4⟩ := m.dw a q; ⟨t, h1, h2, n, j, c, k.same h3 (fun ts z => by cases z), h4⟩
  dn := m.dn
  nf := m.nf
  gf := m.gf
  lz := fun b od u q => k.same (m.lz b od u q) fun ts z => by cases z
  tx := ⟨tb, m.tx.fn, m.tx.gn, fun n a q => by
    obtain ⟨_, _, _, u, hu⟩ := m.al n a q
    have nt := fun ts (z : u = HO.tbl ts) => (m.tx.an n a q).1 ts (by rw [hu, z])
    refine ⟨fun ts z => ?_, nc a u hu (m.tx.an n a q).2⟩
    have := k.same hu nt
    rw [this] at z
    exact nt ts (Option.some.inj z), fun b u q z => by
    have n := m.tx.gc b u q z
    by_cases d : G.δ = some b
    · obtain ⟨_, _, _, _, _, _, e, _⟩ := m.dw b d
      exact nc b _ e n
    · by_cases l : b ∈ W.lk
      · obtain ⟨_, _, _, e⟩ := m.lk b l
        exact nc b _ e n
      · exact nc b u (m.fr b u q d l) n⟩
/-- sorted(range(n), key=lambda y: xs[y]), xs data in slot i -/
def uSortLam (m : Bool) (i : Nat) (ua : TAd) : TEd := fun s q => ua s fun xs s1 => ∃ (n : Nat) (ks : List Int), xs = [.d (.int n)] ∧ n ≤ 2 ^ 20 ∧ n ≤ ks.length ∧ s1.r[i]? = some (some (.d (.list (ks.map PyData.int)))) ∧
  mkL m ((byKey (fun j => ks.getD j.toNat 0) ((List.range n).map fun (j : Nat) => 0 + (j : Int) * 1)).map PyData.int) s1 q
theorem ab_sortLam (m : Bool) (i : Nat) {ta : TA} {ua : TAd} (ha : AbA w ta ua) : AbE w (tSortLam w.T i (tCB rRng1 ta)) (uSortLam m i ua) := fun G W s σ H Q q m0 k hu => by
  refine ha G W s σ H _ _ m0 (fun W1 s1 H1 vs xs e1 m1 r1 h => ?_) hu
  obtain ⟨n, ks, rfl, hn, hk, hs, h⟩ := h
  match vs, r1 with
  | [v], .cons r .nil =>
    obtain rfl : v = .int (n : Int) := by
      have r : Rep W1.F v (.int n) := r
      cases r
      rfl
    refine ⟨n, rfl, fun p hp => ?_⟩
    obtain ⟨v, hv, rv⟩ := m1.sl i _ hs
    have rv : Rep W1.F v (.list (ks.map PyData.int)) := rv
    cases rv with
    | lst e t =>
      obtain rfl := RepA.ofInts t
      have m2 := m1.same (same_upd (o := .rng 0 (n : Int)) hp)
      refine ⟨p, _, n, ks, rfl, upd_same, hn, hv, m2.fz' _ _ ⟨_, .inl rfl⟩ e, hk, m2.tx.tb, fun p2 H2 kp tb nc hp2 => ?_⟩
      exact (m2.kp kp tb nc).newV m hp2 (of_repA (RepA.ints _)) (k.up e1) (mkL_V h)
end
/-- a def whose code object is known -/
theorem fnG_ofC {P : Program} {w : World} {K : PySem.W.Frag} {mg : Str → Option Value} {base : Heap} {x qual : Str} {st : Stmt} {f dc : Addr} {fd : FuncData} {N ps : List Str} {k : Nat} {sp : Sp} (F : Fun K x qual st f fd) (hc : fd.code = .ref dc) (S : FnScope N ps (defScope st))
    (arity : ∀ vs H Q, sp vs H Q E0 → vs.length = ps.length)
    (body : ∀ (A : Around) (below : List Env) (s : Shared) (H : Hp) (vs : List V) (Q : VK), Room k (A.deeper (PyProof.Rows.envOfC qual (defScope st) s.heap.objs.size f (.ref dc))) → A.guards = some [] → sp vs H Q E0 →
      ∃ t, PSs (cxOf CX0 P w K mg base N qual (defScope st) f (.ref dc) A below s H E0).nox (defBody st) t ∧ t { nx := fun _ H' => Q .non H', rt := Q } (L2.start N vs) H) :
    FnG P w K mg base (k + 1) f fd ps sp := by
  obtain ⟨oc, od, kV, doc, pm, an, cdv, ct, osl, e, lk, hcd⟩ := F.ex
  have F' : FnG P w K mg base (k + 1) f fd ps sp := by
    refine ⟨arity, fun A below s H args us vs Q hr hg e0 hb r hsp => ?_⟩
    have cv : cdv = .ref dc := by
      rw [e] at hc
      exact hc
    subst cv
    subst e
    have hl := arity _ _ _ hsp
    have old : ∀ b o, base.get? b = some o → s.heap.get? b = some o := fun b o e => (e0.bs b o e).1
    have places : ∀ y ∈ ps.zip us, (defScope st).names.lookup y.1 = some .local ∨ ((defScope st).names.lookup y.1 = some .cell ∧ ((cellsFrom (s.heap.objs.size + 1) (defScope st).names []).lookup y.1).isSome = true) := by
      rintro ⟨n, v⟩ hy
      cases S.par n (List.of_mem_zip hy).1 with
      | inl q => exact .inl q
      | inr q => exact .inr ⟨q, PySem.W.cellsFrom_some _ _ _ (.inl q)⟩
    refine codeAny_call_function hr.depth (e0.mod.kin.keeps old _ _ lk) rfl S.co S.gen rfl (PySem.W.codeRec_of (e0.mod.kin.keeps old) hcd) (hb _ _ _ _ ?_)
    refine wpAny_newFunctionEnv_cells S.kind places fun env he s1 y => ?_
    subst he
    refine ⟨(e0.mod.nolimit.keeps old).keeps y.toInCall.keep, codeAny_func ?_⟩
    obtain ⟨t, ht, hq⟩ := body A below s H vs Q (hr.deeper _) hg hsp
    have I : Inv (cxOf CX0 P w K mg base N qual (defScope st) f (.ref dc) A below s H E0) [] (L2.start N vs) H s1 := inv_start S hr.hd e0 hl r y
    refine wpAny_mono (ht.nox.run [] s1 (L2.start N vs) H _ I hq) ?_ fun e s' hs => hs
    intro fl s' hs
    have done : ∀ {τ : L2.St} {H' : Hp} {v : V} {u : Value}, Inv (cxOf CX0 P w K mg base N qual (defScope st) f (.ref dc) A below s H E0) [] τ H' s' → RelV v u → Q v H' → CE below P w H s Q u s' :=
      fun {τ H' v u} J rv q => ⟨v, H', J.os, J.bare, J.base, J.hok, rv, q⟩
    match fl, hs with
    | .ret u, hs =>
      obtain ⟨v, τ, H', J, rv, q⟩ := hs
      exact done J rv q
    | .next, hs =>
      obtain ⟨τ, H', J, q⟩ := hs
      exact done (v := V.non) (u := Value.none) J rfl q
    | .brk, hs => exact False.elim hs.choose_spec.choose_spec.2
    | .cont, hs => exact False.elim hs.choose_spec.choose_spec.2
  exact F'
theorem fnD_ofC {w : Ww} {P : Program} {K : PySem.W.Frag} {mg : Str → Option Value} {base : Heap} {x qual : Str} {st : Stmt} {f dc : Addr} {fd : FuncData} {N ps : List Str} {k : Nat} {sp : Spd} (F : Fun K x qual st f fd) (hc : fd.code = .ref dc) (S : FnScope N ps (defScope st))
    (ar : ∀ xs dr q, sp xs dr q → xs.length = ps.length)
    (body : ∀ (A : Around) (below : List Env) (s : Shared) (H : Hp), Room k (A.deeper (PyProof.Rows.envOfC qual (defScope st) s.heap.objs.size f (.ref dc))) → A.guards = some [] →
      ∃ t u, PSs (cxOf CX0 P w.w K mg base N qual (defScope st) f (.ref dc) A below s H E0).nox (defBody st) t ∧ AbS w t u ∧ ∀ xs dr q, sp xs dr q → u (endD q) (startD N xs dr)) : FnD P w K mg base (k + 1) f fd ps sp := by
  refine fnG_ofC F hc S (fun vs H Q h => ?_) (fun A below s H vs Q hr hg h => ?_)
  · obtain ⟨δ, F, xs, dr, q, _, _, r, h, _⟩ := h
    rw [r.length]
    exact ar xs dr q h
  · obtain ⟨δ, F, xs, dr, q, h1, h2, r, h, k⟩ := h
    obtain ⟨t, u, ht, hu, hb⟩ := body A below s H hr hg
    exact ⟨t, ht, hu _ _ _ _ _ _ _ (start_m h1 h2 r k.1) (end_le k) (hb xs dr q h)⟩
end Dt


set_option autoImplicit false
set_option Elab.async false
set_option autoImplicit false
set_option linter.all false
set_option maxRecDepth 100000
set_option maxHeartbeats 4000000
/-! The data layer: sorted(set(xs)). -/
namespace Dt
open PySem PySem.Spec L2 Kt
section
variable {w : Ww}
/-- sorted(set(xs)), xs ints, fewer than 64 -/
def uSortedSet (m : Bool) (ua : TAd) : TEd := fun s q => ua s fun xs s1 => d1 xs fun x => dList x s1 fun ds => ∃ ks : List Int, ds = ks.map PyData.int ∧ ks.length < 64 ∧
  ∀ ns : List Int, ns.Pairwise (· < ·) → (∀ k, k ∈ ns ↔ k ∈ ks) → mkL m (ns.map PyData.int) s1 q
theorem ab_sortedSet {K : PySem.W.Frag} (m : Bool) {ta : TA} {ua : TAd} (ha : AbA w ta ua) : AbE w (tCB (rSortedSet w.w) (tCons (tCB (rSetOfL K w.w) ta) tNil)) (uSortedSet m ua) := fun G W s σ H Q q m0 k hu => by
  refine ha G W s σ H _ _ m0 (fun W1 s1 H1 vs xs e1 m1 r1 h => ?_) hu
  obtain ⟨v, x, rfl, rfl, r, h⟩ := d1_of r1 h
  obtain ⟨a, us, ds, rfl, e2, t, ks, rfl, hl, h⟩ := dList_of m1 r h
  obtain rfl := RepA.ofInts t
  refine ⟨a, ks, rfl, SqL.of e2, by unfold scanBound; omega, fun p n hp hn => ?_⟩
  refine ⟨p, _, n, rfl, upd_same, by omega, fun ns p2 up mem _ hp2 => ?_⟩
  exact (m1.same (same_upd hp)).newV m hp2 (of_repA (RepA.ints ns)) (k.up e1) (mkL_V (h ns up fun z => (mem z).trans decide_eq_true_iff))
end
end Dt


set_option autoImplicit false
set_option Elab.async false
set_option autoImplicit false
set_option linter.all false
set_option maxRecDepth 100000
set_option maxHeartbeats 4000000
/-! The data layer: sorted(set(xs)), xs fewer than 4,095 ints. -/
namespace Dt
open PySem PySem.Spec L2 Kt
section
variable {w : Ww}
def uSortedSetB (m : Bool) (ua : TAd) : TEd := fun s q => ua s fun xs s1 => d1 xs fun x => dList x s1 fun ds => ∃ ks : List Int, ds = ks.map PyData.int ∧ ks.length < 4000 ∧
  ∀ ns : List Int, ns.Pairwise (· < ·) → (∀ k, k ∈ ns ↔ k ∈ ks) → mkL m (ns.map PyData.int) s1 q
theorem ab_sortedSetB {K : PySem.W.Frag} (m : Bool) {ta : TA} {ua : TAd} (ha : AbA w ta ua) : AbE w (tCB (rSortedSetB w.w) (tCons (tCB (rSetOfL K w.w) ta) tNil)) (uSortedSetB m ua) := fun G W s σ H Q q m0 k hu => by
  refine ha G W s σ H _ _ m0 (fun W1 s1 H1 vs xs e1 m1 r1 h => ?_) hu
  obtain ⟨v, x, rfl, rfl, r, h⟩ := d1_of r1 h
  obtain ⟨a, us, ds, rfl, e2, t, ks, rfl, hl, h⟩ := dList_of m1 r h
  obtain rfl := RepA.ofInts t
  refine ⟨a, ks, rfl, SqL.of e2, by unfold scanBound; omega, fun p n hp hn => ?_⟩
  refine ⟨p, _, n, rfl, upd_same, fun ns p2 up mem _ hp2 => ?_⟩
  exact (m1.same (same_upd hp)).newV m hp2 (of_repA (RepA.ints ns)) (k.up e1) (mkL_V (h ns up fun z => (mem z).trans decide_eq_true_iff))
end
end Dt


set_option autoImplicit false
set_option Elab.async false
set_option autoImplicit false
set_option linter.all false
set_option maxRecDepth 100000
set_option maxHeartbeats 4000000
/-! The data layer: a walk of an own list that holds own things, numbered; any(..). -/
namespace Dt
open PySem PySem.Spec L2 Kt
section
variable {w : Ww}
/-- [.. for k, x in enumerate(own list)]: the list is read for good, its items stay own -/
@[irreducible] def uLcE (i : Nat) (g1 g2 : TGd) (ut : TTd) (ue : TEd) (vs : List Nat) : TEd := fun s q => ∃ n xs, s.r[i]? = some (some (.p n)) ∧ s.o[n]? = some (some (.lst xs)) ∧ ∃ I : Iv, I 0 [] (s.o.set n none) s.d ∧
  (∀ k x acc o dr, xs[k]? = some x → I k acc o dr → g1 (.d (.int ((k : Nat) : Int))) ⟨wipeD s.r vs, o, dr⟩ fun s2 => g2 x s2 fun s3 => ut s3 fun b s4 => if b = true then ue s4 fun y s5 => acc.length < sizeLine ∧ I (k + 1) (acc ++ [y]) s5.o s5.d else I (k + 1) acc s4.o s4.d) ∧
  ∀ acc o dr, I xs.length acc o dr → q (.p o.length) ⟨s.r, o ++ [some (.lst acc)], dr⟩
theorem paired_at {α β : Type} {R : α → β → Prop} : ∀ {l : List α} {m : List β} {i : Nat} {x : α}, Paired R l m → l[i]? = some x → ∃ y, m[i]? = some y ∧ R x y
  | _, _, 0, _, .cons r _, e => by
    rw [List.getElem?_cons_zero] at e
    obtain rfl := Option.some.inj e
    exact ⟨_, rfl, r⟩
  | _, _, i + 1, _, .cons _ t, e => by
    rw [List.getElem?_cons_succ] at e
    obtain ⟨y, h1, h2⟩ := paired_at t e
    exact ⟨y, by rw [List.getElem?_cons_succ]; exact h1, h2⟩
  | _, _, 0, _, .nil, e => by cases e
  | _, _, _ + 1, _, .nil, e => by cases e
theorem ab_lcE {K : PySem.W.Frag} (i : Nat) {t1 t2 : TG} {g1 g2 : TGd} {tt : TT} {te : TE} {vs : List Nat} {ut : TTd} {ue : TEd} (h1 : AbG w t1 g1) (h2 : AbG w t2 g2) (hk : TgOk vs (gTup K 2 (gCons t1 (gCons t2 gNil)))) (ht : AbT w tt ut) (he : AbE w te ue) :
    AbE w (tLc (iEnum K (tCons (tVar i) tNil)) (gTup K 2 (gCons t1 (gCons t2 gNil))) tt te vs) (uLcE i g1 g2 ut ue vs) := fun G W s σ H Q q M0 k hu => by
  unfold uLcE at hu
  obtain ⟨n, xs, hx, ho, I, h0, hs, hd⟩ := hu
  obtain ⟨v, hv, a, rfl, ha⟩ := M0.sl i _ hx
  obtain ⟨a', p1, p2, us0, p3, p4⟩ := M0.ob n _ ho
  obtain rfl := Option.some.inj (ha.symm.trans p1)
  obtain ⟨e0, m0⟩ := M0.ice ho ha p3
  have at0 : (W.frz a (.lst us0)).F a = some (.lst us0) := upd_same
  have rp0 : Paired (RepV (W.frz a (.lst us0)) G.δ) us0 xs := repVs_ext e0 p4
  have len0 := rp0.length
  refine ⟨_, hv, a, us0, rfl, SqL.of p3, fun D hD => ?_⟩
  have st : Mv w G (W.frz a (.lst us0)) s.r σ D (upd H D (.lst [])) (s.o.set n none) s.d [] (W.frz a (.lst us0)) [] := ⟨Ext.refl _, m0.same (same_upd hD), m0.free hD, upd_same, .nil⟩
  refine ⟨fun j n' H => n' = xs.length - j ∧ j ≤ xs.length ∧ ∃ W' o dr acc us, Mv w G (W.frz a (.lst us0)) s.r σ D H o dr acc W' us ∧ I j acc o dr, ⟨xs.length, by omega, Nat.zero_le _, _, _, _, [], [], st, h0⟩, ?_⟩
  rintro j n' H2 ⟨rfl, hle, W2, o, dr, acc, us, c, hI⟩
  have sq : SqL K H2 a us0 := SqL.of (frozen_at at0 ⟨_, .inl rfl⟩ c.ext.f c.m)
  by_cases hlt : j < xs.length
  · refine .inr ⟨⟨us0, us0[j]'(by omega), sq, by simp [show j < us0.length by omega]⟩, fun H => j + 1 ≤ xs.length ∧ ∃ W' o dr acc us, Mv w G (W.frz a (.lst us0)) s.r σ D H o dr acc W' us ∧ I (j + 1) acc o dr, fun H' ⟨z1, z2⟩ => ⟨xs.length - (j + 1), by omega, rfl, z1, z2⟩, fun v H3 hy => hk.at' ?_⟩
    obtain ⟨T, x, y1, y2, y3, y4⟩ := hy
    have y4 := y4 us0 sq
    obtain ⟨y, hy, ry⟩ := paired_at rp0 y4
    subst y1
    subst y3
    obtain ⟨e3, m3⟩ := (c.inn vs).newF (o := .tup [.int ((j : Nat) : Int), x]) y2
    have ry3 := (ry.ext c.ext).ext e3
    refine ⟨T, _, rfl, SqT.of upd_same, rfl, ?_⟩
    refine ⟨_, _, rfl, h1 _ _ _ _ _ _ (.d (.int ((j : Nat) : Int))) _ _ m3 (Rep.int _) (fun W4 s4 σ4 H4 e4 m4 q4 => ?_) (hs j y acc o dr hy hI)⟩
    refine ⟨_, _, rfl, h2 _ _ _ _ _ _ y _ _ m4 (ry3.ext e4) (fun W5 s5 σ5 H5 e5 m5 q5 => ⟨rfl, ?_⟩) q4⟩
    refine ht _ W5 s5 σ5 H5 _ _ m5 (fun W6 s6 H6 b e6 m6 h6 => ?_) q5
    have e36 := e3.trans (e4.trans (e5.trans e6))
    cases b with
    | false => exact ⟨hlt, W6, _, _, acc, us, c.out e36 m6, h6⟩
    | true =>
      refine he _ W6 s6 σ5 H6 _ _ m6 (fun W7 s7 H7 v7 y7 e7 m7 r7 ⟨z6, z7⟩ => ?_) h6
      have c7 := c.out (e36.trans e7) m7
      exact ⟨us, c7.at_, by rw [c7.rep.length]; exact z6, hlt, W7, _, _, acc ++ [y7], us ++ [v7], c7.more r7, z7⟩
  · have e : j = xs.length := by omega
    subst e
    exact .inl ⟨⟨us0, sq, by omega⟩, c.m.mkV true c.unc c.at_ c.rep (k.up (e0.trans c.ext)) (hd acc o dr hI)⟩
def dAny : List Vd → TEd := fun xs s q => d1 xs fun x => dList x s fun ds => ∃ bs : List Bool, ds = bs.map PyData.bool ∧ q (.d (.bool (bs.any id))) s
theorem abc_any {K : PySem.W.Frag} : AbC w (rAny K) dAny := fun G W s σ H vs xs Q q M1 r k h => by
  obtain ⟨v, x, rfl, rfl, r, h⟩ := d1_of r h
  obtain ⟨a, us, ds, rfl, e2, t, bs, rfl, h⟩ := dList_of M1 r h
  obtain rfl := RepA.ofBools t
  exact ⟨a, bs, rfl, SqL.of e2, k.md M1 (Rep.bl _) h⟩
end
end Dt


set_option autoImplicit false
set_option Elab.async false
set_option autoImplicit false
set_option linter.all false
set_option maxRecDepth 100000
set_option maxHeartbeats 4000000
/-! The data layer: sorted({an int for x in ..}). -/
namespace Dt
open PySem PySem.Spec L2 Kt
section
variable {w : Ww} {G : Gm} {W : Wd} {s : Sd} {σ : L2.St} {H : Hp}
def Gn (G : Gm) (p : Addr) (o : HO) : Gm := { G with h := upd G.h p o, nc := fun b => b = p ∨ G.nc b }
theorem M.guardN {p : Addr} {o : HO} (m : M w G W s σ H) (fr : Unc G W p) (hp : H p = some o) (nt : ∀ ts, o ≠ .tbl ts) (hn : NoCode w.T H p) : M w (Gn G p o) W s σ H where
  fz := m.fz
  lk := m.lk
  fr := fun b v q h l => by
    have q' : upd G.h p o b = some v := q
    by_cases z : b = p
    · subst z
      rw [upd_same] at q'
      rw [hp]
      exact q'
    · rw [upd_ne z] at q'
      exact m.fr b v q' h l
  len := m.len
  sl := m.sl
  ob := m.ob
  al := fun n a q => by
    obtain ⟨h0, h1, h2, h3⟩ := m.al n a q
    exact ⟨h0, (upd_ne fun z => fr.2.2.2.2 n (by rw [← z]; exact q)).trans h1, h2, h3⟩
  inj := m.inj
  dw := m.dw
  dn := m.dn
  nf := fun a u q => (m.nf a u q).imp id fun h1 => (upd_ne (ne_of_none q fr.1)).trans h1
  gf := fun a u q => by
    obtain ⟨v, hv⟩ := m.gf a u q
    exact ⟨v, (upd_ne (ne_of_none hv fr.2.2.1)).trans hv⟩
  lz := m.lz
  tx := ⟨m.tx.tb, m.tx.fn, fun a ts z => by
    have z' : upd G.h p o a = some (.tbl ts) := z
    by_cases y : a = p
    · subst y
      rw [upd_same] at z'
      exact nt ts (Option.some.inj z')
    · rw [upd_ne y] at z'
      exact m.tx.gn a ts z', m.tx.an, fun b u q z => by
    by_cases y : b = p
    · subst y
      exact hn
    · exact m.tx.gc b u ((upd_ne y).symm.trans q) (z.resolve_left y)⟩
theorem M.unguardN {p : Addr} {o : HO} (m : M w (Gn G p o) W s σ H) (hn : G.h p = none) (hd : G.δ ≠ some p) (hl : p ∉ W.lk) (hF : W.F p = none) (gf : ∀ a o, G.f a = some o → ∃ u, G.h a = some u) : M w G W s σ H ∧ Unc G W p ∧ H p = some o ∧ NoCode w.T H p := by
  have top : upd G.h p o p = some o := upd_same
  have na : ∀ n, W.α n ≠ some p := fun n q => by
    obtain ⟨_, h1, _⟩ := m.al n p q
    have h1' : upd G.h p o p = none := h1
    rw [upd_same] at h1'
    cases h1'
  have ne : ∀ {a : Addr} {u : HO}, G.h a = some u → upd G.h p o a = some u := fun {a u} q => (upd_ne fun z => by rw [z, hn] at q; cases q).trans q
  refine ⟨⟨m.fz, m.lk, fun b v q h l => m.fr b v (ne q) h l, m.len, m.sl, m.ob, fun n a q => ?_, m.inj, m.dw, m.dn, fun a u q => ?_, gf, m.lz, ⟨m.tx.tb, m.tx.fn, fun a ts z => m.tx.gn a ts (ne z), m.tx.an, fun b u q z => m.tx.gc b u (ne q) (.inr z)⟩⟩, ⟨hF, hl, hn, hd, na⟩, m.fr p o top hd hl, m.tx.gc p o top (.inl rfl)⟩
  · obtain ⟨h0, h1, h2, h3⟩ := m.al n a q
    have h1' : upd G.h p o a = none := h1
    rw [upd_ne fun z => na n (by rw [← z]; exact q)] at h1'
    exact ⟨h0, h1', h2, h3⟩
  · refine (m.nf a u q).imp id fun h1 => ?_
    have h1' : upd G.h p o a = none := h1
    rw [upd_ne (ne_of_none q hF)] at h1'
    exact h1'
/-- a set on its way -/
structure Mn (w : Ww) (G : Gm) (W1 : Wd) (r1 : List (Option Vd)) (σ : L2.St) (D : Addr) (H : Hp) (o : List (Option Ob)) (dr : Drw) (S : Int → Bool) (n : Nat) (W : Wd) : Prop where
  ext : Ext W1 W
  m : M w G W ⟨r1, o, dr⟩ σ H
  unc : Unc G W D
  at_ : H D = some (SetO w.w D S n)
  nc : NoCode w.T H D
variable {W1 W2 : Wd} {r1 : List (Option Vd)} {D : Addr} {o : List (Option Ob)} {dr : Drw} {S : Int → Bool} {n : Nat} {σ2 : L2.St} {H2 : Hp} {s2 : Sd}
theorem setO_tbl {w : World} {a : Addr} {S : Int → Bool} {n : Nat} : ∀ ts, SetO w a S n ≠ .tbl ts := fun ts z => by unfold SetO at z; cases z
theorem noCode_upd {T : List (Addr × Str)} {H : Hp} {a : Addr} {u : HO} (t : LamX.Tabs T H) (h : ∀ ts, H a ≠ some (.tbl ts)) (n : NoCode T H a) : NoCode T (upd H a u) a := noCode_tab t (fun q hq => by
  obtain ⟨ps, h1, _⟩ := t q hq
  exact upd_ne fun z => h ps (by rw [← z]; exact h1)) n
theorem Mn.start (m : M w G W s σ H) (hD : H D = none) : Mn w G W s.r σ D (upd H D (SetO w.w D (fun _ => false) 0)) s.o s.d (fun _ => false) 0 W :=
  ⟨Ext.refl W, m.same (same_upd hD), m.free hD, upd_same, noCode_upd m.tx.tb (fun ts z => by rw [hD] at z; cases z) (noCode_of m.tx.tb fun c q z => by rw [hD] at z; cases z)⟩
theorem Mn.inn (c : Mn w G W1 r1 σ D H o dr S n W) (ns : List Nat) : M w (Gn G D (SetO w.w D S n)) W ⟨wipeD r1 ns, o, dr⟩ (wipe σ ns) H := by
  refine (c.m.guardN c.unc c.at_ setO_tbl c.nc).less (r' := wipeD r1 ns) (by rw [wipeD_len, wipe_length]; exact c.m.len) fun i x q => ?_
  obtain ⟨h1, h2⟩ := wipe_get (σ := σ) q
  rw [h2]
  exact c.m.sl i x h1
theorem Mn.out (c : Mn w G W1 r1 σ D H o dr S n W) (e : Ext W W2) (m : M w (Gn G D (SetO w.w D S n)) W2 s2 σ2 H2) : Mn w G W1 r1 σ D H2 s2.o s2.d S n W2 := by
  have hl : D ∉ W2.lk := by rw [e.2.2]; exact c.unc.2.1
  have hF : W2.F D = none := by
    cases q : W2.F D with
    | none => rfl
    | some v =>
      rcases m.nf D v q with h | h
      · obtain ⟨u, hu⟩ := c.m.gf D v h
        rw [c.unc.2.2.1] at hu
        cases hu
      · have h' : upd G.h D (SetO w.w D S n) D = none := h
        rw [upd_same] at h'
        cases h'
  obtain ⟨m', u, a, nc⟩ := m.unguardN c.unc.2.2.1 c.unc.2.2.2.1 hl hF c.m.gf
  exact ⟨c.ext.trans e, m'.less (r' := r1) c.m.len fun i x q => by
    obtain ⟨v, h1, h2⟩ := c.m.sl i x q
    exact ⟨v, h1, h2.ext e⟩, u, a, nc⟩
theorem Mn.more (c : Mn w G W1 r1 σ D H o dr S n W) (S' : Int → Bool) (n' : Nat) : Mn w G W1 r1 σ D (upd H D (SetO w.w D S' n')) o dr S' n' W := by
  have u := c.unc
  have m := c.m
  have nt : ∀ ts, H D ≠ some (HO.tbl ts) := fun ts z => setO_tbl ts (Option.some.inj (c.at_.symm.trans z))
  refine ⟨c.ext, ⟨fun a v q l => (upd_ne (ne_of_none q u.1)).trans (m.fz a v q l), fun a l => ?_, fun b v q h l => (upd_ne (ne_of_none q u.2.2.1)).trans (m.fr b v q h l), m.len, m.sl, fun i v q => ?_, fun i a q => ?_, m.inj, fun a q => ?_, m.dn, m.nf, m.gf, fun b od v q => ?_, m.tx.upd nt c.nc setO_tbl⟩, u, upd_same, noCode_upd m.tx.tb nt c.nc⟩
  · obtain ⟨ks, od, h1, h2⟩ := m.lk a l
    exact ⟨ks, od, h1, (upd_ne (show a ≠ D from fun z => u.2.1 (by rw [← z]; exact l))).trans h2⟩
  · obtain ⟨a, h1, h2, h3⟩ := m.ob i v q
    exact ⟨a, h1, h2, h3.stay (Ext.refl W) (upd_ne fun z => u.2.2.2.2 i (by rw [← z]; exact h1))⟩
  · obtain ⟨h0, h1, h2, v, h3⟩ := m.al i a q
    exact ⟨h0, h1, h2, v, (upd_ne fun z => u.2.2.2.2 i (by rw [← z]; exact q)).trans h3⟩
  · obtain ⟨t, h1, h2, i, k, c', h3, h4⟩ := m.dw a q
    exact ⟨t, h1, h2, i, k, c', (upd_ne (show a ≠ D from fun z => u.2.2.2.1 (by rw [← z]; exact q))).trans h3, h4⟩
  · refine (upd_ne fun z => ?_).trans (m.lz b od v q)
    have e := m.lz b od v q
    rw [z, c.at_] at e
    unfold SetO at e
    cases e
end
section
variable {w : Ww}
/-- the elements keep own things and draws -/
@[irreducible] def uSortedSC (m : Bool) (ui : TId) (g : TGd) (ue : TEd) (vs : List Nat) : TEd := fun s q => ui s fun xs s1 => ∃ ks : List Int, ks.length = xs.length ∧ ks.length < 4000 ∧
  (∀ (i : Nat) d, xs[i]? = some d → g (.d d) ⟨wipeD s1.r vs, s1.o, s1.d⟩ fun s2 => ue s2 fun y s3 => s3.o = s1.o ∧ s3.d = s1.d ∧ ∃ c : Int, y = .d (.int c) ∧ ks[i]? = some c) ∧
  ∀ ns : List Int, ns.Pairwise (· < ·) → (∀ k, k ∈ ns ↔ k ∈ ks) → mkL m (ns.map PyData.int) s1 q
theorem ab_sortedSC (m : Bool) {wi : TI} {g : TG} {te : TE} {vs : List Nat} {ui : TId} {gd : TGd} {ue : TEd} (hi : AbI w wi ui) (hg : AbG w g gd) (hk : TgOk vs g) (he : AbE w te ue) : AbE w (tCB (rSortedSetB w.w) (tCons (tScI w.w wi g te vs) tNil)) (uSortedSC m ui gd ue vs) := fun G W s σ H Q q M0 k hu => by
  unfold uSortedSC at hu
  refine hi G W s σ H _ _ M0 (fun W1 s1 H1 J xs e1 m1 j ⟨ks, hl, h4, hs, hd⟩ D hD => ?_) hu
  refine ⟨fun i n' H => n' = xs.length - i ∧ i ≤ xs.length ∧ ∃ W' n, n ≤ i ∧ Mn w G W1 s1.r σ D H s1.o s1.d (fun z => decide (z ∈ ks.take i)) n W', ⟨xs.length, by omega, Nat.zero_le _, W1, 0, Nat.le_refl _, ?_⟩, ?_⟩
  · have e : (fun z => decide (z ∈ ks.take 0)) = fun _ : Int => false := by
      funext z
      rw [List.take_zero]
      exact decide_eq_false (by simp)
    rw [e]
    exact Mn.start m1 hD
  · rintro i n' H2 ⟨rfl, hle, W2, n, hn, c⟩
    by_cases hlt : i < xs.length
    · refine .inr ⟨j.go G W2 _ σ H2 i (Gs.refl G) c.ext.f c.m hlt, fun H => i + 1 ≤ xs.length ∧ ∃ W' n, n ≤ i + 1 ∧ Mn w G W1 s1.r σ D H s1.o s1.d (fun z => decide (z ∈ ks.take (i + 1))) n W', fun H' ⟨z1, z2⟩ => ⟨xs.length - (i + 1), by omega, rfl, z1, z2⟩, fun v H3 hy => hk.at' ?_⟩
      obtain ⟨W3, d, hd3, e3, m3, r3⟩ := j.yld (Gn G D (SetO w.w D _ n)) W2 _ (wipe σ vs) H2 i v H3 ⟨rfl, rfl⟩ c.ext.f (c.inn vs) hlt hy
      refine hg _ W3 _ _ H3 v (.d d) _ _ m3 r3 (fun W4 s4 σ4 H4 e4 m4 q4 => ?_) (hs i d hd3)
      refine he _ W4 s4 σ4 H4 _ _ m4 (fun W5 s5 H5 v5 y e5 m5 r5 ⟨z1, z2, a, z3, z4⟩ => ?_) q4
      have c5 := c.out (e3.trans (e4.trans e5)) m5
      subst z3
      have r5' : Rep W5.F v5 (.int a) := r5
      cases r5'
      rw [z1, z2] at c5
      refine ⟨a, _, n, rfl, c5.at_, by unfold scanBound; omega, hlt, W5, if decide (a ∈ ks.take i) = true then n else n + 1, ?_, ?_⟩
      · split <;> omega
      · have e : (fun z => decide (z ∈ ks.take i) || decide (z = a)) = fun z => decide (z ∈ ks.take (i + 1)) := by
          funext z
          rw [List.take_add_one, z4, Bool.eq_iff_iff, Bool.or_eq_true, decide_eq_true_iff, decide_eq_true_iff, decide_eq_true_iff, List.mem_append]
          simp
        have := c5.more (fun z => decide (z ∈ ks.take i) || decide (z = a)) (if decide (a ∈ ks.take i) = true then n else n + 1)
        rw [e] at this
        rw [e]
        exact this
    · have e : i = xs.length := by omega
      subst e
      refine .inl ⟨j.stop G W2 _ σ H2 (Gs.refl G) c.ext.f c.m, D, _, n, rfl, c.at_, fun ns p up mem _ hp => ?_⟩
      refine c.m.newV m hp (of_repA (RepA.ints ns)) (k.up (e1.trans c.ext)) (mkL_V (hd ns up fun z => (mem z).trans ?_))
      rw [decide_eq_true_iff, ← hl, List.take_length]
end
end Dt


set_option autoImplicit false
set_option Elab.async false
set_option autoImplicit false
set_option linter.all false
set_option maxRecDepth 100000
set_option maxHeartbeats 4000000
/-! The data layer: xs[::k], k one or minus one. -/
namespace Dt
open PySem PySem.Spec L2 Kt PyProof.Rows
theorem pick_all {α : Type} (xs : List α) : pickV xs 0 xs.length 1 = xs := by
  unfold pickV sliceRange
  rw [if_pos (by decide)]
  have e : (if (0 : Int) < xs.length then ((xs.length : Int) - 0 + 1 - 1) / 1 else 0).toNat = xs.length := by
    split
    · rw [Int.ediv_one]; omega
    · omega
  have key : ∀ (l : List α), (List.range l.length).filterMap (fun k => l[k]?) = l := by
    intro l
    refine List.ext_getElem? fun i => ?_
    induction l generalizing i with
    | nil => rfl
    | cons x l ih =>
      rw [List.length_cons, List.range_succ_eq_map, List.filterMap_cons, List.filterMap_map]
      cases i with
      | zero => rfl
      | succ i => exact ih i
  have e2 : (fun (k : Nat) => ((0 : Int) + 1 * (k : Int)).toNat) = id := by
    funext k
    show ((0 : Int) + 1 * (k : Int)).toNat = k
    omega
  show List.filterMap _ (List.map _ (List.range (if (0 : Int) < xs.length then ((xs.length : Int) - 0 + 1 - 1) / 1 else 0).toNat)) = _
  rw [e, e2, List.map_id]
  exact key xs
section
variable {X : Cx}
def turnL {α : Type} (k : Int) (xs : List α) : List α := if k = 1 then xs else xs.reverse
def tSlS (K : PySem.W.Frag) (te tc : TE) : TE := fun σ H Q => te σ H fun x H1 => tPart tc σ H1 fun st H2 => ∃ (a : Addr) (xs : List V) (k : Int), x = .ref a ∧ st = some k ∧ (k = 1 ∨ k = -1) ∧ SqL K H2 a xs ∧ ∀ p, H2 p = none → Q (.ref p) (upd H2 p (.lst (turnL k xs)))
theorem pick_turn {its : List Value} {k : Int} (h : k = 1 ∨ k = -1) : slicePick its.toArray none none (some k) = (turnL k its).toArray := by
  rcases h with rfl | rfl
  · unfold slicePick
    have b : sliceBounds none none (some 1) its.toArray.size = (0, (its.length : Int), 1) := by
      simp only [sliceBounds, Option.getD_some, Option.getD_none, if_true, List.size_toArray]
      rfl
    rw [b]
    show (List.filterMap _ _).toArray = _
    have e := pick_all its
    unfold pickV at e
    unfold turnL
    rw [if_pos rfl]
    conv => rhs; rw [← e]
    congr 1
    refine congrArg (fun f => (sliceRange 0 its.length 1).filterMap f) (funext fun t => ?_)
    simp
  · rw [PySem.W.krv_pick]
    unfold turnL
    rw [if_neg (by decide)]
theorem turn_len {α : Type} (k : Int) (xs : List α) : (turnL k xs).length = xs.length := by
  unfold turnL
  split
  · rfl
  · exact List.length_reverse
theorem vals_turn {vs : List V} {us : List Value} (k : Int) (r : Vals vs us) : Vals (turnL k vs) (turnL k us) := by
  unfold turnL
  split
  · exact r
  · exact r.reverse
theorem pe_slS {e ec : Expr} {te tc : TE} {p3 pos : Pos} (he : PE X e te) (hst : PE X ec tc) : PE X (.Subscript e (.Slice none none (some ec) p3) pos) (tSlS X.K te tc) := by
  refine ⟨fun pins s σ H Q I h => ?_⟩
  refine Subscript_ (thn (he.run pins s σ H _ I h) fun v s1 ⟨x, H1, I1, r1, q1⟩ => ?_)
  refine wpAny_Slice (thn (po_none.run pins s1 σ H1 (fun o H2 => o = none ∧ H2 = H1) I1 ⟨rfl, rfl⟩) fun vl s2 ⟨l, H2, I2, pl, el, e2⟩ => ?_)
  subst el e2
  refine thn (po_none.run pins s2 σ H2 (fun o H3 => o = none ∧ H3 = H2) I2 ⟨rfl, rfl⟩) fun vu s3 ⟨u, H3, I3, pu, eu, e3⟩ => ?_
  subst eu e3
  refine thn ((po_some hst).run pins s3 σ H3 _ I3 q1) fun vs s4 ⟨st, H4, I4, ps, q4⟩ => ?_
  obtain ⟨a, xs, k, rfl, rfl, hk, hx, q⟩ := q4
  cases r1
  have I5 : Inv X pins σ H4 { s4 with heap := s4.heap.push { cls := .type "slice", data := .fields #[vl, vu, vs] } } := I4.kept (t' := s4.toks) fun b ob q => Heap.get?_push_of_some _ q
  obtain ⟨its, r, ht, hz⟩ := I5.list hx
  have hlen := r.length
  show wpAny (model X.prog X.w) X.A (subscriptTail e (.Slice none none (some ec) p3) (.ref a) (.ref s4.heap.objs.size)) (EP X pins σ Q) X.xe { s4 with heap := s4.heap.push { cls := .type "slice", data := .fields #[vl, vu, vs] } }
  refine tail_any (ops := [.ref a, .ref s4.heap.objs.size]) ht.isList.typeIs (PySem.slot_list_getitem.lookup) ?_ (by with_unfolding_all rfl)
  refine wpAny_getItem_list_slice ht.isList (Heap.IsSliceOf.new _ vl vu vs) pl pu ps (fun z => by have := Option.some.inj z; omega) ?_ (by rw [List.size_toArray]; omega)
  rw [pick_turn hk]
  refine ⟨.ref _, _, I5.laid (t' := s4.toks) (o := .lst (turnL k xs)) (fun b ob q => Heap.get?_push_of_some _ q) (Nat.le_refl _) ?_, rfl, q _ (I5.hok.fresh (Nat.le_refl _))⟩
  exact ⟨by rw [turn_len]; exact hz, _, 0, vals_turn k r, Heap.get?_push_size _ rfl⟩
end
section
variable {w : Ww}
def uSlS (m : Bool) (ux uc : TEd) : TEd := fun s q => ux s fun x s1 => uc s1 fun y s2 => dInt y fun k => (k = 1 ∨ k = -1) ∧ dList x s2 fun ds => mkL m (turnL k ds) s2 q
theorem ab_slS {K : PySem.W.Frag} (m : Bool) {t tc : TE} {ux uc : TEd} (hx : AbE w t ux) (hc : AbE w tc uc) : AbE w (tSlS K t tc) (uSlS m ux uc) := fun G W s σ H Q q M0 k h => by
  refine hx G W s σ H _ _ M0 (fun W1 s1 H1 v x e1 m1 r1 h1 => ?_) h
  refine hc G W1 s1 σ H1 _ _ m1 (fun W2 s2 H2 v2 y e2 m2 r2 h2 => ?_) h1
  obtain ⟨i, rfl, rfl, hi, h2⟩ := dInt_of r2 h2
  obtain ⟨a, vs, ds, rfl, f1, t1, h2⟩ := dList_of m2 (r1.ext e2) h2
  refine ⟨i, rfl, a, vs, i, rfl, rfl, hi, SqL.of f1, fun p hp => m2.newL m hp ?_ (k.up (e1.trans e2)) h2⟩
  unfold turnL
  split
  · exact t1
  · exact t1.reverse
/-- a op b op' c -/
def uChain (rd rd' : Vd → Vd → TEd) (ua ub uc : TEd) : TEd := fun s q => ua s fun x s1 => ub s1 fun y s2 => rd x y s2 fun z s3 => dB z fun b => if b = true then uc s3 fun y' s4 => rd' y y' s4 q else q (.d (.bool false)) s3
theorem ab_chain {r r' : R2} {rd rd' : Vd → Vd → TEd} {ta tb tc : TE} {ua ub uc : TEd} (hr : AbR w r rd) (hr' : AbR w r' rd') (ha : AbE w ta ua) (hb : AbE w tb ub) (hc : AbE w tc uc) : AbE w (tChain r r' ta tb tc) (uChain rd rd' ua ub uc) := fun G W s σ H Q q M0 k h => by
  refine ha G W s σ H _ _ M0 (fun W1 s1 H1 v1 x e1 m1 r1 h1 => ?_) h
  refine hb G W1 s1 σ H1 _ _ m1 (fun W2 s2 H2 v2 y e2 m2 r2 h2 => ?_) h1
  refine hr G W2 s2 σ H2 v1 v2 x y _ _ m2 (r1.ext e2) r2 (fun W3 s3 H3 v3 z e3 m3 r3 h3 => ?_) h2
  obtain ⟨b, rfl, h3⟩ := dB_of r3 h3
  refine ⟨b, rfl, ?_⟩
  cases b with
  | false => exact k _ _ _ _ (.d (.bool false)) (e1.trans (e2.trans e3)) m3 (Rep.bl false) h3
  | true =>
    refine hc G W3 s3 σ H3 _ _ m3 (fun W4 s4 H4 v4 y' e4 m4 r4 h4 => ?_) h3
    exact hr' G W4 s4 σ H4 _ _ _ _ Q q m4 (r2.ext (e3.trans e4)) r4 (k.up (e1.trans (e2.trans (e3.trans e4)))) h4
end
end Dt


set_option autoImplicit true
set_option Elab.async false
set_option linter.all false
set_option maxRecDepth 100000
set_option maxHeartbeats 4000000
namespace K51
open PySem L2 Kt PyProof.Rows
def tp (i : Nat) : Stmt := PySem.Challenge.pw_keptsorted_k51_whole_shear.main.body.getD i (.Pass ⟨0, 0, 0, 0⟩)
abbrev sWhole : Stmt := tp 6
abbrev sWithin : Stmt := tp 7
abbrev sChNum : Stmt := tp 8
abbrev sChFill : Stmt := tp 9
abbrev sChRow : Stmt := tp 10
abbrev sFault : Stmt := tp 11
abbrev sLDraws : Stmt := tp 34
abbrev sLNext : Stmt := tp 35
/-- the built-ins stand under their own names -/
structure Nb (mg : Str → Option Value) : Prop where
  len : mg "len" = none
  isi : mg "isinstance" = none
  int : mg "int" = none
  bool : mg "bool" = none
  list : mg "list" = none
  enum : mg "enumerate" = none
  set : mg "set" = none
  zip : mg "zip" = none
  sorted : mg "sorted" = none
  range : mg "range" = none
  repr : mg "repr" = none
  min : mg "min" = none
  any : mg "any" = none
  sum : mg "sum" = none
section
variable {P : Program} {w : World} {K : PySem.W.Frag} {mg : Str → Option Value} {base : Heap}
/-! ### is_whole, is_whole_within -/
def spWhole : Sp := fun vs H Q _ => ∃ i : Int, vs = [.int i] ∧ Q (.bl true) H
theorem scWhole : FnScope ["thing"] ["thing"] (defScope sWhole) := ⟨rfl, rfl, rfl, by decide +kernel, rfl, by decide +kernel, by decide +kernel⟩
theorem ok_whole {f : Addr} {fd : FuncData} (F : Fun K "is_whole" "is_whole" sWhole f fd) (N : Nb mg) : FnOk P w K mg base CX0 1 f fd ["thing"] spWhole := by
  refine F.ok scWhole (fun vs H Q E h => ?_) (fun cdv A outer s H vs Q E hr h => ?_)
  · obtain ⟨i, rfl, _⟩ := h
    rfl
  · obtain ⟨i, rfl, k⟩ := h
    refine ⟨_, pss_one (ps_ret (pe_and (pe_callB call_isi (by rfl) N.isi (by decide +kernel) (pa_cons (pv 0) (pa_cons (pe_bltn (v := .ty "int") (by rfl) N.int (by decide +kernel) rfl) pa_nil)))
      (pe_one (pe_not (pe_callB call_isi (by rfl) N.isi (by decide +kernel) (pa_cons (pv 0) (pa_cons (pe_bltn (v := .ty "bool") (by rfl) N.bool (by decide +kernel) rfl) pa_nil))))))), ?_⟩
    refine ⟨_, rfl, _, _, _, _, _, rfl, .ty "int", .base (.int i), kit_ty (by decide +kernel), true, rfl, iteT ?_⟩
    exact ⟨_, rfl, _, _, _, _, _, rfl, .ty "bool", .base (.int i), kit_ty (by decide +kernel), false, rfl, k⟩
def spWithin : Sp := fun vs H Q _ => ∃ i a b : Int, vs = [.int i, .int a, .int b] ∧ Q (.bl (decide (a ≤ i) && decide (i ≤ b))) H
theorem scWithin : FnScope ["thing", "least", "most"] ["thing", "least", "most"] (defScope sWithin) := ⟨rfl, rfl, rfl, by decide +kernel, rfl, by decide +kernel, by decide +kernel⟩
theorem ok_within {f f1 : Addr} {fd fd1 : FuncData} (F : Fun K "is_whole_within" "is_whole_within" sWithin f fd) (G : FnOk P w K mg base CX0 1 f1 fd1 ["thing"] spWhole) (b1 : Binds K fd1 ["thing"] []) (m1 : mg "is_whole" = some (.ref f1)) (k1 : PySem.W.keepIn K (.ref f1) = true) :
    FnOk P w K mg base CX0 2 f fd ["thing", "least", "most"] spWithin := by
  refine F.ok scWithin (fun vs H Q E h => ?_) (fun cdv A outer s H vs Q E hr h => ?_)
  · obtain ⟨i, a, b, rfl, _⟩ := h
    rfl
  · obtain ⟨i, a, b, rfl, k⟩ := h
    refine ⟨_, pss_one (ps_ret (pe_and (pe_call G hr (by rfl) m1 k1 b1 .nil pass0 (pa_cons (pv 0) pa_nil)) (pe_one (pe_chain op_le op_le (pv 1) (pv 0) (pv 2))))), ?_⟩
    refine ⟨_, rfl, i, rfl, true, rfl, iteT ?_⟩
    refine ⟨_, rfl, _, rfl, _, _, rfl, rfl, _, rfl, ?_⟩
    by_cases h1 : a ≤ i
    · refine ite2 (fun _ => ⟨_, rfl, _, _, rfl, rfl, ?_⟩) fun z => absurd (decide_eq_true h1) z
      rw [decide_eq_true h1, Bool.true_and] at k
      exact k
    · refine ite2 (fun z => absurd (of_decide_eq_true z) h1) fun _ => ?_
      rw [decide_eq_false h1, Bool.false_and] at k
      exact k
/-! ### check_number -/
def spChNum : Sp := fun vs H Q _ => ∃ i m : Int, vs = [.int i, .int m] ∧ 1 ≤ i ∧ i ≤ m ∧ Q .non H
theorem scChNum : FnScope ["number", "most"] ["number", "most"] (defScope sChNum) := ⟨rfl, rfl, rfl, by decide +kernel, rfl, by decide +kernel, by decide +kernel⟩
theorem ok_chNum {f f2 : Addr} {fd fd2 : FuncData} (F : Fun K "check_number" "check_number" sChNum f fd) (G : FnOk P w K mg base CX0 2 f2 fd2 ["thing", "least", "most"] spWithin) (b2 : Binds K fd2 ["thing", "least", "most"] [])
    (m2 : mg "is_whole_within" = some (.ref f2)) (k2 : PySem.W.keepIn K (.ref f2) = true) : FnOk P w K mg base CX0 3 f fd ["number", "most"] spChNum := by
  refine F.ok scChNum (fun vs H Q E h => ?_) (fun cdv A outer s H vs Q E hr h => ?_)
  · obtain ⟨i, m, rfl, _⟩ := h
    rfl
  · obtain ⟨i, m, rfl, h1, h40, k⟩ := h
    refine ⟨_, pss_one (ps_if (pt_not (pt_val (pe_call G hr (by rfl) m2 k2 b2 .nil pass0 (pa_cons (pv 0) (pa_cons pe_int (pa_cons (pv 1) pa_nil)))))) (pss_one ps_never) pss_nil), ?_⟩
    refine ⟨_, rfl, _, rfl, _, 1, m, rfl, ?_⟩
    have e : (decide ((1 : Int) ≤ i) && decide (i ≤ m)) = true := by
      rw [Bool.and_eq_true]
      exact ⟨decide_eq_true (by omega), decide_eq_true (by omega)⟩
    rw [e]
    exact ⟨true, rfl, iteF k⟩
/-! ### check_filling -/
def spChFill : Sp := fun vs H Q _ => ∃ (a : Addr) (xs : List Int), vs = [.ref a] ∧ LI H a xs ∧ 1 ≤ xs.length ∧ xs.length ≤ 40 ∧ ∀ H', Same H H' → Q .non H'
theorem scChFill : FnScope ["filling", "index", "thing"] ["filling"] (defScope sChFill) := ⟨rfl, rfl, rfl, by decide +kernel, rfl, by decide +kernel, by decide +kernel⟩
theorem ok_chFill {f f1 : Addr} {fd fd1 : FuncData} {tm : Tok} (F : Fun K "check_filling" "check_filling" sChFill f fd) (N : Nb mg) (mm : mg "MOST_PLACES" = some (.int 40 tm)) (G : FnOk P w K mg base CX0 1 f1 fd1 ["thing"] spWhole) (b1 : Binds K fd1 ["thing"] [])
    (m1 : mg "is_whole" = some (.ref f1)) (k1 : PySem.W.keepIn K (.ref f1) = true) : FnOk P w K mg base CX0 2 f fd ["filling"] spChFill := by
  refine F.ok scChFill (fun vs H Q E h => ?_) (fun cdv A outer s H vs Q E hr h => ?_)
  · obtain ⟨a, xs, rfl, _⟩ := h
    rfl
  · obtain ⟨a, xs, rfl, hx, h1, h40, k⟩ := h
    refine ⟨_, pss_cons (ps_if (PW.pt (pw_or (pt_not (pt_val (pe_callB call_isi (by rfl) N.isi (by decide +kernel) (pa_cons (pv 0) (pa_cons (pe_bltn (v := .ty "list") (by rfl) N.list (by decide +kernel) rfl) pa_nil)))))
        (pw_or1 (pt_not (pt_chain op_le op_le pe_int (pe_callB call_len_seq (by rfl) N.len PySem.boot_len (pa_cons (pv 0) pa_nil)) (pe_glob (v := .int 40) rfl mm ⟨_, rfl⟩)))))) (pss_one ps_never) pss_nil)
      (pss_one (ps_for PassesOwn.never rfl (pi_enum (by rfl) N.enum (pa_cons (pv 0) pa_nil)) (pg_tup rfl (pgs_cons (pg_name (i := 1) scChFill.nd rfl (.inl rfl)) (pgs_cons (pg_name (i := 2) scChFill.nd rfl (.inl rfl)) pgs_nil)))
        (pss_one (ps_if (pt_not (pt_val (pe_call G hr (by rfl) m1 k1 b1 .nil pass0 (pa_cons (pv 2) pa_nil)))) (pss_one ps_never) pss_nil)))), ?_⟩
    refine ⟨_, rfl, _, _, _, _, _, rfl, .ty "list", .base (.lst hx), kit_ty (by decide +kernel), true, rfl, iteF ?_⟩
    refine ⟨_, rfl, a, _, rfl, .inl (SqL.of hx), _, _, rfl, rfl, _, rfl, ?_⟩
    have e1 : decide ((1 : Int) ≤ ((xs.map V.int).length : Int)) = true := decide_eq_true (by rw [List.length_map]; omega)
    have e2 : decide (((xs.map V.int).length : Int) ≤ (40 : Int)) = true := decide_eq_true (by rw [List.length_map]; omega)
    rw [e1]
    refine iteT ⟨_, _, rfl, rfl, _, rfl, ?_⟩
    rw [e2]
    refine iteF ?_
    refine ⟨_, rfl, a, _, rfl, SqL.of hx, for_it walk_enum (fun _ σ H' => (∃ x y, σ = [some (.ref a), x, y]) ∧ Same H H') ⟨⟨_, _, rfl⟩, Same.refl H⟩ (fun i σ H' _ q => SqL.of (q.2 _ _ hx)) ?_ (fun σ H' q => k _ q.2)⟩
    rintro i v σ H1 H2 hi ⟨⟨x, y, rfl⟩, sm⟩ ⟨T, u, z, rfl, hT, rfl, hu, hz⟩
    obtain ⟨n, _, rfl⟩ := map_get hz
    refine ⟨T, _, rfl, SqT.of upd_same, rfl, _, _, rfl, _, _, rfl, rfl, ?_⟩
    refine ⟨_, rfl, n, rfl, true, rfl, iteF ?_⟩
    exact ⟨⟨_, _, rfl⟩, sm.trans (same_upd hT)⟩
/-! ### fault_of_family -/
def spFault : Sp := fun vs H Q _ => ∃ (n : Nat) (a : Addr) (fm : List (List Int)), vs = [.int n, .ref a] ∧ Fam H a fm ∧ Valid n fm ∧ n ≤ 40 ∧ ∀ H', Same H H' → Q .non H'
theorem scFault : FnScope ["places", "family", "met", "at", "chain", "index", "thing"] ["places", "family"] (defScope sFault) := ⟨rfl, rfl, rfl, by decide +kernel, rfl, by decide +kernel, by decide +kernel⟩
/-- what was met before the j-th place of the i-th chain -/
def seen (f : List (List Int)) (i : Nat) (c : List Int) (j : Nat) : List Int := (f.take i).flatten ++ c.take j
theorem seen_next {f : List (List Int)} {i : Nat} {c : List Int} (h : f[i]? = some c) : seen f i c c.length = (f.take (i + 1)).flatten := by
  unfold seen
  rw [List.take_length, List.take_add_one, h, Option.toList_some, List.flatten_append]
  simp
theorem seen_step {f : List (List Int)} {i j : Nat} {c : List Int} {x : Int} (h : c[j]? = some x) : seen f i c (j + 1) = seen f i c j ++ [x] := by
  unfold seen
  rw [List.take_add_one, h, Option.toList_some, List.append_assoc]
theorem seen_pre {f : List (List Int)} {i j : Nat} {c : List Int} (h : f[i]? = some c) : ∃ r, f.flatten = seen f i c j ++ r := by
  have e : f = f.take i ++ c :: f.drop (i + 1) := by
    have hi := (List.getElem?_eq_some_iff.mp h)
    obtain ⟨h1, h2⟩ := hi
    rw [← h2, List.getElem_cons_drop, List.take_append_drop]
  refine ⟨c.drop j ++ (f.drop (i + 1)).flatten, ?_⟩
  unfold seen
  conv => lhs; rw [e]
  rw [List.flatten_append, List.flatten_cons, List.append_assoc, ← List.append_assoc (c.take j), List.take_append_drop]
theorem seen_new {f : List (List Int)} {i j : Nat} {c : List Int} {x : Int} (nd : f.flatten.Nodup) (h : f[i]? = some c) (hx : c[j]? = some x) : x ∉ seen f i c j := by
  obtain ⟨r, e⟩ := seen_pre (j := j + 1) h
  rw [seen_step hx] at e
  rw [e] at nd
  obtain ⟨n1, _, _⟩ := List.nodup_append.mp nd
  obtain ⟨_, _, n2⟩ := List.nodup_append.mp n1
  exact fun z => n2 x z x List.mem_cons_self rfl
theorem seen_len {n : Nat} {f : List (List Int)} {i j : Nat} {c : List Int} (v : Valid n f) (h : f[i]? = some c) : (seen f i c j).length ≤ n := by
  obtain ⟨r, e⟩ := seen_pre (j := j) h
  have := v.len
  rw [e, List.length_append] at this
  omega
/-- the set of those met -/
def MetO (w : World) (m : Addr) (l : List Int) : HO := SetO w m (fun k => decide (k ∈ l)) l.length
theorem met_new (w : World) (m : Addr) : SetO w m (fun _ => false) 0 = MetO w m [] := by
  unfold MetO
  congr 1
  all_goals (funext k; simp)
theorem met_add (w : World) (m : Addr) (l : List Int) (x : Int) (h : x ∉ l) : SetO w m (fun j => decide (j ∈ l) || decide (j = x)) (if decide (x ∈ l) = true then l.length else l.length + 1) = MetO w m (l ++ [x]) := by
  unfold MetO
  rw [if_neg (by simpa using h), List.length_append]
  congr 1
  all_goals (funext k; simp)
def SetAt (H0 H : Hp) (w : World) (m : Addr) (l : List Int) : Prop := Same H0 H ∧ H0 m = none ∧ H m = some (MetO w m l)
theorem ok_fault {f f2 : Addr} {fd fd2 : FuncData} (F : Fun K "fault_of_family" "fault_of_family" sFault f fd) (N : Nb mg) (G : FnOk P w K mg base CX0 2 f2 fd2 ["thing", "least", "most"] spWithin) (b2 : Binds K fd2 ["thing", "least", "most"] [])
    (m2 : mg "is_whole_within" = some (.ref f2)) (k2 : PySem.W.keepIn K (.ref f2) = true) : FnOk P w K mg base CX0 3 f fd ["places", "family"] spFault := by
  refine F.ok scFault (fun vs H Q E h => ?_) (fun cdv A outer s H vs Q E hr h => ?_)
  · obtain ⟨n, a, fm, rfl, _⟩ := h
    rfl
  · obtain ⟨n, a, fm, rfl, ⟨as, hf, hp⟩, v, hn, k⟩ := h
    refine ⟨_, pss_cons (ps_if (pt_not (pt_val (pe_callB call_isi (by rfl) N.isi (by decide +kernel) (pa_cons (pv 1) (pa_cons (pe_bltn (v := .ty "list") (by rfl) N.list (by decide +kernel) rfl) pa_nil))))) (pss_one ps_never) pss_nil)
      (pss_cons (ps_set (i := 2) scFault.nd rfl (.inl rfl) (pe_callTy0 cr_set0 (by rfl) N.set (by decide +kernel)))
      (pss_cons (ps_for PassesOwn.never rfl (pi_enum (by rfl) N.enum (pa_cons (pv 1) pa_nil)) (pg_tup rfl (pgs_cons (pg_name (i := 3) scFault.nd rfl (.inl rfl)) (pgs_cons (pg_name (i := 4) scFault.nd rfl (.inl rfl)) pgs_nil)))
        (pss_cons (ps_if (pt_not (pt_val (pe_callB call_isi (by rfl) N.isi (by decide +kernel) (pa_cons (pv 4) (pa_cons (pe_bltn (v := .ty "list") (by rfl) N.list (by decide +kernel) rfl) pa_nil))))) (pss_one ps_never) pss_nil)
        (pss_one (ps_for PassesOwn.never rfl (pi_enum (by rfl) N.enum (pa_cons (pv 4) pa_nil)) (pg_tup rfl (pgs_cons (pg_name (i := 5) scFault.nd rfl (.inl rfl)) (pgs_cons (pg_name (i := 6) scFault.nd rfl (.inl rfl)) pgs_nil)))
          (pss_cons (ps_if (PW.pt (pw_or (pt_not (pt_val (pe_call G hr (by rfl) m2 k2 b2 .nil pass0 (pa_cons (pv 6) (pa_cons pe_int (pa_cons (pv 0) pa_nil)))))) (pw_or1 (pt_cmpR or_sin (pv 6) (pv 2) (by rfl))))) (pss_one ps_never) pss_nil)
          (pss_one (ps_expr (pe_sadd (pv 2) (pa_cons (pv 6) pa_nil)))))))))
      (pss_one (ps_ret pe_non)))), ?_⟩
    refine ⟨_, rfl, _, _, _, _, _, rfl, .ty "list", .base (.lst hf), kit_ty (by decide +kernel), true, rfl, iteF ?_⟩
    refine ⟨rfl, fun m hm => ?_⟩
    refine ⟨_, rfl, a, _, rfl, SqL.of ((upd_ne (ne_of_none hf hm)).trans hf), for_it walk_enum (fun i σ H' => (∃ x y z u, σ = [some (.int n), some (.ref a), some (.ref m), x, y, z, u]) ∧ SetAt H H' w m (fm.take i).flatten) ⟨⟨_, _, _, _, rfl⟩, same_upd hm, hm, ?_⟩ (fun i σ H' _ q => SqL.of (q.2.1 _ _ hf)) ?_ (fun σ H' q => k _ q.2.1)⟩
    · rw [upd_same, met_new]
      rfl
    rintro i v1 σ H1 H2 hi ⟨⟨x, y, z, u, rfl⟩, sm, hm0, hm1⟩ ⟨T, t1, t2, rfl, hT, rfl, e1, e2⟩
    obtain ⟨ca, hca, rfl⟩ := map_get e2
    obtain ⟨c, hc, hL⟩ := pget hp hca
    have s2 : Same H (upd H1 T (.tup [t1, V.ref ca])) := sm.trans (same_upd hT)
    have hL2 := hL.same s2
    have nmT : m ≠ T := ne_of_none hm1 hT
    refine ⟨T, _, rfl, SqT.of upd_same, rfl, _, _, rfl, _, _, rfl, rfl, ?_⟩
    refine ⟨_, rfl, _, _, _, _, _, rfl, .ty "list", .base (.lst hL2), kit_ty (by decide +kernel), true, rfl, iteF ?_⟩
    refine ⟨_, rfl, ca, _, rfl, SqL.of hL2, for_it walk_enum (fun j σ H' => (∃ x y z, σ = [some (.int n), some (.ref a), some (.ref m), x, some (.ref ca), y, z]) ∧ SetAt H H' w m (seen fm i c j)) ⟨⟨_, _, _, rfl⟩, s2, hm0, ?_⟩ (fun j σ H' _ q => SqL.of (hL.same q.2.1)) ?_ ?_⟩
    · rw [upd_ne nmT, hm1]
      unfold seen
      simp
    · rintro j v2 σ H3 H4 hj ⟨⟨x, y, z, rfl⟩, sm3, _, hm3⟩ ⟨T2, t3, t4, rfl, hT2, rfl, e3, e4⟩
      obtain ⟨p, hpj, rfl⟩ := map_get e4
      have nmT2 : m ≠ T2 := ne_of_none hm3 hT2
      obtain ⟨r1, r2⟩ := v.rg p (flatten_mem (List.mem_of_getElem? hc) (List.mem_of_getElem? hpj))
      have new := seen_new v.nd hc hpj
      have hm4 : upd H3 T2 (.tup [t3, V.int p]) m = some (MetO w m (seen fm i c j)) := (upd_ne nmT2).trans hm3
      refine ⟨T2, _, rfl, SqT.of upd_same, rfl, _, _, rfl, _, _, rfl, rfl, ?_⟩
      refine ⟨_, rfl, _, rfl, p, 1, n, rfl, ?_⟩
      have d1 : (decide (1 ≤ p) && decide (p ≤ (n : Int))) = true := by simp [r1, r2]
      rw [d1]
      refine ⟨true, rfl, iteF ?_⟩
      refine ⟨_, rfl, _, rfl, p, m, _, _, rfl, rfl, hm4, _, rfl, ?_⟩
      have d2 : decide (p ∈ seen fm i c j) = false := decide_eq_false new
      rw [d2]
      refine iteF ?_
      refine ⟨_, rfl, ⟨m, _, _, rfl, hm4⟩, _, rfl, m, p, _, _, rfl, rfl, hm4, ?_, ?_⟩
      · have := seen_len (j := j) v hc
        show _ + 1 < 4096
        omega
      · have fin : SetAt H (upd (upd H3 T2 (.tup [t3, V.int p])) m (SetO w m (fun i' => decide (i' ∈ seen fm i c j) || decide (i' = p)) (if decide (p ∈ seen fm i c j) = true then (seen fm i c j).length else (seen fm i c j).length + 1))) w m (seen fm i c (j + 1)) := by
          rw [met_add w m _ p new, ← seen_step hpj]
          refine ⟨fun b o e => ?_, hm0, upd_same⟩
          have nbm : b ≠ m := fun q => by rw [q, hm0] at e; cases e
          rw [upd_ne nbm]
          exact (sm3.trans (same_upd hT2)) b o e
        exact ⟨⟨_, _, _, rfl⟩, fin⟩
    · rintro σ H' ⟨⟨x, y, z, rfl⟩, q⟩
      rw [List.length_map, seen_next hc] at q
      exact ⟨⟨_, _, _, _, rfl⟩, q⟩
def spChRow : Sp := fun vs H Q _ => ∃ (n : Nat) (a : Addr) (r : List (List (List Int))), vs = [.int n, .ref a] ∧ RowA H a r ∧ (∀ f ∈ r, Valid n f) ∧ n ≤ 40 ∧ ∀ H', Same H H' → Q .non H'
theorem scChRow : FnScope ["places", "row", "at", "family", "fault", "chain", "index"] ["places", "row"] (defScope sChRow) := ⟨rfl, rfl, rfl, by decide +kernel, rfl, by decide +kernel, by decide +kernel⟩
theorem ok_chRow {f f3 : Addr} {fd fd3 : FuncData} (F : Fun K "check_row" "check_row" sChRow f fd) (N : Nb mg) (G : FnOk P w K mg base CX0 3 f3 fd3 ["places", "family"] spFault) (b3 : Binds K fd3 ["places", "family"] [])
    (m3 : mg "fault_of_family" = some (.ref f3)) (k3 : PySem.W.keepIn K (.ref f3) = true) : FnOk P w K mg base CX0 4 f fd ["places", "row"] spChRow := by
  refine F.ok scChRow (fun vs H Q E h => ?_) (fun cdv A outer s H vs Q E hr h => ?_)
  · obtain ⟨n, a, fm, rfl, _⟩ := h
    rfl
  · obtain ⟨n, a, r, rfl, ⟨as, ha, hp⟩, v, hn, k⟩ := h
    refine ⟨_, pss_cons (ps_if (pt_not (pt_val (pe_callB call_isi (by rfl) N.isi (by decide +kernel) (pa_cons (pv 1) (pa_cons (pe_bltn (v := .ty "list") (by rfl) N.list (by decide +kernel) rfl) pa_nil))))) (pss_one ps_never) pss_nil)
      (pss_one (ps_for PassesOwn.never rfl (pi_enum (by rfl) N.enum (pa_cons (pv 1) pa_nil)) (pg_tup rfl (pgs_cons (pg_name (i := 2) scChRow.nd rfl (.inl rfl)) (pgs_cons (pg_name (i := 3) scChRow.nd rfl (.inl rfl)) pgs_nil)))
        (pss_cons (ps_set (i := 4) scChRow.nd rfl (.inl rfl) (pe_call G hr (by rfl) m3 k3 b3 .nil pass0 (pa_cons (pv 0) (pa_cons (pv 3) pa_nil))))
        (pss_one (ps_if (pt_cmpR op_notN (pv 4) pe_non (nomark _)) (pss_cons ps_never (pss_one ps_never)) pss_nil))))), ?_⟩
    refine ⟨_, rfl, _, _, _, _, _, rfl, .ty "list", .base (.lst ha), kit_ty (by decide +kernel), true, rfl, iteF ?_⟩
    refine ⟨_, rfl, a, _, rfl, SqL.of ha, for_it walk_enum (fun i σ H' => (∃ x y z u t, σ = [some (.int n), some (.ref a), x, y, z, u, t]) ∧ Same H H') ⟨⟨_, _, _, _, _, rfl⟩, Same.refl H⟩ (fun i σ H' _ q => SqL.of (q.2 _ _ ha)) ?_ (fun σ H' q => k _ q.2)⟩
    rintro i v1 σ H1 H2 hi ⟨⟨x, y, z, u, t, rfl⟩, sm⟩ ⟨T, t1, t2, rfl, hT, rfl, e1, e2⟩
    obtain ⟨fa, hfa, rfl⟩ := map_get e2
    obtain ⟨c, hc, hF⟩ := pget hp hfa
    have s2 : Same H (upd H1 T (.tup [t1, V.ref fa])) := sm.trans (same_upd hT)
    refine ⟨T, _, rfl, SqT.of upd_same, rfl, _, _, rfl, _, _, rfl, rfl, ?_⟩
    refine ⟨_, rfl, _, rfl, n, fa, c, rfl, hF.same s2, v c (List.mem_of_getElem? hc), hn, fun H3 s3 => ?_⟩
    refine ⟨_, rfl, rfl, _, rfl, ?_⟩
    exact iteF ⟨⟨_, _, _, _, _, rfl⟩, s2.trans s3⟩
end
end K51


set_option autoImplicit true
set_option Elab.async false
set_option linter.all false
set_option maxRecDepth 100000
set_option maxHeartbeats 4000000
namespace K51
open PySem L2 Kt PyProof.Rows
section
variable {P : Program} {w : World} {K : PySem.W.Frag} {mg : Str → Option Value} {base : Heap}
/-! ### the draws -/
theorem bigpos : (0 : Int) < (((10 : Int) ^ (60 : Int).toNat) ^ (60 : Int).toNat) ^ (4 : Int).toNat := Int.pow_pos (Int.pow_pos (Int.pow_pos (by decide)))
def spLDraws : Sp := fun vs H Q _ => ∃ c : Int, vs = [.int c] ∧ ∀ p n (b : Bool), H p = none → Q (.ref p) (upd H p (DrO n 0 b))
theorem scLDraws : FnScope ["cell"] ["cell"] (defScope sLDraws) := ⟨rfl, rfl, rfl, by decide +kernel, rfl, by decide +kernel, by decide +kernel⟩
theorem ok_ldraws {f : Addr} {fd : FuncData} (F : Fun K "_law_draws" "_law_draws" sLDraws f fd) (N : Nb mg) : FnOk P w K mg base CX0 1 f fd ["cell"] spLDraws := by
  refine F.ok scLDraws (fun vs H Q E h => ?_) (fun cdv A outer s H vs Q E hr h => ?_)
  · obtain ⟨c, rfl, _⟩ := h
    rfl
  · obtain ⟨c, rfl, k⟩ := h
    refine ⟨_, pss_one (ps_ret (pe_lst (pa_cons (pe_op op_mod (pe_callTy call_int1 (by rfl) N.int (by decide +kernel) (pa_cons (pv 0) pa_nil)) (pe_op op_powW (pe_op op_powW (pe_op op_pow pe_int pe_int) pe_int) pe_int))
      (pa_cons pe_int (pa_cons (pe_cmpR op_ge (pv 0) (pe_op op_pow pe_int pe_int) (nomark _)) pa_nil))))), ?_⟩
    refine ⟨_, rfl, .inl ⟨_, rfl, ?_⟩⟩
    refine ⟨_, _, rfl, rfl, ⟨by decide, by decide, by decide⟩, ?_⟩
    refine ⟨_, _, rfl, rfl, ⟨by decide, by decide +kernel⟩, ?_⟩
    refine ⟨_, _, rfl, rfl, ⟨by decide, by decide +kernel⟩, ?_⟩
    refine ⟨_, _, rfl, rfl, bigpos, ?_⟩
    refine ⟨_, rfl, _, _, rfl, rfl, ⟨by decide, by decide, by decide⟩, _, _, rfl, rfl, ?_⟩
    exact ⟨by show 3 ≤ sizeLine; decide, fun p hp => k p _ _ hp⟩
def spLNext : Sp := fun vs H Q _ => ∃ (d : Addr) (n k : Int) (c : Bool), vs = [.ref d] ∧ H d = some (DrO n k c) ∧ 0 ≤ k ∧ k < 1000000000 ∧ ∀ r n', 0 ≤ r → Q (.int r) (upd H d (DrO n' (k + 1) c))
theorem scLNext : FnScope ["draws", "k", "number"] ["draws"] (defScope sLNext) := ⟨rfl, rfl, rfl, by decide +kernel, rfl, by decide +kernel, by decide +kernel⟩
theorem at3_0 {x y z : V} : atI [x, y, z] 0 = some x := rfl
theorem at3_1 {x y z : V} : atI [x, y, z] 1 = some y := rfl
theorem at3_2 {x y z : V} : atI [x, y, z] 2 = some z := rfl
theorem ok_lnext {f : Addr} {fd : FuncData} (F : Fun K "_law_next" "_law_next" sLNext f fd) (N : Nb mg) : FnOk P w K mg base CX0 1 f fd ["draws"] spLNext := by
  refine F.ok scLNext (fun vs H Q E h => ?_) (fun cdv A outer s H vs Q E hr h => ?_)
  · obtain ⟨d, n, k, c, rfl, _⟩ := h
    rfl
  · obtain ⟨d, n, k, c, rfl, hd, k0, k1, q⟩ := h
    refine ⟨_, pss_cons (ps_asg (pe_op op_add (pe_ix ix_list (pv 0) pe_int (fun _ _ => rfl)) pe_int) (pg_sub (pv 0) pe_int set_list))
      (pss_cons (ps_set (i := 1) scLNext.nd rfl (.inl rfl) (pe_ix ix_list (pv 0) pe_int (fun _ _ => rfl)))
      (pss_cons (ps_if (pt_val (pe_ix ix_list (pv 0) pe_int (fun _ _ => rfl)))
        (pss_cons (ps_set (i := 2) scLNext.nd rfl (.inl rfl) (pe_op op_mod (pe_callTy call_int1 (by rfl) N.int (by decide +kernel) (pa_cons (pe_ix ix_list (pv 0) pe_int (fun _ _ => rfl)) pa_nil)) (pe_op op_pow pe_int pe_int)))
        (pss_cons (ps_asg (pe_op op_fdiv (pe_ix ix_list (pv 0) pe_int (fun _ _ => rfl)) (pe_op op_pow pe_int pe_int)) (pg_sub (pv 0) pe_int set_list))
        (pss_one (ps_ret (pv 2))))) pss_nil)
      (pss_cons (ps_set (i := 2) scLNext.nd rfl (.inl rfl) (pe_op op_mod (pe_callTy call_int1 (by rfl) N.int (by decide +kernel) (pa_cons
          (pe_op op_mul (pe_op op_add (pe_op op_add (pe_op op_mod (pe_callTy call_int1 (by rfl) N.int (by decide +kernel) (pa_cons (pe_ix ix_list (pv 0) pe_int (fun _ _ => rfl)) pa_nil)) pe_int)
            (pe_op op_mul (pe_op op_mul (pv 1) (pv 1)) pe_int)) (pv 1)) pe_int) pa_nil)) pe_int))
      (pss_cons (ps_set (i := 2) scLNext.nd rfl (.inl rfl) (pe_op op_mod (pe_callTy call_int1 (by rfl) N.int (by decide +kernel) (pa_cons (pe_op op_mul (pv 2) (pv 2)) pa_nil)) pe_int))
      (pss_one (ps_ret (pe_op op_fdiv (pe_op op_mod (pe_callTy call_int1 (by rfl) N.int (by decide +kernel) (pa_cons (pe_op op_mul (pv 2) (pe_op op_add (pv 2) pe_int)) pa_nil)) pe_int) pe_int))))))), ?_⟩
    refine ⟨_, rfl, d, _, _, _, rfl, rfl, SqL.of hd, at3_1, _, _, rfl, rfl, ?_⟩
    refine ⟨_, rfl, d, _, _, 1, rfl, rfl, hd, rfl, ?_⟩
    have hd1 : upd H d (DrO n (k + 1) c) d = some (DrO n (k + 1) c) := upd_same
    refine ⟨_, rfl, d, _, _, _, rfl, rfl, SqL.of hd1, at3_1, ?_⟩
    refine ⟨_, rfl, d, _, _, _, rfl, rfl, SqL.of hd1, at3_2, _, rfl, ?_⟩
    refine ite2 (fun _ => ?_) (fun _ => ?_)
    · refine ⟨_, rfl, d, _, _, _, rfl, rfl, SqL.of hd1, at3_0, .inl ⟨_, rfl, ?_⟩⟩
      refine ⟨_, _, rfl, rfl, ⟨by decide, by decide, by decide⟩, _, _, rfl, rfl, (by show (0 : Int) < (10 : Int) ^ (6 : Int).toNat; decide), ?_⟩
      refine ⟨_, rfl, d, _, _, _, rfl, rfl, SqL.of hd1, at3_0, ?_⟩
      refine ⟨_, _, rfl, rfl, ⟨by decide, by decide, by decide⟩, _, _, rfl, rfl, ⟨by decide, by decide⟩, ?_⟩
      refine ⟨_, rfl, d, _, _, 0, rfl, rfl, hd1, rfl, ?_⟩
      refine ⟨_, rfl, ?_⟩
      have fin := q (n % 1000000) (n / 1000000) (by omega)
      have e : upd (upd H d (DrO n (k + 1) c)) d (.lst (([V.int n, V.int (k + 1), V.bl c] : List V).set 0 (V.int (n / 1000000)))) = upd H d (DrO (n / 1000000) (k + 1) c) := upd_upd
      rw [← e] at fin
      exact fin
    · have kk : -(2 ^ 64) < k + 1 ∧ k + 1 < 2 ^ 64 := ⟨by omega, by omega⟩
      refine ⟨_, rfl, d, _, _, _, rfl, rfl, SqL.of hd1, at3_0, .inl ⟨_, rfl, ?_⟩⟩
      refine ⟨_, _, rfl, rfl, (by show (0 : Int) < 1000003; decide), ?_⟩
      refine ⟨_, rfl, _, rfl, _, _, rfl, rfl, .inl kk, ?_⟩
      refine ⟨_, _, rfl, rfl, .inr ⟨by decide, by decide⟩, ?_⟩
      refine ⟨_, _, rfl, rfl, ?_⟩
      refine ⟨_, rfl, _, _, rfl, rfl, ?_⟩
      refine ⟨_, _, rfl, rfl, .inr ⟨by decide, by decide⟩, .inl ⟨_, rfl, ?_⟩⟩
      refine ⟨_, _, rfl, rfl, (by show (0 : Int) < 2147483629; decide), ?_⟩
      have bnd : ∀ z : Int, 0 ≤ z % 2147483629 ∧ z % 2147483629 < 2147483629 := fun z => by omega
      have bnd2 : ∀ z : Int, 0 ≤ z % 2147483587 ∧ z % 2147483587 < 2147483587 := fun z => by omega
      have low : ∀ z : Int, 0 ≤ z → z < 2147483629 → -(2 ^ 64) < z ∧ z < 2 ^ 64 := fun z h1 h2 => ⟨by omega, by omega⟩
      refine ⟨_, rfl, _, rfl, _, _, rfl, rfl, .inl (low _ (bnd _).1 (bnd _).2), .inl ⟨_, rfl, ?_⟩⟩
      refine ⟨_, _, rfl, rfl, (by show (0 : Int) < 2147483587; decide), ?_⟩
      refine ⟨_, rfl, _, rfl, _, _, rfl, rfl, ?_⟩
      refine ⟨_, _, rfl, rfl, .inl (low _ (bnd2 _).1 (Int.lt_trans (bnd2 _).2 (by decide))), .inl ⟨_, rfl, ?_⟩⟩
      refine ⟨_, _, rfl, rfl, (by show (0 : Int) < 2147483579; decide), ?_⟩
      refine ⟨_, _, rfl, rfl, ⟨by decide, by decide⟩, ?_⟩
      exact q _ _ (by omega)
end
end K51


set_option autoImplicit true
set_option Elab.async false
set_option linter.all false
set_option maxRecDepth 100000
set_option maxHeartbeats 8000000
namespace K51
open PySem PySem.Spec L2 Kt Dt
section
variable {P : Program} {w : Ww} {K : PySem.W.Frag} {mg : Str → Option Value} {base : Heap} {kk : Nat} {f : Addr} {fd : FuncData}
theorem paired1 {R : V → Vd → Prop} {vs : List V} {x : Vd} (r : Paired R vs [x]) : ∃ v, vs = [v] ∧ R v x := by
  cases r with
  | cons r t => cases t; exact ⟨_, rfl, r⟩
theorem paired2 {R : V → Vd → Prop} {vs : List V} {x y : Vd} (r : Paired R vs [x, y]) : ∃ v u, vs = [v, u] ∧ R v x ∧ R u y := by
  cases r with
  | cons r t =>
    cases t with
    | cons r2 t => cases t; exact ⟨_, _, rfl, r, r2⟩
def iL (l : List Int) : List PyData := l.map PyData.int
theorem iL_len (L : List Int) : (iL L).length = L.length := by unfold iL; rw [List.length_map]
def nL (l : List Nat) : List Int := l.map fun (m : Nat) => (m : Int)
def spcheck_number : Spd := fun xs dr q => ∃ i m : Int, xs = [.d (.int i), .d (.int m)] ∧ 1 ≤ i ∧ i ≤ m ∧ q (.d .none) dr
theorem d_chNum (F : FnOk P w.w K mg base CX0 kk f fd ["number", "most"] spChNum) : FnD P w K mg base kk f fd ["number", "most"] spcheck_number := fnD_ofOk F fun vs H Q E ⟨δ, F, xs, dr, q, hF, hd, r, ⟨i, m, hx, h1, h2, hq⟩, k⟩ => by
  subst hx
  obtain ⟨v1, v2, rfl, r1, r2⟩ := paired2 r
  have r1' : Rep F v1 (.int i) := r1
  have r2' : Rep F v2 (.int m) := r2
  cases r1'
  cases r2'
  exact ⟨i, m, rfl, h1, h2, end_pure hF hd k (Same.refl H) .non hq⟩
def spcheck_filling : Spd := fun xs dr q => ∃ l : List Int, xs = [.d (dL l)] ∧ 1 ≤ l.length ∧ l.length ≤ 40 ∧ q (.d .none) dr
theorem d_chFill (F : FnOk P w.w K mg base CX0 kk f fd ["filling"] spChFill) : FnD P w K mg base kk f fd ["filling"] spcheck_filling := fnD_ofOk F fun vs H Q E ⟨δ, F, xs, dr, q, hF, hd, r, ⟨l, hx, h1, h2, hq⟩, k⟩ => by
  subst hx
  obtain ⟨v1, rfl, r1⟩ := paired1 r
  obtain ⟨a, rfl, ha⟩ := rep_li hF r1
  exact ⟨a, l, rfl, ha, h1, h2, fun H' s => end_pure hF hd k s .non hq⟩
def spcheck_row : Spd := fun xs dr q => ∃ (n : Nat) (R : List (List (List Int))), xs = [.d (.int n), .d (dR R)] ∧ (∀ fm ∈ R, Valid n fm) ∧ n ≤ 40 ∧ q (.d .none) dr
theorem d_chRow (F : FnOk P w.w K mg base CX0 kk f fd ["places", "row"] spChRow) : FnD P w K mg base kk f fd ["places", "row"] spcheck_row := fnD_ofOk F fun vs H Q E ⟨δ, F, xs, dr, q, hF, hd, r, ⟨n, R, hx, v, h2, hq⟩, k⟩ => by
  subst hx
  obtain ⟨v1, v2, rfl, r1, r2⟩ := paired2 r
  have r1' : Rep F v1 (.int n) := r1
  cases r1'
  obtain ⟨b, rfl, hb⟩ := rep_row hF r2
  exact ⟨n, b, R, rfl, hb, v, h2, fun H' s => end_pure hF hd k s .non hq⟩
def sp_law_next : Spd := fun xs dr q => ∃ t : Int, xs = [.dr] ∧ dr = some t ∧ t < 1000000000 ∧ ∀ r, 0 ≤ r → q (.d (.int r)) (some (t + 1))
theorem d_next (F : FnOk P w.w K mg base CX0 kk f fd ["draws"] spLNext) : FnD P w K mg base kk f fd ["draws"] sp_law_next := fnD_ofOk F fun vs H Q E ⟨δ, F, xs, dr, q, hF, hd, r, ⟨t, hx, ht, hb, hq⟩, k⟩ => by
  subst hx
  obtain ⟨v1, rfl, r1⟩ := paired1 r
  obtain ⟨a, t', n, kn, c, ha, ht', rfl, hD, k0, k1⟩ := rep_dr hd r1
  rw [ht] at ht'
  obtain rfl := Option.some.inj ht'
  exact ⟨a, n, kn, c, rfl, hD, k0, by omega, fun r n' hr => end_drawn hF hd k ha But.upd upd_same (by omega) (by omega) (.int r) (hq r hr)⟩
end
section
variable {P : Program} {w : Ww} {K : PySem.W.Frag} {mg : Str → Option Value} {base : Heap}
theorem mkN_int (n : Nat) (p : Int) (h : 1 ≤ p) (h2 : p ≤ n) : (1 : Int) * 2 ^ ((n : Int) - p).toNat = ((mkN n p : Nat) : Int) := by
  unfold mkN
  rw [Int.one_mul, show ((n : Int) - p).toNat = n - p.toNat by omega, Int.natCast_pow]
  rfl
def spmark_of : Spd := fun xs dr q => ∃ (n : Nat) (p : Int), xs = [.d (.int n), .d (.int p)] ∧ 1 ≤ p ∧ p ≤ n ∧ n ≤ 40 ∧ q (.d (.int ((mkN n p : Nat) : Int))) dr
abbrev smark_of : Stmt := tp 13
theorem scmark_of : FnScope ["places", "place"] ["places", "place"] (defScope smark_of) := ⟨rfl, rfl, rfl, by decide +kernel, rfl, by decide +kernel, by decide +kernel⟩
theorem okmark_of {f : Addr} {fd : FuncData} (F : Fun K "mark_of" "mark_of" smark_of f fd) (N : Nb mg) :
    FnD P w K mg base 1 f fd ["places", "place"] spmark_of := by
  refine fnD_of F scmark_of (fun xs dr q h => ?_) (fun cdv A below s H hr gu => ⟨_, _, 
      (pss_one (ps_ret (pe_op op_shl pe_int (pe_op op_sub (pv 0) (pv 1))))), 
      (abs_ret (ab_op abr_shl (ab_int _) (ab_op abr_sub (ab_var 0) (ab_var 1)))), fun xs dr q h => ?_⟩)
  · obtain ⟨n, p, rfl, p1, p2, h40, k⟩ := h
    rfl
  · obtain ⟨n, p, rfl, p1, p2, h40, k⟩ := h
    refine ⟨_, rfl, _, rfl, ⟨by omega, by omega, by decide⟩, ?_⟩
    show q (.d (.int ((1 : Int) * 2 ^ ((n : Int) - p).toNat))) dr
    rw [mkN_int n p p1 p2]
    exact k
def spcounts_of_ones : Spd := fun xs dr q => ∃ (n : Nat), xs = [.d (.int n)] ∧ n ≤ 20 ∧ q (.d (dL (nL (pops n)))) dr
theorem nL_len (l : List Nat) : (nL l).length = l.length := by unfold nL; rw [List.length_map]
theorem pops_len (n : Nat) : (pops n).length = 2 ^ n := by unfold pops; rw [List.length_map, List.length_range]
theorem cnt_fold {α : Type} : ∀ (l : List α) (a : Nat), l.foldl (fun z _ => z + 1) a = a + l.length
  | [], _ => rfl
  | x :: l, a => by rw [List.foldl_cons, cnt_fold l, List.length_cons]; omega
abbrev scounts_of_ones : Stmt := tp 14
theorem sccounts_of_ones : FnScope ["places", "counts", "_", "count"] ["places"] (defScope scounts_of_ones) := ⟨rfl, rfl, rfl, by decide +kernel, rfl, by decide +kernel, by decide +kernel⟩
theorem okcounts_of_ones {f : Addr} {fd : FuncData} (F : Fun K "counts_of_ones" "counts_of_ones" scounts_of_ones f fd) (N : Nb mg) :
    FnD P w K mg base 1 f fd ["places"] spcounts_of_ones := by
  refine fnD_of F sccounts_of_ones (fun xs dr q h => ?_) (fun cdv A below s H hr gu => ⟨_, _, 
      (pss_cons (ps_set (i := 1) sccounts_of_ones.nd rfl (.inl rfl) (pe_lst (pa_cons pe_int pa_nil)))
        (pss_cons (ps_for PassesOwn.never rfl (pi_range1 (by rfl) N.range (pa_cons (pv 0) pa_nil)) (pg_name (i := 2) sccounts_of_ones.nd rfl (.inl rfl))
          (pss_one (ps_set (i := 1) sccounts_of_ones.nd rfl (.inl rfl) (pe_op op_addU (pv 1) (pe_lc (own := [("count", 3)]) (g := gName 3) (tt := tYes)  rfl sccounts_of_ones.nd (pi_list (pv 1)) (blkOk_by (N := ["places", "counts", "_", "count"]) (sc := defScope scounts_of_ones) (by decide +kernel)) (fun _ _ _ _ _ => pg_name (i := 3) sccounts_of_ones.nd rfl (Or.inl rfl)) (fun _ _ _ _ _ => pts_nil) (fun _ _ _ _ _ => (pe_op op_addU (pv 3) pe_int)))))))
        (pss_one (ps_ret (pv 1))))), 
      (abs_seq (abs_asg (ab_lstP false (abp_cons (ab_int _) abp_nil)) (abg_name 1))
        (abs_seq (abs_for (abi_rng1 (aba_cons (ab_var 0) aba_nil)) (abg_name 2)
          (abs_asg (ab_op (abr_add false) (ab_var 1) (ab_lc false (abi_list (ab_var 1)) (abg_name 3) tgok_name abt_yes (ab_op (abr_add false) (ab_var 3) (ab_int _)))) (abg_name 1)))
        (abs_ret (ab_var 1)))), fun xs dr q h => ?_⟩)
  · obtain ⟨n, rfl, h20, k⟩ := h
    rfl
  · obtain ⟨n, rfl, h20, k⟩ := h
    have sz : sizeLine = 16777216 := sizeLine_eq
    let S : Nat → Sd := fun (z : Nat) => ⟨[some (.d (.int n)), some (.d (dL (nL (pops z)))), none, none], [], dr⟩
    refine sFor_fold (fun i : Nat => .int (0 + (i : Int))) (List.range n) S (fun z _ => z + 1) 0 (fun R h => ⟨_, rfl, by omega, by omega, ?_⟩) (fun i x hx c hc N hN bk => ?_) ⟨_, rfl, ?_⟩
    · show R (intsR 0 ((n : Int)).toNat) _
      rw [Int.toNat_natCast]
      exact h
    · have ci : c = i := by
        rw [hc, cnt_fold, List.length_take, List.length_range]
        have := (List.getElem?_eq_some_iff.mp hx).1
        rw [List.length_range] at this
        omega
      have ln : (nL (pops c)).length ≤ 2 ^ 20 := by
        have := (List.getElem?_eq_some_iff.mp hx).1
        rw [List.length_range] at this
        rw [nL_len, pops_len]
        exact Nat.pow_le_pow_right (by decide) (by omega)
      have ln' : (2 : Nat) ^ 20 = 1048576 := by decide
      refine ⟨_, rfl, ?_⟩
      refine uLc_map PyData.int (fun x => .int (x + 1)) (nL (pops c)) ⟨[some (.d (.int n)), some (.d (dL (nL (pops c)))), some (.d (.int (0 + (x : Int)))), none], [], dr⟩ (fun R h => ⟨_, rfl, h⟩) (by omega) (fun y hy R R' hR => ⟨_, rfl, hR⟩) ?_
      refine ⟨by rw [List.length_map, List.length_map]; omega, ?_⟩
      have e : PyData.list ((nL (pops c)).map PyData.int ++ (nL (pops c)).map fun x => PyData.int (x + 1)) = dL (nL (pops (c + 1))) := by
        unfold dL nL
        rw [pops_succ, List.map_append, List.map_append, List.map_map, List.map_map, List.map_map, List.map_map]
        rfl
      show ∃ s4, Wk ⟨[some (.d (.int n)), some (.d (.list ((nL (pops c)).map PyData.int ++ (nL (pops c)).map fun x => PyData.int (x + 1)))), some (.d (.int (0 + (x : Int)))), none], [], dr⟩ s4 ∧ N s4
      rw [e]
      exact ⟨_, wk_r, hN⟩
    · show q (.d (dL (nL (pops ((List.range n).foldl (fun z _ => z + 1) 0))))) dr
      rw [cnt_fold, List.length_range, Nat.zero_add]
      exact k
theorem and_not (m w : Nat) : Builtin.bitAnd (m : Int) (Builtin.bitNot (w : Int)) = ((m - (m &&& w) : Nat) : Int) := by
  have h1 : decide ((0 : Int) ≤ (m : Int)) = true := decide_eq_true (by omega)
  have h2 : decide ((0 : Int) ≤ Builtin.bitNot (w : Int)) = false := decide_eq_false (by unfold Builtin.bitNot; omega)
  have h3 : Builtin.bitNot (Builtin.bitNot (w : Int)) = (w : Int) := by unfold Builtin.bitNot; omega
  unfold Builtin.bitAnd
  rw [h1, h2, h3]
  show (m : Int) - ((m &&& w : Nat) : Int) = _
  have : m &&& w ≤ m := Nat.and_le_left
  omega
theorem nL_at {l : List Nat} {i : Int} {j m : Nat} (hi : i = (j : Int)) (h : l[j]? = some m) : atI ((nL l).map PyData.int) i = some (.int (m : Int)) := by
  refine atI_of (by omega) ?_
  rw [hi, Int.toNat_natCast]
  unfold nL
  rw [List.map_map, List.getElem?_map, h]
  rfl
theorem iL_at {l : List Nat} {z : List Nat} {m : Nat} (h : l = z ++ [m]) : atI (iL (nL l)) (-1) = some (.int (m : Int)) := by
  subst h
  unfold iL nL
  rw [List.map_append, List.map_append]
  exact atI_last _ _
theorem iLd_at {l : List Nat} {z : List Nat} {m : Nat} (h : l = z ++ [m]) : atI ((iL (nL l)).map Vd.d) (-1) = some (.d (.int (m : Int))) := by
  subst h
  unfold iL nL
  rw [List.map_append, List.map_append, List.map_append]
  exact atI_last _ _
def sprests_of : Spd := fun xs dr q => ∃ (n : Nat) (c : List Int), xs = [.d (.int n), .d (dL c)] ∧ (∀ x ∈ c, 1 ≤ x ∧ x ≤ (n : Int)) ∧ c.length ≤ 40 ∧ n ≤ 40 ∧ q (.nl (iL (nL (rsts n c)))) dr
abbrev srests_of : Stmt := tp 16
theorem scrests_of : FnScope ["places", "chain", "rests", "place"] ["places", "chain"] (defScope srests_of) := ⟨rfl, rfl, rfl, by decide +kernel, rfl, by decide +kernel, by decide +kernel⟩
theorem okrests_of {f : Addr} {fd : FuncData} (F : Fun K "rests_of" "rests_of" srests_of f fd) (N : Nb mg)
    (hmark_of : Has P w K mg base "mark_of" 1 ["places", "place"] spmark_of) :
    FnD P w K mg base 2 f fd ["places", "chain"] sprests_of := by
  refine fnD_of F scrests_of (fun xs dr q h => ?_) (fun cdv A below s H hr gu => ⟨_, _, 
      (pss_cons (ps_set (i := 2) scrests_of.nd rfl (.inl rfl) (pe_lst (pa_cons pe_int pa_nil)))
        (pss_cons (ps_for PassesOwn.never rfl (pi_list (pe_revL (pv 1))) (pg_name (i := 3) scrests_of.nd rfl (.inl rfl))
          (pss_one (ps_expr (pe_bm PySem.F.plainAttrs_list PySem.F.slot_list_append PySem.F.type_list_append mt_append (pv 2) (pa_cons (pe_op op_or (pe_ix ix_seq (pv 2) (pe_un un_neg pe_int) (fun _ _ => rfl)) (pe_callH hmark_of (hr.mono (by decide)) gu (by rfl) (pa_cons (pv 0) (pa_cons (pv 3) pa_nil)))) pa_nil)))))
        (pss_one (ps_ret (pv 2))))), 
      (abs_seq (abs_asg (ab_lstP true (abp_cons (ab_int _) abp_nil)) (abg_name 2))
        (abs_seq (abs_for (abi_list (ab_rev false (ab_var 1))) (abg_name 3)
          (abs_drop (ab_bm abm_append (ab_var 2) (aba_cons (ab_op abr_or (ab_op abr_ix (ab_var 2) (ab_un abu_neg (ab_int _))) (ab_call false (aba_cons (ab_var 0) (aba_cons (ab_var 3) aba_nil)))) aba_nil))))
        (abs_ret (ab_var 2)))), fun xs dr q h => ?_⟩)
  · obtain ⟨n, c, rfl, rg, c40, h40, k⟩ := h
    rfl
  · obtain ⟨n, c, rfl, rg, c40, h40, k⟩ := h
    have sz : sizeLine = 16777216 := sizeLine_eq
    let S : Nat → Sd := fun i => ⟨[some (.d (.int n)), some (.d (dL c)), some (.p 0), none], [some (.lst ((iL (nL (rsts n (c.drop (c.length - i))))).map Vd.d))], dr⟩
    refine sFor_inv PyData.int c.reverse (S 0) (fun i s => s = S i) (fun R h => ⟨_, rfl, ?_⟩) rfl (fun i x s hx hs => ?_) (fun s hs => ?_)
    · show R ((c.map PyData.int).reverse) _
      rw [← List.map_reverse]
      have e : (S 0) = ⟨[some (.d (.int n)), some (.d (dL c)), some (.p 0), none], [some (.lst [.d (.int 0)])], dr⟩ := by
        show (⟨_, [some (.lst ((iL (nL (rsts n (c.drop (c.length - 0))))).map Vd.d))], dr⟩ : Sd) = _
        rw [Nat.sub_zero, List.drop_length]
        rfl
      rw [e] at h
      exact h
    · subst hs
      have li : i < c.length := by
        have := (List.getElem?_eq_some_iff.mp hx).1
        rw [List.length_reverse] at this
        exact this
      have hx' : c[c.length - 1 - i]? = some x := by
        rw [List.getElem?_reverse li] at hx
        exact hx
      have ed : c.drop (c.length - (i + 1)) = x :: c.drop (c.length - i) := by
        rw [show c.length - (i + 1) = c.length - 1 - i by omega]
        obtain ⟨l1, e1⟩ := List.getElem?_eq_some_iff.mp hx'
        rw [List.drop_eq_getElem_cons l1, e1, show c.length - 1 - i + 1 = c.length - i by omega]
      have xr := rg x (List.mem_of_getElem? hx')
      obtain ⟨z, hz⟩ := rsts_last n (c.drop (c.length - i))
      have len : (nL (rsts n (c.drop (c.length - i)))).length ≤ 41 := by
        rw [nL_len, rsts_len, List.length_drop]
        omega
      refine ⟨_, rfl, ⟨_, _, rfl, rfl⟩, _, rfl, _, _, rfl, iLd_at hz, _, rfl, _, rfl, rfl, n, x, rfl, xr.1, xr.2, h40, ?_⟩
      refine ⟨_, rfl, by rw [List.length_map, iL_len]; omega, ?_⟩
      have ee : Builtin.bitOr ((rest n (c.drop (c.length - i)) : Nat) : Int) ((mkN n x : Nat) : Int) = ((rest n (c.drop (c.length - (i + 1))) : Nat) : Int) := by
        rw [bitOr_nat, ed]
        rfl
      have e2 : (iL (nL (rsts n (c.drop (c.length - i))))).map Vd.d ++ [Vd.d (.int ((rest n (c.drop (c.length - (i + 1))) : Nat) : Int))] = (iL (nL (rsts n (c.drop (c.length - (i + 1)))))).map Vd.d := by
        rw [ed]
        show _ = (iL (nL (rsts n (c.drop (c.length - i)) ++ [rest n (x :: c.drop (c.length - i))]))).map Vd.d
        unfold iL nL
        rw [List.map_append, List.map_append, List.map_append]
        rfl
      show ∃ s4, Wk ⟨[some (.d (.int n)), some (.d (dL c)), some (.p 0), some (.d (.int x))], [some (.lst ((iL (nL (rsts n (c.drop (c.length - i))))).map Vd.d ++ [Vd.d (.int (Builtin.bitOr ((rest n (c.drop (c.length - i)) : Nat) : Int) ((mkN n x : Nat) : Int)))]))], dr⟩ s4 ∧ s4 = S (i + 1)
      rw [ee, e2]
      exact ⟨_, wk_r, rfl⟩
    · subst hs
      rw [List.length_reverse]
      refine ⟨_, rfl, .inl ⟨_, _, rfl, rfl, ?_⟩⟩
      rw [Nat.sub_self]
      exact k
def spafter_family : Spd := fun xs dr q => ∃ (n : Nat) (fm : List (List Int)), xs = [.d (.int n), .d (dF fm)] ∧ Valid n fm ∧ n ≤ 20 ∧ q (.d (dL (nL (afterN n fm)))) dr
theorem range_nL (N : Nat) : intsR 0 N = (nL (List.range N)).map PyData.int := by
  unfold intsR nL
  rw [List.map_map]
  refine List.map_congr_left fun i _ => ?_
  show PyData.int (0 + (i : Int)) = .int (i : Int)
  rw [Int.zero_add]
theorem nL_map (l : List Nat) : (nL l).map PyData.int = l.map fun (m : Nat) => .int (m : Int) := by
  unfold nL
  rw [List.map_map]
  rfl
theorem nL_list {α : Type} (l : List α) (g : α → Nat) : PyData.list (l.map fun m => .int ((g m : Nat) : Int)) = dL (nL (l.map g)) := by
  unfold dL nL
  rw [List.map_map, List.map_map]
  rfl
theorem upto_nL (N : Nat) : PyData.list ((upto 0 (N : Int)).map PyData.int) = dL (nL (List.range N)) := by
  unfold upto dL nL
  rw [List.map_map, List.map_map, Int.sub_zero, Int.toNat_natCast]
  congr 1
  refine List.map_congr_left fun i _ => ?_
  show PyData.int (0 + (i : Int)) = .int (i : Int)
  rw [Int.zero_add]
theorem shl_one (n : Nat) : ((1 : Int) * 2 ^ ((n : Int)).toNat) = ((2 ^ n : Nat) : Int) := by
  rw [Int.one_mul, Int.toNat_natCast, Int.natCast_pow]
  rfl
theorem one_el {n : Nat} {c : List Int} {m : Nat} (h : 1 < c.length) : Builtin.bitOr (Builtin.bitAnd (m : Int) (Builtin.bitNot ((rest n c : Nat) : Int))) ((rest n (c.drop (c.length - pop n (m &&& rest n c))) : Nat) : Int) = ((chN n m c : Nat) : Int) := by
  rw [and_not, bitOr_nat]
  unfold chN oneC
  rw [if_pos h]
abbrev safter_family : Stmt := tp 15
theorem scafter_family : FnScope ["places", "family", "counts", "result", "chain", "rests", "whole", "number"] ["places", "family"] (defScope safter_family) := ⟨rfl, rfl, rfl, by decide +kernel, rfl, by decide +kernel, by decide +kernel⟩
theorem okafter_family {f : Addr} {fd : FuncData} (F : Fun K "after_family" "after_family" safter_family f fd) (N : Nb mg)
    (hcounts_of_ones : Has P w K mg base "counts_of_ones" 1 ["places"] spcounts_of_ones)
    (hrests_of : Has P w K mg base "rests_of" 2 ["places", "chain"] sprests_of) :
    FnD P w K mg base 3 f fd ["places", "family"] spafter_family := by
  refine fnD_of F scafter_family (fun xs dr q h => ?_) (fun cdv A below s H hr gu => ⟨_, _, 
      (pss_cons (ps_set (i := 2) scafter_family.nd rfl (.inr rfl) (pe_callH hcounts_of_ones (hr.mono (by decide)) gu (by rfl) (pa_cons (pv 0) pa_nil)))
        (pss_cons (ps_set (i := 3) scafter_family.nd rfl (.inl rfl) (pe_listRg rfl (by rfl) N.list (prg_1 (by rfl) N.range (pe_op op_shl pe_int (pv 0)))))
        (pss_cons (ps_for PassesOwn.never rfl (pi_list (pv 1)) (pg_name (i := 4) scafter_family.nd rfl (.inl rfl))
          (pss_one (ps_if (pt_cmpR op_gt (pe_callB call_len_seq (by rfl) N.len PySem.boot_len (pa_cons (pv 4) pa_nil)) pe_int (by first | rfl | exact nomark _)) (pss_cons (ps_set (i := 5) scafter_family.nd rfl (.inr rfl) (pe_callH hrests_of (hr.mono (by decide)) gu (by rfl) (pa_cons (pv 0) (pa_cons (pv 4) pa_nil))))
            (pss_cons (ps_set (i := 6) scafter_family.nd rfl (.inr rfl) (pe_ix ix_seq (pv 5) (pe_un un_neg pe_int) (fun _ _ => rfl)))
            (pss_one (ps_setLc (i := 3) (own := [("number", 7)]) (g := gName 7) (tt := tYes)  rfl scafter_family.nd rfl rfl (sw_true rfl rfl rfl (by decide +kernel)) (pi_list (pv 3)) (blkOk_by (N := ["places", "family", "counts", "result", "chain", "rests", "whole", "number"]) (sc := defScope safter_family) (by decide +kernel)) (fun _ _ _ _ _ => pg_name (i := 7) scafter_family.nd rfl (Or.inl rfl)) (fun _ _ _ _ _ => pts_nil) (fun _ _ _ _ _ => (pe_op op_or (pe_op op_and (pv 7) (pe_un un_inv (pv 6))) (pe_ix ix_seq (pv 5) (pe_ix ix_seq (pv 2) (pe_op op_and (pv 7) (pv 6)) (fun _ _ => rfl)) (fun _ _ => rfl)))))))) pss_nil)))
        (pss_one (ps_ret (pv 3)))))), 
      (abs_seq (abs_asg (ab_call false (aba_cons (ab_var 0) aba_nil)) (abg_name 2))
        (abs_seq (abs_asg (ab_rgL1 false (ab_op abr_shl (ab_int _) (ab_var 0))) (abg_name 3))
        (abs_seq (abs_for (abi_list (ab_var 1)) (abg_name 4)
          (abs_if (abt_test (ab_op abr_gt (ab_cb abc_len (aba_cons (ab_var 4) aba_nil)) (ab_int _))) (abs_seq (abs_asg (ab_call false (aba_cons (ab_var 0) (aba_cons (ab_var 4) aba_nil))) (abg_name 5))
            (abs_seq (abs_asg (ab_op abr_ix (ab_var 5) (ab_un abu_neg (ab_int _))) (abg_name 6))
            (abs_asg (ab_lc false (abi_list (ab_var 3)) (abg_name 7) tgok_name abt_yes (ab_op abr_or (ab_op abr_and (ab_var 7) (ab_un abu_inv (ab_var 6))) (ab_op abr_ix (ab_var 5) (ab_op abr_ix (ab_var 2) (ab_op abr_and (ab_var 7) (ab_var 6)))))) (abg_name 3)))) abs_next))
        (abs_ret (ab_var 3))))), fun xs dr q h => ?_⟩)
  · obtain ⟨n, fm, rfl, v, h20, k⟩ := h
    rfl
  · obtain ⟨n, fm, rfl, v, h20, k⟩ := h
    have sz : sizeLine = 16777216 := sizeLine_eq
    have two : (2 : Nat) ^ n ≤ 2 ^ 20 := Nat.pow_le_pow_right (by decide) h20
    have l20 : (2 : Nat) ^ 20 = 1048576 := by decide
    have b0 : (0 : Int) ≤ ((2 ^ n : Nat) : Int) := Int.natCast_nonneg _
    have b1 : ((2 ^ n : Nat) : Int) ≤ 1048576 := Int.ofNat_le.mpr (by rw [l20] at two; exact two)
    have rg : ∀ c ∈ fm, ∀ x ∈ c, 1 ≤ x ∧ x ≤ (n : Int) := fun c hc x hx => v.rg x (flatten_mem hc hx)
    let S : List Nat → Sd := fun ms => ⟨[some (.d (.int n)), some (.d (dF fm)), some (.d (dL (nL (pops n)))), some (.d (dL (nL ms))), none, none, none, none], [], dr⟩
    refine ⟨_, rfl, rfl, n, rfl, h20, ?_⟩
    show sNext _ ⟨[some (.d (.int n)), some (.d (dF fm)), some (.d (dL (nL (pops n)))), none, none, none, none, none], [], dr⟩
    refine ⟨_, rfl, ⟨by omega, by omega, by decide⟩, ?_⟩
    show RgOk 0 ((1 : Int) * 2 ^ ((n : Int)).toNat) ∧ sNext _ ⟨[some (.d (.int n)), some (.d (dF fm)), some (.d (dL (nL (pops n)))), some (.d (.list ((upto 0 ((1 : Int) * 2 ^ ((n : Int)).toNat)).map PyData.int))), none, none, none, none], [], dr⟩
    rw [shl_one, upto_nL]
    refine ⟨⟨by omega, by omega, by omega, by omega⟩, ?_⟩
    show sNext _ (S (List.range (2 ^ n)))
    refine sFor_fold dL fm S (fun ms c => ms.map fun m => chN n m c) (List.range (2 ^ n)) (fun R h => ⟨_, rfl, h⟩) (fun i c hx ms hms N hN bk => ?_) ⟨_, rfl, ?_⟩
    · have hc := List.mem_of_getElem? hx
      have rgc := rg c hc
      have ndc := chain_nodup v.nd hc
      have clen := nodup_le n c ndc rgc
      have lt : ∀ m ∈ ms, m < 2 ^ n := by
        rw [hms]
        exact fam_lt _ _ (fun d hd => rg d (List.mem_of_mem_take hd)) fun m hm => List.mem_range.mp hm
      have lm : ms.length = 2 ^ n := by rw [hms, fam_map, List.length_map, List.length_range]
      refine ⟨_, rfl, ?_⟩
      refine ite2 (fun z => ?_) (fun z => ?_)
      · have z := of_decide_eq_true z
        rw [List.length_map] at z
        have z : 1 < c.length := by omega
        obtain ⟨zz, hz⟩ := rsts_last n c
        refine ⟨_, rfl, _, rfl, rfl, n, c, rfl, rgc, by omega, by omega, ?_⟩
        show sNext _ ⟨[some (.d (.int n)), some (.d (dF fm)), some (.d (dL (nL (pops n)))), some (.d (dL (nL ms))), some (.d (dL c)), some (.d (.list (iL (nL (rsts n c))))), none, none], [], dr⟩
        refine ⟨_, rfl, _, iL_at hz, ?_⟩
        show sNext _ ⟨[some (.d (.int n)), some (.d (dF fm)), some (.d (dL (nL (pops n)))), some (.d (dL (nL ms))), some (.d (dL c)), some (.d (.list (iL (nL (rsts n c))))), some (.d (.int ((rest n c : Nat) : Int))), none], [], dr⟩
        refine uLc_map (fun (m : Nat) => .int (m : Int)) (fun m => .int ((chN n m c : Nat) : Int)) ms ⟨[some (.d (.int n)), some (.d (dF fm)), some (.d (dL (nL (pops n)))), some (.d (dL (nL ms))), some (.d (dL c)), some (.d (.list (iL (nL (rsts n c))))), some (.d (.int ((rest n c : Nat) : Int))), none], [], dr⟩ (fun R h => ⟨_, rfl, ?_⟩) (by omega) (fun m hm R R' hR => ?_) ?_
        · show R ((nL ms).map PyData.int) _
          rw [nL_map]
          exact h
        · have ml := lt m hm
          have al : m &&& rest n c < 2 ^ n := Nat.lt_of_le_of_lt Nat.and_le_left ml
          have pl : pop n (m &&& rest n c) ≤ c.length := by
            rw [pop_rest c ndc rgc]
            exact List.countP_le_length
          refine ⟨_, rfl, _, rfl, _, rfl, _, rfl, _, rfl, _, rfl, _, nL_at (bitAnd_nat m (rest n c)) (pops_at al), _, nL_at rfl (rsts_at n c _ pl), ?_⟩
          show R (.d (.int (Builtin.bitOr (Builtin.bitAnd (m : Int) (Builtin.bitNot ((rest n c : Nat) : Int))) ((rest n (c.drop (c.length - pop n (m &&& rest n c))) : Nat) : Int)))) [] dr
          rw [one_el z]
          exact hR
        · show ∃ s4, Wk ⟨[some (.d (.int n)), some (.d (dF fm)), some (.d (dL (nL (pops n)))), some (.d (.list (ms.map fun m => PyData.int ((chN n m c : Nat) : Int)))), some (.d (dL c)), some (.d (.list (iL (nL (rsts n c))))), some (.d (.int ((rest n c : Nat) : Int))), none], [], dr⟩ s4 ∧ N s4
          rw [nL_list]
          exact ⟨_, wk_r, hN⟩
      · have z : ¬ (1 : Int) < ((c.map PyData.int).length : Int) := fun y => z (decide_eq_true y)
        rw [List.length_map] at z
        have e : (ms.map fun m => chN n m c) = ms := by
          refine (List.map_congr_left fun m _ => ?_).trans (List.map_id' ms)
          unfold chN
          rw [if_neg (by omega)]
        rw [e] at hN
        exact ⟨_, wk_r, hN⟩
    · show q (.d (dL (nL (fm.foldl (fun ms c => ms.map fun m => chN n m c) (List.range (2 ^ n)))))) dr
      rw [fam_map]
      exact k

end
end K51


set_option autoImplicit true
set_option Elab.async false
set_option linter.all false
set_option maxRecDepth 100000
set_option maxHeartbeats 8000000
namespace K51
open PySem PySem.Spec L2 Kt Dt
section
variable {P : Program} {w : Ww} {K : PySem.W.Frag} {mg : Str → Option Value} {base : Heap}
def firstsI (n st len : Nat) : List Int := ((List.range n).filter fun (i : Nat) => decide ((1 + (i : Int) - 1) / (st : Int) % (len : Int) = 0)).map fun (i : Nat) => 1 + (i : Int)
def chainI (st len : Nat) (a : Int) : List Int := (List.range len).map fun (j : Nat) => a + (st : Int) * (0 + (j : Int))
def chainsI (n st len : Nat) : List (List Int) := (firstsI n st len).map (chainI st len)
def linesF (h w : Nat) : List (List Int) := (List.range h).map (lineF w)
theorem ch_fin : ∀ h w : Fin 41, h.val * w.val ≤ 40 → 1 ≤ h.val → 1 ≤ w.val → chainsI (h.val * w.val) w.val h.val = downF h.val w.val ∧ chainsI (h.val * w.val) 1 w.val = linesF h.val w.val := by decide +kernel
theorem le_of_mul {h w m : Nat} (h1 : 1 ≤ h) (w1 : 1 ≤ w) (hm : h * w ≤ m) : h ≤ m ∧ w ≤ m := ⟨Nat.le_trans (Nat.le_mul_of_pos_right h w1) hm, Nat.le_trans (Nat.le_mul_of_pos_left w h1) hm⟩
theorem ch_dec {h w : Nat} (hm : h * w ≤ 40) (h1 : 1 ≤ h) (w1 : 1 ≤ w) : chainsI (h * w) w h = downF h w ∧ chainsI (h * w) 1 w = linesF h w := ch_fin ⟨h, by have := le_of_mul h1 w1 hm; omega⟩ ⟨w, by have := le_of_mul h1 w1 hm; omega⟩ hm h1 w1
theorem lists_own {α : Type} (L : List α) (f : α → List PyData) : (L.map (fun x => some (Ob.lst ((f x).map Vd.d))) ++ [some (Ob.lst ((List.range L.length).map fun i => Vd.p (0 + i)))])[0 + L.length]? = some (some (.lst ((List.range L.length).map Vd.p))) ∧
    Paired (fun i ds => (L.map (fun x => some (Ob.lst ((f x).map Vd.d))) ++ [some (Ob.lst ((List.range L.length).map fun i => Vd.p (0 + i)))])[i]? = some (some (.lst (ds.map Vd.d)))) (List.range L.length) (L.map f) := by
  constructor
  · rw [List.getElem?_append_right (by rw [List.length_map]; omega), List.length_map, show 0 + L.length - L.length = 0 by omega]
    show some (some (Ob.lst ((List.range L.length).map fun i => Vd.p (0 + i)))) = _
    congr 4
    funext i
    rw [Nat.zero_add]
  · refine paired_of_get (by rw [List.length_range, List.length_map]) fun i x y hx hy => ?_
    have hl := (List.getElem?_eq_some_iff.mp hy).1
    rw [List.length_map] at hl
    rw [List.getElem?_range hl] at hx
    obtain rfl := Option.some.inj hx
    rw [List.getElem?_append_left (by rw [List.length_map]; exact hl), List.getElem?_map]
    rw [List.getElem?_map, List.getElem?_eq_getElem hl] at hy
    rw [List.getElem?_eq_getElem hl]
    obtain rfl := Option.some.inj hy
    rfl
def spproduct_of : Spd := fun xs dr q => ∃ l : List Int, xs = [.d (dL l)] ∧ (∀ x ∈ l, 0 ≤ x ∧ x ≤ 40) ∧ q (.d (.int (l.foldl (· * ·) 1))) dr
abbrev sproduct_of : Stmt := tp 27
theorem scproduct_of : FnScope ["numbers", "result", "number"] ["numbers"] (defScope sproduct_of) := ⟨rfl, rfl, rfl, by decide +kernel, rfl, by decide +kernel, by decide +kernel⟩
theorem okproduct_of {f : Addr} {fd : FuncData} (F : Fun K "product_of" "product_of" sproduct_of f fd) (N : Nb mg) :
    FnD P w K mg base 1 f fd ["numbers"] spproduct_of := by
  refine fnD_of F scproduct_of (fun xs dr q h => ?_) (fun cdv A below s H hr gu => ⟨_, _, 
      (pss_cons (ps_set (i := 1) scproduct_of.nd rfl (.inl rfl) pe_int)
        (pss_cons (ps_for PassesOwn.never rfl (pi_list (pv 0)) (pg_name (i := 2) scproduct_of.nd rfl (.inl rfl))
          (pss_one (ps_set (i := 1) scproduct_of.nd rfl (.inl rfl) (pe_op op_mulU (pv 1) (pv 2)))))
        (pss_one (ps_ret (pv 1))))), 
      (abs_seq (abs_asg (ab_int _) (abg_name 1))
        (abs_seq (abs_for (abi_list (ab_var 0)) (abg_name 2)
          (abs_asg (ab_op (abr_mul false) (ab_var 1) (ab_var 2)) (abg_name 1)))
        (abs_ret (ab_var 1)))), fun xs dr q h => ?_⟩)
  · obtain ⟨l, rfl, rg, k⟩ := h
    rfl
  · obtain ⟨l, rfl, rg, k⟩ := h
    let S : Int → Sd := fun z => ⟨[some (.d (dL l)), some (.d (.int z)), none], [], dr⟩
    show sNext _ (S 1)
    refine sFor_fold PyData.int l S (fun z x => z * x) 1 (fun R h => ⟨_, rfl, h⟩) (fun i x hx z hz N hN bk => ?_) ⟨_, rfl, k⟩
    have xr := rg x (List.mem_of_getElem? hx)
    refine ⟨_, rfl, _, rfl, .inr ⟨by omega, by omega⟩, ?_⟩
    exact ⟨_, wk_r, hN⟩
def spcheck_lengths : Spd := fun xs dr q => ∃ h w : Nat, xs = [.d (dL [(h : Int), (w : Int)])] ∧ 1 ≤ h ∧ 1 ≤ w ∧ h * w ≤ 40 ∧ q (.d .none) dr
abbrev scheck_lengths : Stmt := tp 25
theorem sccheck_lengths : FnScope ["lengths", "thing"] ["lengths"] (defScope scheck_lengths) := ⟨rfl, rfl, rfl, by decide +kernel, rfl, by decide +kernel, by decide +kernel⟩
theorem okcheck_lengths {f : Addr} {fd : FuncData} (F : Fun K "check_lengths" "check_lengths" scheck_lengths f fd) (N : Nb mg)
    (hcheck_number : Has P w K mg base "check_number" 3 ["number", "most"] spcheck_number)
    (hproduct_of : Has P w K mg base "product_of" 1 ["numbers"] spproduct_of)
    {tMOST_PLACES : Tok} (cMOST_PLACES : mg "MOST_PLACES" = some (.int 40 tMOST_PLACES))
    {tMOST_SIDES : Tok} (cMOST_SIDES : mg "MOST_SIDES" = some (.int 4 tMOST_SIDES)) :
    FnD P w K mg base 4 f fd ["lengths"] spcheck_lengths := by
  refine fnD_of F sccheck_lengths (fun xs dr q h => ?_) (fun cdv A below s H hr gu => ⟨_, _, 
      (pss_cons (ps_if (PW.pt (pw_or (pt_not (pt_val (pe_callB call_isi (by rfl) N.isi (by decide +kernel) (pa_cons (pv 0) (pa_cons (pe_bltn (v := .ty "list") (by rfl) N.list (by decide +kernel) rfl) pa_nil))))) (pw_or1 (pt_not (pt_chain op_le op_le pe_int (pe_callB call_len_seq (by rfl) N.len PySem.boot_len (pa_cons (pv 0) pa_nil)) (pe_glob (v := .int 4) (by rfl) cMOST_SIDES ⟨_, rfl⟩)))))) (pss_one ps_never) pss_nil)
        (pss_cons (ps_for PassesOwn.never rfl (pi_list (pv 0)) (pg_name (i := 1) sccheck_lengths.nd rfl (.inl rfl))
          (pss_one (ps_expr (pe_callH hcheck_number (hr.mono (by decide)) gu (by rfl) (pa_cons (pv 1) (pa_cons (pe_glob (v := .int 40) (by rfl) cMOST_PLACES ⟨_, rfl⟩) pa_nil))))))
        (pss_one (ps_if (pt_cmpR op_gt (pe_callH hproduct_of (hr.mono (by decide)) gu (by rfl) (pa_cons (pv 0) pa_nil)) (pe_glob (v := .int 40) (by rfl) cMOST_PLACES ⟨_, rfl⟩) (by first | rfl | exact nomark _)) (pss_one ps_never) pss_nil)))), 
      (abs_seq (abs_if (abt_or (abt_not (abt_val (ab_isi "list" (ab_var 0)))) (abt_not (abt_test (ab_chain abr_le abr_le (ab_int _) (ab_cb abc_len (aba_cons (ab_var 0) aba_nil)) (ab_int _))))) abs_never abs_next)
        (abs_seq (abs_for (abi_list (ab_var 0)) (abg_name 1)
          (abs_drop (ab_call false (aba_cons (ab_var 1) (aba_cons (ab_int _) aba_nil)))))
        (abs_if (abt_test (ab_op abr_gt (ab_call false (aba_cons (ab_var 0) aba_nil)) (ab_int _))) abs_never abs_next))), fun xs dr q h => ?_⟩)
  · obtain ⟨h, w, rfl, h1, w1, h40, k⟩ := h
    rfl
  · obtain ⟨h, w, rfl, h1, w1, h40, k⟩ := h
    have sz : sizeLine = 16777216 := sizeLine_eq
    have le := le_of_mul h1 w1 h40
    have ph : ((h : Int) * (w : Int)) = ((h * w : Nat) : Int) := (Int.natCast_mul h w).symm
    refine ⟨_, rfl, _, true, rfl, rfl, ?_⟩
    refine ⟨_, rfl, ?_⟩
    show sNext _ ⟨[some (.d (dL [(h : Int), (w : Int)])), none], [], dr⟩
    refine sFor_inv PyData.int [(h : Int), (w : Int)] ⟨[some (.d (dL [(h : Int), (w : Int)])), none], [], dr⟩ (fun i s => s = ⟨[some (.d (dL [(h : Int), (w : Int)])), none], [], dr⟩) (fun R h => ⟨_, rfl, h⟩) rfl (fun i g s hx hs => ?_) (fun s hs => ?_)
    · subst hs
      have hg := List.mem_of_getElem? hx
      have rg : 1 ≤ g ∧ g ≤ 40 := by
        rcases List.mem_cons.mp hg with e | e
        · rw [e]; omega
        · rw [List.mem_singleton.mp e]; omega
      exact ⟨_, rfl, rfl, g, 40, rfl, rg.1, rg.2, _, wk_r, rfl⟩
    · subst hs
      refine ⟨_, rfl, rfl, [(h : Int), (w : Int)], rfl, fun x hx => ?_, ?_⟩
      · rcases List.mem_cons.mp hx with e | e
        · rw [e]; omega
        · rw [List.mem_singleton.mp e]; omega
      · show if decide ((1 : Int) * (h : Int) * (w : Int) > 40) = true then _ else _
        refine ite2 (fun z => ?_) (fun z => k)
        have z := of_decide_eq_true z
        rw [Int.one_mul, ph] at z
        omega
def spcheck_table : Spd := fun xs dr q => ∃ h w m : Nat, xs = [.d (.int (h : Int)), .d (.int (w : Int)), .d (.int (m : Int))] ∧ 1 ≤ h ∧ 1 ≤ w ∧ h * w ≤ m ∧ m ≤ 40 ∧ q (.d .none) dr
abbrev scheck_table : Stmt := tp 26
theorem sccheck_table : FnScope ["rows", "columns", "most"] ["rows", "columns", "most"] (defScope scheck_table) := ⟨rfl, rfl, rfl, by decide +kernel, rfl, by decide +kernel, by decide +kernel⟩
theorem okcheck_table {f : Addr} {fd : FuncData} (F : Fun K "check_table" "check_table" scheck_table f fd) (N : Nb mg)
    (hcheck_number : Has P w K mg base "check_number" 3 ["number", "most"] spcheck_number) :
    FnD P w K mg base 4 f fd ["rows", "columns", "most"] spcheck_table := by
  refine fnD_of F sccheck_table (fun xs dr q h => ?_) (fun cdv A below s H hr gu => ⟨_, _, 
      (pss_cons (ps_expr (pe_callH hcheck_number (hr.mono (by decide)) gu (by rfl) (pa_cons (pv 0) (pa_cons (pv 2) pa_nil))))
        (pss_one (ps_expr (pe_callH hcheck_number (hr.mono (by decide)) gu (by rfl) (pa_cons (pv 1) (pa_cons (pe_op op_fdiv (pv 2) (pv 0)) pa_nil)))))), 
      (abs_seq (abs_drop (ab_call false (aba_cons (ab_var 0) (aba_cons (ab_var 2) aba_nil))))
        (abs_drop (ab_call false (aba_cons (ab_var 1) (aba_cons (ab_op abr_div (ab_var 2) (ab_var 0)) aba_nil))))), fun xs dr q h => ?_⟩)
  · obtain ⟨h, w, m, rfl, h1, w1, hm, m40, k⟩ := h
    rfl
  · obtain ⟨h, w, m, rfl, h1, w1, hm, m40, k⟩ := h
    have le := le_of_mul h1 w1 hm
    have dv : (w : Int) ≤ (m : Int) / (h : Int) := by
      refine (Int.le_ediv_iff_mul_le (by omega)).mpr ?_
      rw [← Int.natCast_mul, Nat.mul_comm]
      exact Int.ofNat_le.mpr hm
    refine ⟨_, rfl, _, rfl, rfl, h, m, rfl, by omega, by omega, ?_⟩
    refine ⟨_, rfl, _, rfl, _, rfl, ⟨by omega, by omega⟩, rfl, w, (m : Int) / (h : Int), rfl, by omega, dv, k⟩
/-- halvings, with fuel -/
def halvF : Nat → Nat → Nat
  | 0, _ => 0
  | f + 1, h => if 1 < h then halvF f ((h + 1) / 2) + 1 else 0
def halvings (h : Nat) : Nat := halvF h h
def int0 (s : Sd) : Nat := match s.r[0]? with
  | some (some (Vd.d (PyData.int a))) => a.toNat
  | _ => 0
theorem halv_fuel : ∀ a < 41, ∀ f < 41, a ≤ f → halvF f a = halvF a a := by decide +kernel
theorem halv_step {a : Nat} (h : 2 ≤ a) (h40 : a ≤ 40) : halvings a = halvings ((a + 1) / 2) + 1 := by
  obtain ⟨f, rfl⟩ : ∃ f, a = f + 1 := ⟨a - 1, by omega⟩
  show (if 1 < f + 1 then halvF f ((f + 1 + 1) / 2) + 1 else 0) = _
  rw [if_pos (by omega), halv_fuel _ (by omega) f (by omega) (by omega)]
  rfl
def spenough_rounds : Spd := fun xs dr q => ∃ h : Nat, xs = [.d (.int (h : Int))] ∧ 1 ≤ h ∧ h ≤ 40 ∧ q (.d (.int ((halvings h : Nat) : Int))) dr
abbrev senough_rounds : Stmt := tp 29
theorem scenough_rounds : FnScope ["rows", "rounds"] ["rows"] (defScope senough_rounds) := ⟨rfl, rfl, rfl, by decide +kernel, rfl, by decide +kernel, by decide +kernel⟩
theorem okenough_rounds {f : Addr} {fd : FuncData} (F : Fun K "enough_rounds" "enough_rounds" senough_rounds f fd) (N : Nb mg) :
    FnD P w K mg base 1 f fd ["rows"] spenough_rounds := by
  refine fnD_of F scenough_rounds (fun xs dr q h => ?_) (fun cdv A below s H hr gu => ⟨_, _, 
      (pss_cons (ps_set (i := 1) scenough_rounds.nd rfl (.inl rfl) pe_int)
        (pss_cons (ps_while PassesOwn.never (pt_cmpR op_gt (pv 0) pe_int (by first | rfl | exact nomark _))
          (pss_cons (ps_set (i := 0) scenough_rounds.nd rfl (.inl rfl) (pe_op op_fdiv (pe_op op_addU (pv 0) pe_int) pe_int))
          (pss_one (ps_aug (i := 1) scenough_rounds.nd rfl (.inl rfl) pe_int ip_add))))
        (pss_one (ps_ret (pv 1))))), 
      (abs_seq (abs_asg (ab_int _) (abg_name 1))
        (abs_seq (abs_while (abt_test (ab_op abr_gt (ab_var 0) (ab_int _)))
          (abs_seq (abs_asg (ab_op abr_div (ab_op (abr_add false) (ab_var 0) (ab_int _)) (ab_int _)) (abg_name 0))
          (abs_aug 1 (ab_int _))))
        (abs_ret (ab_var 1)))), fun xs dr q h => ?_⟩)
  · obtain ⟨h, rfl, h1, h40, k⟩ := h
    rfl
  · obtain ⟨h, rfl, h1, h40, k⟩ := h
    let I : Sd → Prop := fun s => ∃ a b : Nat, s = ⟨[some (.d (.int (a : Int))), some (.d (.int (b : Int)))], [], dr⟩ ∧ 1 ≤ a ∧ a ≤ 40 ∧ b + halvings a = halvings h
    show sNext _ ⟨[some (.d (.int (h : Int))), some (.d (.int (((0 : Nat) : Nat) : Int)))], [], dr⟩
    refine sWhile_by _ I int0 ⟨h, 0, rfl, h1, h40, Nat.zero_add _⟩ ?_
    rintro s ⟨a, b, rfl, a1, a40, e⟩
    refine ⟨_, rfl, ?_⟩
    show if decide ((a : Int) > 1) = true then _ else _
    refine ite2 (fun z => ?_) (fun z => ?_)
    · have z := of_decide_eq_true z
      refine ⟨_, rfl, ⟨by decide, by decide⟩, _, rfl, ?_⟩
      have ea : ((a : Int) + 1) / 2 = (((a + 1) / 2 : Nat) : Int) := by omega
      have eb : (b : Int) + 1 = ((b + 1 : Nat) : Int) := by omega
      show ∃ s4, Wk ⟨[some (.d (.int (((a : Int) + 1) / 2))), some (.d (.int ((b : Int) + 1)))], [], dr⟩ s4 ∧ I s4 ∧ int0 s4 < ((a : Nat) : Int).toNat
      rw [ea, eb]
      refine ⟨_, wk_r, ⟨(a + 1) / 2, b + 1, rfl, by omega, by omega, ?_⟩, ?_⟩
      · rw [← e, halv_step (by omega) a40]
        omega
      · show (((a + 1) / 2 : Nat) : Int).toNat < ((a : Nat) : Int).toNat
        omega
    · have z : ¬ (a : Int) > 1 := fun y => z (decide_eq_true y)
      refine ⟨_, rfl, ?_⟩
      have : a = 1 := by omega
      subst this
      have e : b = halvings h := by rw [← e]; rfl
      rw [e]
      exact k
def spchains_along : Spd := fun xs dr q => ∃ (h w : Nat) (s : Int), xs = [.d (dL [(h : Int), (w : Int)]), .d (.int s)] ∧ 1 ≤ h ∧ 1 ≤ w ∧ h * w ≤ 40 ∧ ((s = 0 ∧ q (.nn ((downF h w).map iL)) dr) ∨ (s = 1 ∧ q (.nn ((linesF h w).map iL)) dr))
abbrev schains_along : Stmt := tp 28
theorem scchains_along : FnScope ["lengths", "side", "places", "step", "firsts", "place", "first", "index"] ["lengths", "side"] (defScope schains_along) := ⟨rfl, rfl, rfl, by decide +kernel, rfl, by decide +kernel, by decide +kernel⟩
theorem okchains_along {f : Addr} {fd : FuncData} (F : Fun K "chains_along" "chains_along" schains_along f fd) (N : Nb mg)
    (hproduct_of : Has P w K mg base "product_of" 1 ["numbers"] spproduct_of) :
    FnD P w K mg base 2 f fd ["lengths", "side"] spchains_along := by
  refine fnD_of F scchains_along (fun xs dr q h => ?_) (fun cdv A below s H hr gu => ⟨_, _, 
      (pss_cons (ps_set (i := 2) scchains_along.nd rfl (.inl rfl) (pe_callH hproduct_of (hr.mono (by decide)) gu (by rfl) (pa_cons (pv 0) pa_nil)))
        (pss_cons (ps_set (i := 3) scchains_along.nd rfl (.inr rfl) (pe_callH hproduct_of (hr.mono (by decide)) gu (by rfl) (pa_cons (pe_slice sl_list (pv 0) (po_some (pe_op op_addU (pv 1) pe_int)) po_none) pa_nil)))
        (pss_cons (ps_setLc (i := 4) (own := [("place", 5)]) (g := gName 5)  rfl scchains_along.nd rfl rfl (sw_true rfl rfl rfl (by decide +kernel)) (pi_range2 (by rfl) N.range (pa_cons pe_int (pa_cons (pe_op op_addU (pv 2) pe_int) pa_nil))) (blkOk_by (N := ["lengths", "side", "places", "step", "firsts", "place", "first", "index"]) (sc := defScope schains_along) (by decide +kernel)) (fun _ _ _ _ _ => pg_name (i := 5) scchains_along.nd rfl (Or.inl rfl)) (fun _ _ _ _ _ => pts_one (pt_cmpR (op_eqU hr.units) (pe_op op_mod (pe_op op_fdiv (pe_op op_sub (pv 5) pe_int) (pv 3)) (pe_ix ix_seq (pv 0) (pv 1) (fun _ _ => rfl))) pe_int (by first | rfl | exact nomark _))) (fun _ _ _ _ _ => (pv 5)))
        (pss_one (ps_ret (pe_lc (own := [("first", 6)]) (g := gName 6) (tt := tYes)  rfl scchains_along.nd (pi_list (pv 4)) (blkOk_by (N := ["lengths", "side", "places", "step", "firsts", "place", "first", "index"]) (sc := defScope schains_along) (by decide +kernel)) (fun _ _ _ _ _ => pg_name (i := 6) scchains_along.nd rfl (Or.inr rfl)) (fun _ _ _ _ _ => pts_nil) (fun _ _ _ _ _ => (pe_lc (own := [("index", 7)]) (g := gName 7) (tt := tYes)  rfl scchains_along.nd (pi_range1 (by rfl) N.range (pa_cons (pe_ix ix_seq (pv 0) (pv 1) (fun _ _ => rfl)) pa_nil)) (blkOk_by (N := ["lengths", "side", "places", "step", "firsts", "place", "first", "index"]) (sc := { kind := ScopeKind.function, names := [(Str.ofString ".0", NameKind.local), (Str.ofString "first", NameKind.cell), (Str.ofString "range", NameKind.globalImplicit), (Str.ofString "lengths", NameKind.cell), (Str.ofString "side", NameKind.cell), (Str.ofString "step", NameKind.cell)], isGenerator := false, isCoroutine := false }) (by decide +kernel)) (fun _ _ _ _ _ => pg_name (i := 7) scchains_along.nd rfl (Or.inl rfl)) (fun _ _ _ _ _ => pts_nil) (fun _ _ _ _ _ => (pe_op op_addU (pv 6) (pe_op op_mulU (pv 3) (pv 7)))))))))))), 
      (abs_seq (abs_asg (ab_call false (aba_cons (ab_var 0) aba_nil)) (abg_name 2))
        (abs_seq (abs_asg (ab_call false (aba_cons (ab_sl false (ab_var 0) (ab_part (ab_op (abr_add false) (ab_var 1) (ab_int _))) ab_nopart) aba_nil)) (abg_name 3))
        (abs_seq (abs_asg (ab_lc false (abi_rng2 (aba_cons (ab_int _) (aba_cons (ab_op (abr_add false) (ab_var 2) (ab_int _)) aba_nil))) (abg_name 5) tgok_name (abt_test (ab_op abr_eq (ab_op abr_mod (ab_op abr_div (ab_op abr_sub (ab_var 5) (ab_int _)) (ab_var 3)) (ab_op abr_ix (ab_var 0) (ab_var 1))) (ab_int _))) (ab_var 5)) (abg_name 4))
        (abs_ret (ab_lcV (abi_list (ab_var 4)) (abg_name 6) tgok_name abt_yes (ab_lc true (abi_rng1 (aba_cons (ab_op abr_ix (ab_var 0) (ab_var 1)) aba_nil)) (abg_name 7) tgok_name abt_yes (ab_op (abr_add false) (ab_var 6) (ab_op (abr_mul false) (ab_var 3) (ab_var 7))))))))), fun xs dr q h => ?_⟩)
  · obtain ⟨h, w, s, rfl, h1, w1, h40, k⟩ := h
    rfl
  · obtain ⟨h, w, s, rfl, h1, w1, h40, k⟩ := h
    have sz : sizeLine = 16777216 := sizeLine_eq
    have le := le_of_mul h1 w1 h40
    have ph : ((1 : Int) * (h : Int) * (w : Int)) = ((h * w : Nat) : Int) := by rw [Int.one_mul]; exact (Int.natCast_mul h w).symm
    have rg : ∀ x ∈ [(h : Int), (w : Int)], 0 ≤ x ∧ x ≤ 40 := fun x hx => by
      rcases List.mem_cons.mp hx with e | e
      · rw [e]; omega
      · rw [List.mem_singleton.mp e]; omega
    -- for a side: its step, its length
    obtain ⟨st, len, rest, s0, st1, st40, l1, l40, ec, es, rgr, el, k⟩ : ∃ (st len : Nat) (rest : List Int), (0 ≤ s ∧ s ≤ 1) ∧ 1 ≤ st ∧ st ≤ 40 ∧ 1 ≤ len ∧ len ≤ 40 ∧ cutA ([(h : Int), (w : Int)].map PyData.int) (some (s + 1)) none = rest.map PyData.int ∧ rest.foldl (· * ·) 1 = (st : Int) ∧ (∀ x ∈ rest, 0 ≤ x ∧ x ≤ 40) ∧ atI ([(h : Int), (w : Int)].map PyData.int) s = some (.int (len : Int)) ∧ q (.nn ((chainsI (h * w) st len).map iL)) dr := by
      obtain ⟨c1, c2⟩ := ch_dec h40 h1 w1
      rcases k with ⟨rfl, k⟩ | ⟨rfl, k⟩
      · exact ⟨w, h, [(w : Int)], ⟨by omega, by omega⟩, w1, by omega, h1, by omega, rfl, Int.one_mul _, fun x hx => rg x (List.mem_cons_of_mem _ hx), rfl, by rw [c1]; exact k⟩
      · exact ⟨1, w, [], ⟨by omega, by omega⟩, by omega, by omega, w1, by omega, rfl, rfl, fun x hx => (by cases hx), rfl, by rw [c2]; exact k⟩
    have fl : (firstsI (h * w) st len).length ≤ 40 := by
      unfold firstsI
      rw [List.length_map]
      exact Nat.le_trans (List.length_filter_le _ _) (by rw [List.length_range]; exact h40)
    refine ⟨_, rfl, rfl, [(h : Int), (w : Int)], rfl, rg, ?_⟩
    show sNext _ ⟨[some (.d (dL [(h : Int), (w : Int)])), some (.d (.int s)), some (.d (.int ((1 : Int) * (h : Int) * (w : Int)))), none, none, none, none, none], [], dr⟩
    rw [ph]
    refine ⟨_, rfl, _, rfl, rfl, rest, ?_, rgr, ?_⟩
    · show [Vd.d (PyData.list (cutA ([(h : Int), (w : Int)].map PyData.int) (some (s + 1)) none))] = _
      rw [ec]
      rfl
    show sNext _ ⟨[some (.d (dL [(h : Int), (w : Int)])), some (.d (.int s)), some (.d (.int ((h * w : Nat) : Int))), some (.d (.int (rest.foldl (· * ·) 1))), none, none, none, none], [], dr⟩
    rw [es]
    refine uLc_src (fun (i : Nat) => .int (1 + (i : Int))) (fun i => decide ((1 + (i : Int) - 1) / (st : Int) % (len : Int) = 0)) (fun i => .int (1 + (i : Int))) (List.range (h * w)) ⟨[some (.d (dL [(h : Int), (w : Int)])), some (.d (.int s)), some (.d (.int ((h * w : Nat) : Int))), some (.d (.int (st : Int))), none, none, none, none], [], dr⟩ (fun R h' => ⟨_, rfl, ⟨by omega, by omega, by omega, by omega⟩, ?_⟩) (by rw [List.length_range]; omega) (fun i hi R R' hR hR' => ?_) ?_
    · show R (intsR 1 (((h * w : Nat) : Int) + 1 - 1).toNat) _
      rw [show (((h * w : Nat) : Int) + 1 - 1).toNat = h * w by omega]
      exact h'
    · refine ⟨_, rfl, _, rfl, ⟨by omega, by omega⟩, _, rfl, _, rfl, _, el, by omega, ?_⟩
      show if (false ^^ decide ((1 + (i : Int) - 1) / (st : Int) % (len : Int) = 0)) = true then _ else _
      rw [Bool.false_xor]
      exact ite2 (fun z => ⟨_, rfl, hR z⟩) (fun z => hR' (Bool.eq_false_iff.mpr z))
    · have ef : PyData.list (((List.range (h * w)).filter fun (i : Nat) => decide ((1 + (i : Int) - 1) / (st : Int) % (len : Int) = 0)).map fun (i : Nat) => PyData.int (1 + (i : Int))) = dL (firstsI (h * w) st len) := by
        unfold firstsI dL
        rw [List.map_map]
        rfl
      show sNext _ ⟨[some (.d (dL [(h : Int), (w : Int)])), some (.d (.int s)), some (.d (.int ((h * w : Nat) : Int))), some (.d (.int (st : Int))), some (.d (PyData.list (((List.range (h * w)).filter fun (i : Nat) => decide ((1 + (i : Int) - 1) / (st : Int) % (len : Int) = 0)).map fun (i : Nat) => PyData.int (1 + (i : Int))))), none, none, none], [], dr⟩
      rw [ef]
      refine uLcV_lists PyData.int (fun a => iL (chainI st len a)) (firstsI (h * w) st len) ⟨[some (.d (dL [(h : Int), (w : Int)])), some (.d (.int s)), some (.d (.int ((h * w : Nat) : Int))), some (.d (.int (st : Int))), some (.d (dL (firstsI (h * w) st len))), none, none, none], [], dr⟩ (fun R h' => ⟨_, rfl, h'⟩) (by omega) (fun a ha o R R' hR => ?_) (.inr (.inr ⟨List.range (firstsI (h * w) st len).length, (chainsI (h * w) st len).map iL, ?_, List.nodup_range, ?_, k⟩))
      · refine uLc_map (fun (j : Nat) => .int (0 + (j : Int))) (fun (j : Nat) => .int (a + (st : Int) * (0 + (j : Int)))) (List.range len) ⟨[some (.d (dL [(h : Int), (w : Int)])), some (.d (.int s)), some (.d (.int ((h * w : Nat) : Int))), some (.d (.int (st : Int))), some (.d (dL (firstsI (h * w) st len))), none, some (.d (.int a)), none], o, dr⟩ (fun R h' => ⟨_, rfl, _, rfl, _, el, by omega, by omega, ?_⟩) (by rw [List.length_range]; omega) (fun j hj R R' hR => ?_) ?_
        · show R (intsR 0 ((len : Nat) : Int).toNat) _
          rw [Int.toNat_natCast]
          exact h'
        · have hj := List.mem_range.mp hj
          exact ⟨_, rfl, _, rfl, _, rfl, .inl ⟨by omega, by omega⟩, hR⟩
        · have e : ((List.range len).map fun (j : Nat) => PyData.int (a + (st : Int) * (0 + (j : Int)))) = iL (chainI st len a) := by
            unfold iL chainI
            rw [List.map_map]
            rfl
          rw [e]
          exact hR
      · exact (lists_own (firstsI (h * w) st len) fun a => iL (chainI st len a)).1
      · have e := (lists_own (firstsI (h * w) st len) fun a => iL (chainI st len a)).2
        have e2 : (firstsI (h * w) st len).map (fun a => iL (chainI st len a)) = (chainsI (h * w) st len).map iL := by
          unfold chainsI
          rw [List.map_map]
          rfl
        rw [e2] at e
        exact e

end
end K51


set_option autoImplicit true
set_option Elab.async false
set_option linter.all false
set_option maxRecDepth 100000
set_option maxHeartbeats 8000000
namespace K51
open PySem PySem.Spec L2 Kt Dt
section
variable {P : Program} {w : Ww} {K : PySem.W.Frag} {mg : Str → Option Value} {base : Heap}
/-! ### new lists of new lists among own things -/
def refsV (b k : Nat) : List Vd := (List.range k).map fun i => .p (b + i)
def nnO (o : List (Option Ob)) (X : List (List PyData)) : List (Option Ob) := o ++ X.map (fun ds => some (.lst (ds.map Vd.d))) ++ [some (.lst (refsV o.length X.length))]
/-- where it lies: behind b things, of k lists -/
def nnI (b k : Nat) : Nat × List Nat := (b + k, (List.range k).map fun i => b + i)
theorem nnO_len (o : List (Option Ob)) (X : List (List PyData)) : (nnO o X).length = o.length + X.length + 1 := by unfold nnO; rw [List.length_append, List.length_append, List.length_map]; rfl
theorem nnO_pre (o : List (Option Ob)) (X : List (List PyData)) : o <+: nnO o X := ⟨X.map (fun ds => some (.lst (ds.map Vd.d))) ++ [some (.lst (refsV o.length X.length))], by unfold nnO; rw [List.append_assoc]⟩
theorem own2_at {o o' : List (Option Ob)} {p : Nat × List Nat} {X : List (List PyData)} (h : Own2 o p X) (e : ∀ i, i ∈ p.1 :: p.2 → o'[i]? = o[i]?) : Own2 o' p X := by
  obtain ⟨h1, h2⟩ := h
  refine ⟨(e _ List.mem_cons_self).trans h1, ?_⟩
  have e2 : ∀ i ∈ p.2, o'[i]? = o[i]? := fun i hi => e i (List.mem_cons_of_mem _ hi)
  generalize p.2 = is at h2 e2
  clear e h1
  induction h2 with
  | nil => exact .nil
  | cons r t ih => exact .cons ((e2 _ List.mem_cons_self).trans r) (ih fun i hi => e2 i (List.mem_cons_of_mem _ hi))
theorem own2_lt {o : List (Option Ob)} {p : Nat × List Nat} {X : List (List PyData)} (h : Own2 o p X) : ∀ i, i ∈ p.1 :: p.2 → i < o.length := by
  obtain ⟨h1, h2⟩ := h
  intro i hi
  rcases List.mem_cons.mp hi with e | hi
  · rw [e]; exact (List.getElem?_eq_some_iff.mp h1).1
  · obtain ⟨y, _, r⟩ := paired_mem h2 hi
    exact (List.getElem?_eq_some_iff.mp r).1
theorem pre_at {o o' : List (Option Ob)} (h : o <+: o') {i : Nat} (hi : i < o.length) : o'[i]? = o[i]? := by
  obtain ⟨z, rfl⟩ := h
  exact List.getElem?_append_left hi
theorem own2_pre {o o' : List (Option Ob)} {p : Nat × List Nat} {X : List (List PyData)} (h : Own2 o p X) (e : o <+: o') : Own2 o' p X := own2_at h fun i hi => pre_at e (own2_lt h i hi)
theorem nn_own (o : List (Option Ob)) (X : List (List PyData)) : Own2 (nnO o X) (nnI o.length X.length) X := by
  constructor
  · show (nnO o X)[o.length + X.length]? = _
    unfold nnO
    rw [List.getElem?_append_right (by rw [List.length_append, List.length_map]; omega), List.length_append, List.length_map, Nat.sub_self]
    show some (some (Ob.lst (refsV o.length X.length))) = some (some (.lst (((List.range X.length).map fun i => o.length + i).map Vd.p)))
    unfold refsV
    rw [List.map_map]
    rfl
  · refine paired_of_get (by show ((List.range X.length).map _).length = _; rw [List.length_map, List.length_range]) fun i x y hx hy => ?_
    have hl := (List.getElem?_eq_some_iff.mp hy).1
    have hx : ((List.range X.length).map fun i => o.length + i)[i]? = some x := hx
    rw [List.getElem?_map, List.getElem?_range hl] at hx
    obtain rfl := Option.some.inj hx
    show (nnO o X)[o.length + i]? = _
    unfold nnO
    rw [List.getElem?_append_left (by rw [List.length_append, List.length_map]; omega), List.getElem?_append_right (by omega), show o.length + i - o.length = i by omega, List.getElem?_map, hy]
    rfl
theorem nnI_mem {b k i : Nat} (h : i ∈ (nnI b k).1 :: (nnI b k).2) : b ≤ i ∧ i ≤ b + k := by
  rcases List.mem_cons.mp h with e | h
  · rw [e]
    show b ≤ b + k ∧ b + k ≤ b + k
    omega
  · have h : i ∈ (List.range k).map fun i => b + i := h
    obtain ⟨j, hj, rfl⟩ := List.mem_map.mp h
    have := List.mem_range.mp hj
    omega
theorem nnI_nd (b k : Nat) : ((nnI b k).1 :: (nnI b k).2).Nodup := by
  refine List.nodup_cons.mpr ⟨fun h => ?_, ?_⟩
  · have h : b + k ∈ (List.range k).map fun i => b + i := h
    obtain ⟨j, hj, e⟩ := List.mem_map.mp h
    have := List.mem_range.mp hj
    omega
  · show ((List.range k).map fun i => b + i).Nodup
    exact List.pairwise_map.mpr (List.nodup_range.imp fun ne e => ne (by omega))
theorem flat2_app (I J : List (Nat × List Nat)) : flat2 (I ++ J) = flat2 I ++ flat2 J := by unfold flat2; rw [List.flatMap_append]
theorem paired_snoc2 {α β : Type} {R : α → β → Prop} {a : α} {b : β} (h : R a b) : ∀ {l : List α} {m : List β}, Paired R l m → Paired R (l ++ [a]) (m ++ [b])
  | _, _, .nil => .cons h .nil
  | _, _, .cons r t => .cons r (paired_snoc2 h t)
theorem fam_at {o o' : List (Option Ob)} : ∀ {I : List (Nat × List Nat)} {Xs : List (List (List PyData))}, Paired (Own2 o) I Xs → (∀ i, i ∈ flat2 I → o'[i]? = o[i]?) → Paired (Own2 o') I Xs
  | _, _, .nil, _ => .nil
  | _, _, .cons r t, e => .cons (own2_at r fun i hi => e i (List.mem_append_left _ hi)) (fam_at t fun i hi => e i (List.mem_append_right _ hi))
theorem fam_lt {o : List (Option Ob)} : ∀ {I : List (Nat × List Nat)} {Xs : List (List (List PyData))}, Paired (Own2 o) I Xs → ∀ i, i ∈ flat2 I → i < o.length
  | _, _, .nil, i, h => by cases h
  | _, _, .cons r t, i, h => by
    rcases List.mem_append.mp (show i ∈ (_ :: _) ++ flat2 _ from h) with h | h
    · exact own2_lt r i h
    · exact fam_lt t i h
/-- one more -/
theorem own3_more {b : Nat} {o o' : List (Option Ob)} {j : Nat} {I : List (Nat × List Nat)} {Xs : List (List (List PyData))} {p : Nat × List Nat} {X : List (List PyData)} (h : Own3 b o j I Xs) (e : o <+: o') (hp : Own2 o' p X) (nd : (p.1 :: p.2).Nodup) (hi : ∀ i, i ∈ p.1 :: p.2 → o.length ≤ i) (bo : b ≤ o.length) :
    Own3 b (o'.set j (some (.lst (I.map (fun p => Vd.p p.1) ++ [.p p.1])))) j (I ++ [p]) (Xs ++ [X]) := by
  have jl : j < o.length := (List.getElem?_eq_some_iff.mp h.top).1
  have jl' : j < o'.length := Nat.lt_of_lt_of_le jl e.length_le
  have nj : ∀ i, i ∈ flat2 I → i ≠ j := fun i hi z => (List.nodup_cons.mp h.nd).1 (z ▸ hi)
  refine ⟨?_, ?_, ?_, ?_⟩
  · rw [List.getElem?_set_self jl', List.map_append]
    rfl
  · refine paired_snoc2 ?_ ?_
    · refine own2_at hp fun i h' => ?_
      have := hi i h'
      rw [List.getElem?_set_ne (by omega)]
    · refine fam_at (o := o) h.fam fun i h' => ?_
      rw [List.getElem?_set_ne (fun z => nj i h' z.symm)]
      exact pre_at e (fam_lt h.fam i h')
  · rw [flat2_app]
    have e2 : flat2 [p] = p.1 :: p.2 := by unfold flat2; rw [List.flatMap_cons, List.flatMap_nil, List.append_nil]
    rw [e2, ← List.cons_append]
    refine List.nodup_append.mpr ⟨h.nd, nd, fun x hx y hy z => ?_⟩
    subst z
    have := hi x hy
    rcases List.mem_cons.mp hx with q | q
    · omega
    · have := fam_lt h.fam x q
      omega
  · intro i h'
    rw [flat2_app, ← List.cons_append] at h'
    rcases List.mem_append.mp h' with q | q
    · exact h.low i q
    · have e2 : flat2 [p] = p.1 :: p.2 := by unfold flat2; rw [List.flatMap_cons, List.flatMap_nil, List.append_nil]
      rw [e2] at q
      have := hi i q
      omega
theorem own3_end {o : List (Option Ob)} {I : List (Nat × List Nat)} {Xs : List (List (List PyData))} (h : Paired (Own2 o) I Xs) (nd : (flat2 I).Nodup) : Own3 0 (o ++ [some (.lst (I.map fun p => Vd.p p.1))]) o.length I Xs where
  top := List.getElem?_concat_length
  fam := fam_at h fun i hi => List.getElem?_append_left (fam_lt h i hi)
  nd := List.nodup_cons.mpr ⟨fun z => absurd (fam_lt h _ z) (Nat.lt_irrefl _), nd⟩
  low := fun i _ => Nat.zero_le i
theorem two_nd {a b c d : Nat} (h : a + b < c) : (flat2 [nnI a b, nnI c d]).Nodup := by
  have e : flat2 [nnI a b, nnI c d] = ((nnI a b).1 :: (nnI a b).2) ++ ((nnI c d).1 :: (nnI c d).2) := by
    unfold flat2
    rw [List.flatMap_cons, List.flatMap_cons, List.flatMap_nil, List.append_nil]
  rw [e]
  refine List.nodup_append.mpr ⟨nnI_nd a b, nnI_nd c d, fun x hx y hy z => ?_⟩
  have := nnI_mem hx
  have := nnI_mem hy
  omega
def spaxes : Spd := fun xs dr q => ∃ (h w : Nat), xs = [.d (dL [(h : Int), (w : Int)])] ∧ 1 ≤ h ∧ 1 ≤ w ∧ h * w ≤ 40 ∧ q (.n3 [(downF h w).map iL, (linesF h w).map iL]) dr
abbrev saxes : Stmt := tp 20
theorem scaxes : FnScope ["lengths", "side"] ["lengths"] (defScope saxes) := ⟨rfl, rfl, rfl, by decide +kernel, rfl, by decide +kernel, by decide +kernel⟩
theorem okaxes {f : Addr} {fd : FuncData} (F : Fun K "axes" "axes" saxes f fd) (N : Nb mg)
    (hchains_along : Has P w K mg base "chains_along" 2 ["lengths", "side"] spchains_along)
    (hcheck_lengths : Has P w K mg base "check_lengths" 4 ["lengths"] spcheck_lengths) :
    FnD P w K mg base 5 f fd ["lengths"] spaxes := by
  refine fnD_of F scaxes (fun xs dr q h => ?_) (fun cdv A below s H hr gu => ⟨_, _, 
      (pss_cons (ps_expr (pe_callH hcheck_lengths (hr.mono (by decide)) gu (by rfl) (pa_cons (pv 0) pa_nil)))
        (pss_one (ps_ret (pe_lc (own := [("side", 1)]) (g := gName 1) (tt := tYes)  rfl scaxes.nd (pi_range1 (by rfl) N.range (pa_cons (pe_callB call_len_seq (by rfl) N.len PySem.boot_len (pa_cons (pv 0) pa_nil)) pa_nil)) (blkOk_by (N := ["lengths", "side"]) (sc := defScope saxes) (by decide +kernel)) (fun _ _ _ _ _ => pg_name (i := 1) scaxes.nd rfl (Or.inl rfl)) (fun _ _ _ _ _ => pts_nil) (fun _ _ _ _ _ => (pe_callH hchains_along (hr.mono (by decide)) gu (by rfl) (pa_cons (pv 0) (pa_cons (pv 1) pa_nil)))))))), 
      (abs_seq (abs_drop (ab_call false (aba_cons (ab_var 0) aba_nil)))
        (abs_ret (ab_lcV (abi_rng1 (aba_cons (ab_cb abc_len (aba_cons (ab_var 0) aba_nil)) aba_nil)) (abg_name 1) tgok_name abt_yes (ab_call true (aba_cons (ab_var 0) (aba_cons (ab_var 1) aba_nil)))))), fun xs dr q h => ?_⟩)
  · obtain ⟨h, w, rfl, h1, w1, h40, k⟩ := h
    rfl
  · obtain ⟨h, w, rfl, h1, w1, h40, k⟩ := h
    refine ⟨_, rfl, rfl, h, w, rfl, h1, w1, h40, ?_⟩
    generalize hA : (downF h w).map iL = A at k
    generalize hB : (linesF h w).map iL = B at k
    show sRet (uLcV (uIRng1 (uCons (uCB dLen (uCons (uVar 0) uNil)) uNil)) (gdName 1) (fun s q => q true s) (uCall true spchains_along id (uCons (uVar 0) (uCons (uVar 1) uNil))) [1]) (endD q) ⟨[some (.d (dL [(h : Int), (w : Int)])), none], [], dr⟩
    show uLcV _ _ _ _ _ _ (retD q)
    unfold uLcV
    refine ⟨_, rfl, by show -(2 ^ 62) ≤ (2 : Int); decide, by show (2 : Int) < 2 ^ 62; decide, fun i acc o d => (i = 0 ∧ acc = [] ∧ o = [] ∧ d = dr) ∨ (i = 1 ∧ acc = [Vd.p (0 + A.length)] ∧ o = nnO [] A ∧ d = dr) ∨ (i = 2 ∧ acc = [Vd.p (0 + A.length), Vd.p ((nnO [] A).length + B.length)] ∧ o = nnO (nnO [] A) B ∧ d = dr), .inl ⟨rfl, rfl, rfl, rfl⟩, ?_, ?_⟩
    · rintro i d acc o d' hd (⟨rfl, rfl, rfl, rfl⟩ | ⟨rfl, rfl, rfl, rfl⟩ | ⟨rfl, rfl, rfl, rfl⟩)
      · obtain rfl : PyData.int (0 + ((0 : Nat) : Int)) = d := Option.some.inj hd
        refine ⟨_, rfl, _, rfl, rfl, h, w, _, rfl, h1, w1, h40, .inl ⟨rfl, ?_⟩⟩
        rw [hA]
        exact ⟨by rw [sizeLine_eq]; decide, .inr (.inl ⟨rfl, rfl, rfl, rfl⟩)⟩
      · obtain rfl : PyData.int (0 + ((1 : Nat) : Int)) = d := Option.some.inj hd
        refine ⟨_, rfl, _, rfl, rfl, h, w, _, rfl, h1, w1, h40, .inr ⟨rfl, ?_⟩⟩
        rw [hB]
        exact ⟨by rw [sizeLine_eq]; show 1 < 16777216; decide, .inr (.inr ⟨rfl, rfl, rfl, rfl⟩)⟩
      · cases hd
    · rintro acc o d' (⟨z, _⟩ | ⟨z, _⟩ | ⟨_, rfl, rfl, rfl⟩)
      · cases z
      · cases z
      · refine .inr (.inl (.inr ⟨[nnI 0 A.length, nnI (nnO [] A).length B.length], [A, B], ?_, k⟩))
        refine own3_end (.cons (own2_pre (nn_own [] A) (nnO_pre _ B)) (.cons (nn_own _ B) .nil)) (two_nd ?_)
        rw [nnO_len]
        show 0 + A.length < 0 + A.length + 1
        omega

end
end K51


set_option autoImplicit true
set_option Elab.async false
set_option linter.all false
set_option maxRecDepth 100000
set_option maxHeartbeats 8000000
namespace K51
open PySem PySem.Spec L2 Kt Dt
section
variable {P : Program} {w : Ww} {K : PySem.W.Frag} {mg : Str → Option Value} {base : Heap}
theorem nodup_get {l : List Nat} (nd : l.Nodup) {a b : Nat} {x : Nat} (ha : l[a]? = some x) (hb : l[b]? = some x) : a = b := by
  obtain ⟨a1, a2⟩ := List.getElem?_eq_some_iff.mp ha
  obtain ⟨b1, b2⟩ := List.getElem?_eq_some_iff.mp hb
  have key := List.pairwise_iff_getElem.mp (show List.Pairwise (fun (x y : Nat) => x ≠ y) l from nd)
  rcases Nat.lt_trichotomy a b with h | h | h
  · exact absurd (a2.trans b2.symm) (key a b a1 b1 h)
  · exact h
  · exact absurd (b2.trans a2.symm) (key b a b1 a1 h)
def spsnakes : Spd := fun xs dr q => ∃ h w : Nat, xs = [.d (.int (h : Int)), .d (.int (w : Int))] ∧ 1 ≤ h ∧ 1 ≤ w ∧ h * w ≤ 40 ∧ q (.nn ((bentF h w).map iL)) dr
abbrev ssnakes : Stmt := tp 21
theorem scsnakes : FnScope ["rows", "columns", "lines", "at", "line"] ["rows", "columns"] (defScope ssnakes) := ⟨rfl, rfl, rfl, by decide +kernel, rfl, by decide +kernel, by decide +kernel⟩
theorem oksnakes {f : Addr} {fd : FuncData} (F : Fun K "snakes" "snakes" ssnakes f fd) (N : Nb mg)
    (haxes : Has P w K mg base "axes" 5 ["lengths"] spaxes)
    (hcheck_table : Has P w K mg base "check_table" 4 ["rows", "columns", "most"] spcheck_table)
    {tMOST_PLACES : Tok} (cMOST_PLACES : mg "MOST_PLACES" = some (.int 40 tMOST_PLACES)) :
    FnD P w K mg base 6 f fd ["rows", "columns"] spsnakes := by
  refine fnD_of F scsnakes (fun xs dr q h => ?_) (fun cdv A below s H hr gu => ⟨_, _, 
      (pss_cons (ps_expr (pe_callH hcheck_table (hr.mono (by decide)) gu (by rfl) (pa_cons (pv 0) (pa_cons (pv 1) (pa_cons (pe_glob (v := .int 40) (by rfl) cMOST_PLACES ⟨_, rfl⟩) pa_nil)))))
        (pss_cons (ps_set (i := 2) scsnakes.nd rfl (.inl rfl) (pe_ix ix_seq (pe_callH haxes (hr.mono (by decide)) gu (by rfl) (pa_cons (pe_lst (pa_cons (pv 0) (pa_cons (pv 1) pa_nil))) pa_nil)) pe_int (fun _ _ => rfl)))
        (pss_one (ps_ret (pe_lc (own := [("at", 3), ("line", 4)]) (g := gTup K 2 (gCons (gName 3) (gCons (gName 4) gNil))) (tt := tYes)  rfl scsnakes.nd (pi_enum (by rfl) N.enum (pa_cons (pv 2) pa_nil)) (blkOk_by (N := ["rows", "columns", "lines", "at", "line"]) (sc := defScope ssnakes) (by decide +kernel)) (fun _ _ _ _ _ => pg_tup (n := 2) rfl (pgs_cons (pg_name (i := 3) scsnakes.nd rfl (Or.inl rfl)) (pgs_cons (pg_name (i := 4) scsnakes.nd rfl (Or.inl rfl)) pgs_nil))) (fun _ _ _ _ _ => pts_nil) (fun _ _ _ _ _ => (pe_ifExp (pt_cmpR (op_eqU hr.units) (pe_op op_mod (pv 3) pe_int) pe_int (by first | rfl | exact nomark _)) (pe_revL (pv 4)) (pv 4)))))))), 
      (abs_seq (abs_drop (ab_call false (aba_cons (ab_var 0) (aba_cons (ab_var 1) (aba_cons (ab_int _) aba_nil)))))
        (abs_seq (abs_asg (ab_op abr_ix (ab_call true (aba_cons (ab_lstP false (abp_cons (ab_var 0) (abp_cons (ab_var 1) abp_nil))) aba_nil)) (ab_int _)) (abg_name 2))
        (abs_ret (ab_lcE 2 (abg_name 3) (abg_name 4) (tgok_tup (tgsok_cons tgok_name mono_name (tgsok_cons tgok_name mono_name tgsok_nil))) abt_yes (ab_if (abt_test (ab_op abr_eq (ab_op abr_mod (ab_var 3) (ab_int _)) (ab_int _))) (ab_rev true (ab_var 4)) (ab_var 4)))))), fun xs dr q h => ?_⟩)
  · obtain ⟨h, w, rfl, h1, w1, h40, k⟩ := h
    rfl
  · obtain ⟨h, w, rfl, h1, w1, h40, k⟩ := h
    have sz : sizeLine = 16777216 := sizeLine_eq
    have le := le_of_mul h1 w1 h40
    refine ⟨_, rfl, _, rfl, rfl, h, w, 40, rfl, h1, w1, h40, Nat.le_refl _, ?_⟩
    refine ⟨_, rfl, _, rfl, rfl, h, w, rfl, h1, w1, h40, fun o' j I pre own => ?_⟩
    obtain ⟨top, fam, nd, low⟩ := own
    match I, fam with
    | [p1, p2], .cons f1 (.cons f2 .nil) =>
    have top' : o'[j]? = some (some (.lst [Vd.p p1.1, Vd.p p2.1])) := top
    refine ⟨_, _, top', rfl, ?_⟩
    show sRet _ (endD q) ⟨[some (.d (.int (h : Int))), some (.d (.int (w : Int))), some (.p p2.1), none, none], o', dr⟩
    show uLcE 2 _ _ _ _ _ _ (retD q)
    unfold uLcE
    obtain ⟨f2t, f2p⟩ := f2
    have nd2 : (p2.1 :: p2.2).Nodup := by
      have e : flat2 [p1, p2] = (p1.1 :: p1.2) ++ (p2.1 :: p2.2) := by
        unfold flat2
        rw [List.flatMap_cons, List.flatMap_cons, List.flatMap_nil, List.append_nil]
      rw [e] at nd
      exact (List.nodup_append.mp (List.nodup_cons.mp nd).2).2.1
    have len2 : p2.2.length = h := by
      rw [f2p.length, List.length_map]
      unfold linesF
      rw [List.length_map, List.length_range]
    have at2 : ∀ (k i : Nat), p2.2[k]? = some i → k < h ∧ o'[i]? = some (some (.lst ((iL (lineF w k)).map Vd.d))) ∧ i ≠ p2.1 ∧ i < o'.length := fun k i hk => by
      have kl : k < h := by
        have := (List.getElem?_eq_some_iff.mp hk).1
        omega
      obtain ⟨y, hy, r⟩ := paired_at f2p hk
      unfold linesF at hy
      rw [List.getElem?_map, List.getElem?_map, List.getElem?_range kl] at hy
      obtain rfl := Option.some.inj hy
      exact ⟨kl, r, fun z => (List.nodup_cons.mp nd2).1 (z ▸ List.mem_of_getElem? hk), (List.getElem?_eq_some_iff.mp r).1⟩
    refine ⟨p2.1, _, rfl, f2t, fun k acc o d => d = dr ∧ k ≤ h ∧ ∃ ids : List Nat, acc = ids.map Vd.p ∧ ids.length = k ∧ ids.Nodup ∧ (∀ i ∈ ids, i ∈ p2.2.take k ∨ o'.length ≤ i) ∧ (∀ i ∈ ids, i < o.length) ∧ Paired (fun i ds => o[i]? = some (some (.lst (ds.map Vd.d)))) ids (((bentF h w).map iL).take k) ∧ o'.set p2.1 none <+: o, ⟨rfl, Nat.zero_le _, [], rfl, rfl, List.nodup_nil, fun i hi => (by cases hi), fun i hi => (by cases hi), by rw [List.take_zero]; exact .nil, List.prefix_refl _⟩, ?_, ?_⟩
    · rintro m x acc o d hx ⟨rfl, hk, ids, rfl, il, ind, imem, ilt, ip, opre⟩
      rw [List.getElem?_map] at hx
      obtain ⟨i, hi, rfl⟩ := Option.map_eq_some_iff.mp hx
      obtain ⟨kh, oi, ne, lt⟩ := at2 m i hi
      have ol : o'.length ≤ o.length := by
        have := opre.length_le
        rw [List.length_set] at this
        exact this
      have oi' : o[i]? = some (some (.lst ((iL (lineF w m)).map Vd.d))) := by
        rw [pre_at opre (by rw [List.length_set]; exact lt), List.getElem?_set_ne (fun z => ne z.symm)]
        exact oi
      have bk : ((bentF h w).map iL)[m]? = some (iL (bentL w m)) := by
        unfold bentF
        rw [List.getElem?_map, List.getElem?_map, List.getElem?_range kh]
        rfl
      have tk : ((bentF h w).map iL).take (m + 1) = ((bentF h w).map iL).take m ++ [iL (bentL w m)] := by
        rw [List.take_add_one, bk]
        rfl
      have tk2 : p2.2.take (m + 1) = p2.2.take m ++ [i] := by
        rw [List.take_add_one, hi]
        rfl
      refine ⟨_, rfl, by show (0 : Int) < 2; decide, ?_⟩
      show if (false ^^ decide (((m : Nat) : Int) % 2 = 1)) = true then _ else _
      rw [Bool.false_xor]
      refine ite2 (fun z => ?_) (fun z => ?_)
      · have z := of_decide_eq_true z
        have odd : m % 2 = 1 := by omega
        refine ⟨_, rfl, _, _, oi', rfl, ?_⟩
        refine ⟨by rw [List.length_map]; omega, rfl, kh, ids ++ [o.length], by rw [List.map_append]; rfl, by rw [List.length_append, il]; rfl, ?_, ?_, ?_, ?_, ?_⟩
        · refine List.nodup_append.mpr ⟨ind, List.pairwise_singleton _ _, fun x hx y hy e => ?_⟩
          rw [List.mem_singleton.mp hy] at e
          have := ilt x hx
          omega
        · intro x hx
          rw [tk2]
          rcases List.mem_append.mp hx with q | q
          · exact (imem x q).imp (List.mem_append_left _) id
          · rw [List.mem_singleton.mp q]
            exact .inr ol
        · intro x hx
          show x < (o ++ [some (Ob.lst ((iL (lineF w m)).reverse.map Vd.d))]).length
          rw [List.length_append]
          rcases List.mem_append.mp hx with q | q
          · have := ilt x q
            show x < o.length + 1
            omega
          · rw [List.mem_singleton.mp q]
            exact Nat.lt_succ_self _
        · rw [tk]
          refine paired_snoc2 ?_ ?_
          · show (o ++ [some (Ob.lst ((iL (lineF w m)).reverse.map Vd.d))])[o.length]? = _
            rw [List.getElem?_concat_length]
            unfold bentL iL
            rw [if_pos odd]
            show some (some (Ob.lst (((lineF w m).map PyData.int).reverse.map Vd.d))) = some (some (Ob.lst (((lineF w m).reverse.map PyData.int).map Vd.d)))
            rw [List.map_reverse (f := PyData.int)]
          · refine paired_of_get ip.length fun a x y hx hy => ?_
            have r := paired_get' ip hx hy
            show (o ++ [some (Ob.lst ((iL (lineF w m)).reverse.map Vd.d))])[x]? = _
            rw [List.getElem?_append_left (ilt x (List.mem_of_getElem? hx))]
            exact r
        · exact opre.trans (List.prefix_append _ _)
      · have z : ¬ ((m : Nat) : Int) % 2 = 1 := fun y => z (decide_eq_true y)
        have even : ¬ m % 2 = 1 := by omega
        refine ⟨_, rfl, ?_⟩
        refine ⟨by rw [List.length_map]; omega, rfl, kh, ids ++ [i], by rw [List.map_append]; rfl, by rw [List.length_append, il]; rfl, ?_, ?_, ?_, ?_, opre⟩
        · refine List.nodup_append.mpr ⟨ind, List.pairwise_singleton _ _, fun x hxx y hy e => ?_⟩
          rw [List.mem_singleton.mp hy] at e
          rw [e] at hxx
          rcases imem i hxx with q | q
          · obtain ⟨a, ha⟩ := List.getElem?_of_mem q
            have al : a < m := by
              have := (List.getElem?_eq_some_iff.mp ha).1
              rw [List.length_take] at this
              omega
            rw [List.getElem?_take_of_lt al] at ha
            have := nodup_get (List.nodup_cons.mp nd2).2 ha hi
            omega
          · omega
        · intro x hx
          rw [tk2]
          rcases List.mem_append.mp hx with q | q
          · exact (imem x q).imp (List.mem_append_left _) id
          · exact .inl (List.mem_append_right _ q)
        · intro x hx
          rcases List.mem_append.mp hx with q | q
          · exact ilt x q
          · rw [List.mem_singleton.mp q]
            show i < o.length
            omega
        · rw [tk]
          refine paired_snoc2 ?_ ip
          show o[i]? = _
          rw [oi']
          unfold bentL
          rw [if_neg even]
    · rintro acc o d ⟨rfl, _, ids, rfl, il, ind, imem, ilt, ip, opre⟩
      rw [List.length_map, len2] at il imem ip
      have lb : ((bentF h w).map iL).length = h := by
        unfold bentF
        rw [List.length_map, List.length_map, List.length_range]
      rw [List.take_of_length_le (by omega)] at ip
      refine .inr (.inr ⟨ids, _, List.getElem?_concat_length, ind, ?_, k⟩)
      refine paired_of_get ip.length fun a x y hx hy => ?_
      have r := paired_get' ip hx hy
      show (o ++ [some (Ob.lst (ids.map Vd.p))])[x]? = _
      rw [List.getElem?_append_left (ilt x (List.mem_of_getElem? hx))]
      exact r
def spsnake : Spd := fun xs dr q => ∃ h w : Nat, xs = [.d (.int (h : Int)), .d (.int (w : Int))] ∧ 1 ≤ h ∧ 1 ≤ w ∧ h * w ≤ 40 ∧ q (.nl (iL (bentF h w).flatten)) dr
abbrev ssnake : Stmt := tp 22
theorem scsnake : FnScope ["rows", "columns", "line", "place"] ["rows", "columns"] (defScope ssnake) := ⟨rfl, rfl, rfl, by decide +kernel, rfl, by decide +kernel, by decide +kernel⟩
theorem oksnake {f : Addr} {fd : FuncData} (F : Fun K "snake" "snake" ssnake f fd) (N : Nb mg)
    (hsnakes : Has P w K mg base "snakes" 6 ["rows", "columns"] spsnakes) :
    FnD P w K mg base 7 f fd ["rows", "columns"] spsnake := by
  refine fnD_of F scsnake (fun xs dr q h => ?_) (fun cdv A below s H hr gu => ⟨_, _, 
      (pss_one (ps_ret (pe_lc2 (own := [("line", 2), ("place", 3)]) (vs1 := [3]) (g := gName 2) (g1 := gName 3)  rfl scsnake.nd (pi_list (pe_callH hsnakes (hr.mono (by decide)) gu (by rfl) (pa_cons (pv 0) (pa_cons (pv 1) pa_nil)))) (blkOk_by (N := ["rows", "columns", "line", "place"]) (sc := defScope ssnake) (by decide +kernel)) (by decide) (fun _ _ _ _ _ => pg_name (i := 2) scsnake.nd rfl (Or.inl rfl)) (fun _ _ _ _ _ => pts_nil) (fun _ _ _ _ _ => (pi_list (pv 2))) (fun _ _ _ _ _ => pg_name (i := 3) scsnake.nd rfl (Or.inl rfl)) (fun _ _ _ _ _ => pts_nil) (fun _ _ _ _ _ => (pv 3))))), 
      (abs_ret (ab_lc2 true (abi_list (ab_call false (aba_cons (ab_var 0) (aba_cons (ab_var 1) aba_nil)))) (abg_name 2) tgok_name abt_yes (abi_list (ab_var 2)) (abg_name 3) tgok_name abt_yes (ab_var 3))), fun xs dr q h => ?_⟩)
  · obtain ⟨h, w, rfl, h1, w1, h40, k⟩ := h
    rfl
  · obtain ⟨h, w, rfl, h1, w1, h40, k⟩ := h
    have sz : sizeLine = 16777216 := sizeLine_eq
    have le := le_of_mul h1 w1 h40
    have bl : ∀ i, (((bentF h w).take i).flatten).length ≤ 40 := fun i => by
      have v := bent_valid h w
      have := nodup_le (h * w) (bentF h w).flatten v.nd fun x hx => v.rg x hx
      have e : (bentF h w).flatten = ((bentF h w).take i).flatten ++ ((bentF h w).drop i).flatten := by rw [← List.flatten_append, List.take_append_drop]
      rw [e, List.length_append] at this
      omega
    show sRet _ (endD q) _
    unfold sRet uLc2
    refine ⟨_, rfl, _, rfl, rfl, h, w, rfl, h1, w1, h40, ?_⟩
    refine ⟨fun i acc o d => acc = iL ((bentF h w).take i).flatten ∧ o = [] ∧ d = dr, ⟨rfl, rfl, rfl⟩, fun i d acc o dr2 hd hI => ?_, fun acc o dr2 hI => ?_⟩
    · obtain ⟨rfl, rfl, rfl⟩ := hI
      have hd : (((bentF h w).map iL).map PyData.list)[i]? = some d := hd
      rw [List.getElem?_map, List.getElem?_map] at hd
      obtain ⟨y, hy, rfl⟩ := Option.map_eq_some_iff.mp hd
      obtain ⟨c, hc, rfl⟩ := Option.map_eq_some_iff.mp hy
      have tk : ((bentF h w).take (i + 1)).flatten = ((bentF h w).take i).flatten ++ c := by
        rw [List.take_add_one, hc, List.flatten_append]
        show _ ++ [c].flatten = _
        rw [List.flatten_cons, List.flatten_nil, List.append_nil]
      have b1 := bl (i + 1)
      rw [tk, List.length_append] at b1
      refine ⟨_, rfl, fun j acc1 o d => acc1 = iL (((bentF h w).take i).flatten ++ c.take j) ∧ o = [] ∧ d = dr2, ⟨by rw [List.take_zero, List.append_nil], rfl, rfl⟩, fun j d2 acc1 o d3 hd2 hI1 => ?_, fun acc1 o d3 hI1 => ?_⟩
      · obtain ⟨x, hx, rfl⟩ := map_get hd2
        obtain ⟨rfl, rfl, rfl⟩ := hI1
        refine ⟨_, rfl, ?_, _, rfl, ?_, rfl, rfl⟩
        · rw [iL_len, List.length_append, List.length_take]
          omega
        · rw [List.take_add_one, hx]
          unfold iL
          rw [← List.append_assoc, List.map_append (l₁ := _ ++ _)]
          rfl
      · obtain ⟨rfl, rfl, rfl⟩ := hI1
        refine ⟨?_, rfl, rfl⟩
        rw [tk]
        have e : c.take (iL c).length = c := by rw [iL_len, List.take_length]
        show iL (_ ++ c.take (iL c).length) = _
        rw [e]
    · obtain ⟨rfl, rfl, rfl⟩ := hI
      have e : (bentF h w).take (((bentF h w).map iL).map PyData.list).length = bentF h w := by rw [List.length_map, List.length_map, List.take_length]
      refine .inl ⟨_, _, rfl, rfl, ?_⟩
      show q (.nl (iL ((bentF h w).take (((bentF h w).map iL).map PyData.list).length).flatten)) _
      rw [e]
      exact k
theorem halvF_le : ∀ f h, halvF f h ≤ f
  | 0, _ => Nat.le_refl _
  | f + 1, h => by
    show (if 1 < h then halvF f ((h + 1) / 2) + 1 else 0) ≤ _
    have := halvF_le f ((h + 1) / 2)
    split <;> omega
def dueF (h w : Nat) : List (List (List Int)) := (List.replicate (halvings h) [bentF h w, downF h w]).flatten ++ [bentF h w]
def spshear : Spd := fun xs dr q => ∃ h w : Nat, xs = [.d (.int (h : Int)), .d (.int (w : Int))] ∧ 1 ≤ h ∧ 1 ≤ w ∧ h * w ≤ 40 ∧ q (.n3 ((dueF h w).map fun f => f.map iL)) dr
abbrev sshear : Stmt := tp 23
theorem scshear : FnScope ["rows", "columns", "row", "_"] ["rows", "columns"] (defScope sshear) := ⟨rfl, rfl, rfl, by decide +kernel, rfl, by decide +kernel, by decide +kernel⟩
theorem okshear {f : Addr} {fd : FuncData} (F : Fun K "shear" "shear" sshear f fd) (N : Nb mg)
    (haxes : Has P w K mg base "axes" 5 ["lengths"] spaxes)
    (hcheck_table : Has P w K mg base "check_table" 4 ["rows", "columns", "most"] spcheck_table)
    (henough_rounds : Has P w K mg base "enough_rounds" 1 ["rows"] spenough_rounds)
    (hsnakes : Has P w K mg base "snakes" 6 ["rows", "columns"] spsnakes)
    {tMOST_PLACES : Tok} (cMOST_PLACES : mg "MOST_PLACES" = some (.int 40 tMOST_PLACES)) :
    FnD P w K mg base 7 f fd ["rows", "columns"] spshear := by
  refine fnD_of F scshear (fun xs dr q h => ?_) (fun cdv A below s H hr gu => ⟨_, _, 
      (pss_cons (ps_expr (pe_callH hcheck_table (hr.mono (by decide)) gu (by rfl) (pa_cons (pv 0) (pa_cons (pv 1) (pa_cons (pe_glob (v := .int 40) (by rfl) cMOST_PLACES ⟨_, rfl⟩) pa_nil)))))
        (pss_cons (ps_set (i := 2) scshear.nd rfl (.inl rfl) (pe_lst pa_nil))
        (pss_cons (ps_for PassesOwn.never rfl (pi_range1 (by rfl) N.range (pa_cons (pe_callH henough_rounds (hr.mono (by decide)) gu (by rfl) (pa_cons (pv 0) pa_nil)) pa_nil)) (pg_name (i := 3) scshear.nd rfl (.inl rfl))
          (pss_cons (ps_expr (pe_bm PySem.F.plainAttrs_list PySem.F.slot_list_append PySem.F.type_list_append mt_append (pv 2) (pa_cons (pe_callH hsnakes (hr.mono (by decide)) gu (by rfl) (pa_cons (pv 0) (pa_cons (pv 1) pa_nil))) pa_nil)))
          (pss_one (ps_expr (pe_bm PySem.F.plainAttrs_list PySem.F.slot_list_append PySem.F.type_list_append mt_append (pv 2) (pa_cons (pe_ix ix_seq (pe_callH haxes (hr.mono (by decide)) gu (by rfl) (pa_cons (pe_lst (pa_cons (pv 0) (pa_cons (pv 1) pa_nil))) pa_nil)) pe_int (fun _ _ => rfl)) pa_nil))))))
        (pss_cons (ps_expr (pe_bm PySem.F.plainAttrs_list PySem.F.slot_list_append PySem.F.type_list_append mt_append (pv 2) (pa_cons (pe_callH hsnakes (hr.mono (by decide)) gu (by rfl) (pa_cons (pv 0) (pa_cons (pv 1) pa_nil))) pa_nil)))
        (pss_one (ps_ret (pv 2))))))), 
      (abs_seq (abs_drop (ab_call false (aba_cons (ab_var 0) (aba_cons (ab_var 1) (aba_cons (ab_int _) aba_nil)))))
        (abs_seq (abs_asg (ab_lstP true abp_nil) (abg_name 2))
        (abs_seq (abs_for (abi_rng1 (aba_cons (ab_call false (aba_cons (ab_var 0) aba_nil)) aba_nil)) (abg_name 3)
          (abs_seq (abs_drop (ab_bm abm_append (ab_var 2) (aba_cons (ab_call true (aba_cons (ab_var 0) (aba_cons (ab_var 1) aba_nil))) aba_nil)))
          (abs_drop (ab_bm abm_append (ab_var 2) (aba_cons (ab_op abr_ix (ab_call true (aba_cons (ab_lstP false (abp_cons (ab_var 0) (abp_cons (ab_var 1) abp_nil))) aba_nil)) (ab_int _)) aba_nil)))))
        (abs_seq (abs_drop (ab_bm abm_append (ab_var 2) (aba_cons (ab_call true (aba_cons (ab_var 0) (aba_cons (ab_var 1) aba_nil))) aba_nil)))
        (abs_ret (ab_var 2)))))), fun xs dr q h => ?_⟩)
  · obtain ⟨h, w, rfl, h1, w1, h40, k⟩ := h
    rfl
  · obtain ⟨h, w, rfl, h1, w1, h40, k⟩ := h
    have sz : sizeLine = 16777216 := sizeLine_eq
    have le := le_of_mul h1 w1 h40
    have hl : halvings h ≤ 40 := Nat.le_trans (halvF_le h h) le.1
    refine ⟨_, rfl, _, rfl, rfl, h, w, 40, rfl, h1, w1, h40, Nat.le_refl _, ?_⟩
    generalize hA : (bentF h w).map iL = A
    generalize hD : (downF h w).map iL = D
    let Xs : Nat → List (List (List PyData)) := fun i => (List.replicate i [A, D]).flatten
    have Xl : ∀ i, (Xs i).length = 2 * i := fun i => by
      show (List.replicate i [A, D]).flatten.length = _
      rw [List.length_flatten, List.map_replicate, List.sum_replicate_nat]
      show i * 2 = 2 * i
      omega
    refine sFor_inv (fun i : Nat => .int (0 + (i : Int))) (List.range (halvings h)) ⟨[some (.d (.int (h : Int))), some (.d (.int (w : Int))), some (.p 0), none], [some (.lst [])], dr⟩ (fun i s => i ≤ halvings h ∧ ∃ o I, s = ⟨[some (.d (.int (h : Int))), some (.d (.int (w : Int))), some (.p 0), none], o, dr⟩ ∧ Own3 0 o 0 I (Xs i)) (fun R h' => ⟨_, rfl, rfl, h, rfl, h1, le.1, by omega, by omega, ?_⟩) ⟨Nat.zero_le _, [some (.lst [])], [], rfl, ⟨rfl, .nil, by decide, fun i _ => Nat.zero_le i⟩⟩ (fun i x s hx hs => ?_) (fun s hs => ?_)
    · show R (intsR 0 ((halvings h : Nat) : Int).toNat) _
      rw [Int.toNat_natCast]
      exact h'
    · obtain ⟨ih, o, I, rfl, own⟩ := hs
      have il : i < halvings h := by
        have := (List.getElem?_eq_some_iff.mp hx).1
        rw [List.length_range] at this
        exact this
      have lI : I.length = 2 * i := by rw [own.fam.length, Xl]
      have z0 : 0 < o.length := (List.getElem?_eq_some_iff.mp own.top).1
      refine ⟨_, rfl, ⟨0, _, rfl, own.top⟩, _, rfl, _, rfl, rfl, h, w, rfl, h1, w1, h40, ?_⟩
      rw [hA]
      have t1 : (nnO o A)[0]? = some (some (.lst (I.map fun p => Vd.p p.1))) := (pre_at (nnO_pre o A) z0).trans own.top
      refine ⟨_, t1, by rw [List.length_map]; omega, ?_⟩
      have own1 := own3_more own (nnO_pre o A) (nn_own o A) (nnI_nd _ _) (fun i hi => (nnI_mem hi).1) (Nat.zero_le _)
      have z1 := (List.getElem?_eq_some_iff.mp own1.top).1
      refine ⟨_, rfl, ⟨0, _, rfl, own1.top⟩, _, rfl, _, rfl, rfl, h, w, rfl, h1, w1, h40, fun o' j J pre own2 => ?_⟩
      obtain ⟨top, fam, nd, low⟩ := own2
      rw [hD] at fam
      match J, fam with
      | [p1, p2], .cons f1 (.cons f2 .nil) =>
      have top' : o'[j]? = some (some (.lst [Vd.p p1.1, Vd.p p2.1])) := top
      refine ⟨_, _, top', rfl, ?_⟩
      have t2 : o'[0]? = some (some (.lst ((I ++ [nnI o.length A.length]).map fun p => Vd.p p.1))) := (pre_at pre z1).trans own1.top
      refine ⟨_, t2, by rw [List.length_map, List.length_append]; show I.length + 1 < _; omega, ?_⟩
      have e : flat2 [p1, p2] = (p1.1 :: p1.2) ++ (p2.1 :: p2.2) := by
        unfold flat2
        rw [List.flatMap_cons, List.flatMap_cons, List.flatMap_nil, List.append_nil]
      rw [e] at nd low
      have own3 := own3_more own1 pre f1 (List.nodup_append.mp (List.nodup_cons.mp nd).2).1 (fun i hi => low i (List.mem_cons_of_mem _ (List.mem_append_left _ hi))) (Nat.zero_le _)
      show ∃ s4, Wk ⟨[some (.d (.int (h : Int))), some (.d (.int (w : Int))), some (.p 0), some (.d (.int (0 + (x : Int))))], o'.set 0 (some (.lst ((I ++ [nnI o.length A.length]).map (fun p => Vd.p p.1) ++ [.p p1.1]))), dr⟩ s4 ∧ _
      refine ⟨⟨[some (.d (.int (h : Int))), some (.d (.int (w : Int))), some (.p 0), none], o'.set 0 (some (.lst ((I ++ [nnI o.length A.length]).map (fun p => Vd.p p.1) ++ [.p p1.1]))), dr⟩, wk_r, il, _, I ++ [nnI o.length A.length] ++ [p1], rfl, ?_⟩
      have eX : Xs (i + 1) = Xs i ++ [A] ++ [D] := by
        show (List.replicate (i + 1) [A, D]).flatten = (List.replicate i [A, D]).flatten ++ [A] ++ [D]
        rw [List.replicate_succ', List.flatten_append, List.append_assoc]
        rfl
      rw [eX]
      exact own3
    · obtain ⟨ih, o, I, rfl, own⟩ := hs
      rw [List.length_range] at own
      have lI : I.length = 2 * halvings h := by rw [own.fam.length, Xl]
      have z0 : 0 < o.length := (List.getElem?_eq_some_iff.mp own.top).1
      refine ⟨_, rfl, ⟨0, _, rfl, own.top⟩, _, rfl, _, rfl, rfl, h, w, rfl, h1, w1, h40, ?_⟩
      rw [hA]
      have t1 : (nnO o A)[0]? = some (some (.lst (I.map fun p => Vd.p p.1))) := (pre_at (nnO_pre o A) z0).trans own.top
      refine ⟨_, t1, by rw [List.length_map]; omega, ?_⟩
      have own1 := own3_more own (nnO_pre o A) (nn_own o A) (nnI_nd _ _) (fun i hi => (nnI_mem hi).1) (Nat.zero_le _)
      refine ⟨_, rfl, .inr (.inl (.inr ⟨_, _, own1, ?_⟩))⟩
      have eX : Xs (halvings h) ++ [A] = (dueF h w).map fun f => f.map iL := by
        show (List.replicate (halvings h) [A, D]).flatten ++ [A] = _
        unfold dueF
        rw [List.map_append, List.map_flatten, List.map_replicate]
        show _ = (List.replicate (halvings h) [(bentF h w).map iL, (downF h w).map iL]).flatten ++ [(bentF h w).map iL]
        rw [hA, hD]
      rw [eX]
      exact k

end
end K51


set_option autoImplicit true
set_option Elab.async false
set_option linter.all false
set_option maxRecDepth 100000
set_option maxHeartbeats 4000000
/-! Rounds of fillings told by numbers. -/
namespace K51
open PySem L2 Kt PyProof.Rows
theorem halv_fin : ∀ h : Fin 41, 1 ≤ h.val → halves h.val (halvings h.val) = 1 ∧ (1 ≤ halvings h.val ∨ h.val = 1) := by decide +kernel
theorem halv_ok {h : Nat} (h1 : 1 ≤ h) (h40 : h ≤ 40) : halves h (halvings h) = 1 ∧ (1 ≤ halvings h ∨ h = 1) := halv_fin ⟨h, by omega⟩ h1
/-- after so many rounds every filling by nought and one is put in snake order by the snakes -/
def Tk (h w k : Nat) : Prop := ∀ b : List Int, b.length = h * w → bits b → InSnake h w (sortAlong (rounds h w b k) (bentF h w))
theorem Tk_end {h w : Nat} (h1 : 1 ≤ h) (w1 : 1 ≤ w) (h40 : h ≤ 40) : Tk h w (halvings h) := fun b hb bb => shear01 hb bb w1 (halv_ok h1 h40).1 (halv_ok h1 h40).2
section
variable {h w : Nat}
def snk (h w : Nat) : List Int := (bentF h w).flatten
theorem snk_valid : Valid (h * w) [snk h w] := by
  have v := bent_valid h w
  have e : [snk h w].flatten = (bentF h w).flatten := by rw [List.flatten_cons, List.flatten_nil, List.append_nil]; rfl
  exact ⟨by rw [e]; exact v.nd, fun x hx => v.rg x (by rw [← e]; exact hx)⟩
theorem snk_all {x : Int} (x1 : 1 ≤ x) (x2 : x ≤ ((h * w : Nat) : Int)) : x ∈ snk h w := by
  have w0 : 0 < w := Nat.pos_of_ne_zero fun z => by subst z; rw [Nat.mul_zero] at x2; omega
  have lt : (x - 1).toNat < h * w := by omega
  refine List.mem_flatten.mpr ⟨bentL w ((x - 1).toNat / w), ?_, bentL_mem.mpr ⟨(x - 1).toNat % w, Nat.mod_lt _ w0, ?_⟩⟩
  · unfold bentF
    exact List.mem_map.mpr ⟨_, List.mem_range.mpr (Nat.div_lt_of_lt_mul (by rw [Nat.mul_comm]; exact lt)), rfl⟩
  · unfold place
    have := Nat.div_add_mod (x - 1).toNat w
    rw [Nat.mul_comm] at this
    omega
theorem in_snake_iff {b : List Int} (hb : b.length = h * w) : sortAlong b [snk h w] = sortAlong b (bentF h w) ↔ InSnake h w (sortAlong b (bentF h w)) := by
  have vs : Valid b.length [snk h w] := by rw [hb]; exact snk_valid
  have vb : Valid b.length (bentF h w) := by rw [hb]; exact bent_valid h w
  have nd : (snk h w).Nodup := (bent_valid h w).nd
  have rg : ∀ x ∈ snk h w, 1 ≤ x ∧ x ≤ (b.length : Int) := fun x hx => by rw [hb]; exact (bent_valid h w).rg x hx
  have up : (snk h w).Pairwise fun x y => at1 (sortAlong b [snk h w]) x ≤ at1 (sortAlong b [snk h w]) y := isSorted_iff.mp (sorted_after vs) _ (List.mem_singleton.mpr rfl)
  constructor
  · intro e
    rw [← e]
    exact up
  · intro s
    have p1 := set_perm vs (snk h w) nd rg fun c hc => .inl (by rw [List.mem_singleton.mp hc]; exact fun x hx => hx)
    have p2 := set_perm vb (snk h w) nd rg fun c hc => .inl fun x hx => List.mem_flatten.mpr ⟨c, hc, hx⟩
    have e1 := srt_of p1 (List.pairwise_map.mpr up)
    have e2 := srt_of p2 (List.pairwise_map.mpr s)
    have e : (snk h w).map (at1 (sortAlong b [snk h w])) = (snk h w).map (at1 (sortAlong b (bentF h w))) := e1.trans e2.symm
    have l1 : (sortAlong b [snk h w]).length = h * w := by rw [sortAlong_len, hb]
    have l2 : (sortAlong b (bentF h w)).length = h * w := by rw [sortAlong_len, hb]
    rw [← places_map l1, ← places_map l2]
    refine List.map_congr_left fun x hx => ?_
    have r := placesTo_mem.mp hx
    have hx' := snk_all (h := h) (w := w) r.1 r.2
    obtain ⟨i, hi⟩ := List.getElem?_of_mem hx'
    have z := congrArg (fun l => l[i]?) e
    simp only [List.getElem?_map, hi] at z
    exact Option.some.inj z
/-! ### by numbers -/
def rndN (h w m : Nat) : Nat := famN (h * w) (famN (h * w) m (bentF h w)) (downF h w)
def itN (h w : Nat) : Nat → Nat → Nat
  | 0, m => m
  | k + 1, m => rndN h w (itN h w k m)
theorem rndN_ok {m : Nat} (hm : m < 2 ^ (h * w)) : rndN h w m < 2 ^ (h * w) ∧ fil (h * w) (rndN h w m) = roundF h w (fil (h * w) m) := by
  obtain ⟨a, b⟩ := famN_ok (bent_valid h w) hm
  obtain ⟨c, d⟩ := famN_ok (down_valid h w) a
  exact ⟨c, by unfold rndN roundF; rw [d, b]⟩
theorem itN_ok {m : Nat} (hm : m < 2 ^ (h * w)) : ∀ k, itN h w k m < 2 ^ (h * w) ∧ fil (h * w) (itN h w k m) = rounds h w (fil (h * w) m) k
  | 0 => ⟨hm, rfl⟩
  | k + 1 => by
    obtain ⟨a, b⟩ := itN_ok hm k
    obtain ⟨c, d⟩ := rndN_ok a
    exact ⟨c, by show fil _ (rndN h w (itN h w k m)) = roundF h w (rounds h w (fil (h * w) m) k); rw [d, b]⟩
def okN (h w m : Nat) : Prop := famN (h * w) m [snk h w] = famN (h * w) m (bentF h w)
theorem okN_iff {m : Nat} (hm : m < 2 ^ (h * w)) : okN h w m ↔ InSnake h w (sortAlong (fil (h * w) m) (bentF h w)) := by
  obtain ⟨a, b⟩ := famN_ok (snk_valid (h := h) (w := w)) hm
  obtain ⟨c, d⟩ := famN_ok (bent_valid h w) hm
  rw [← in_snake_iff (fil_len _ _), ← b, ← d]
  exact ⟨fun e => congrArg _ e, fun e => fil_inj a c e⟩
theorem Tk_iff (k : Nat) : Tk h w k ↔ ∀ m, m < 2 ^ (h * w) → okN h w (itN h w k m) := by
  constructor
  · intro t m hm
    obtain ⟨a, b⟩ := itN_ok hm k
    rw [okN_iff a, b]
    exact t _ (fil_len _ _) (fil_bits _ _)
  · intro t b hb bb
    obtain ⟨m, hm, rfl⟩ := fil_onto hb bb
    obtain ⟨a, e⟩ := itN_ok hm k
    have := (okN_iff a).mp (t m hm)
    rw [e] at this
    exact this
end
end K51


set_option autoImplicit true
set_option Elab.async false
set_option linter.all false
set_option maxRecDepth 100000
set_option maxHeartbeats 8000000
namespace K51
open PySem PySem.Spec L2 Kt Dt
section
variable {P : Program} {w : Ww} {K : PySem.W.Frag} {mg : Str → Option Value} {base : Heap}
theorem chain_le {n : Nat} {f : List (List Int)} (v : Valid n f) {c : List Int} (hc : c ∈ f) : c.length ≤ n := nodup_le n c (chain_nodup v.nd hc) fun x hx => v.rg x (flatten_mem hc hx)
theorem zip_range {n : Int} {c vs : List Int} (cr : ∀ x ∈ c, 1 ≤ x ∧ x ≤ n) : ∀ p ∈ c.zip vs, 1 ≤ p.1 ∧ p.1 ≤ n := fun p hp => cr p.1 (List.of_mem_zip (show (p.1, p.2) ∈ c.zip vs from hp)).1
theorem ixN_lt {n i : Nat} (h : i < n) : ixN n (i : Int) = some i := by
  unfold ixN
  rw [if_pos (by omega), if_pos (by omega), Int.toNat_natCast]
theorem set_iL (r : List Int) (k : Nat) (v : Int) : ((iL r).map Vd.d).set k (.d (.int v)) = (iL (r.set k v)).map Vd.d := by unfold iL; rw [List.map_set, List.map_set]
theorem famX (f : List (List Int)) : PyData.list ((f.map iL).map PyData.list) = dF f := by unfold dF; rw [List.map_map]; rfl
def int7 (s : Sd) : Nat := match s.r[7]? with
  | some (some (Vd.d (PyData.int a))) => a.toNat
  | _ => 0
def spfewest_rounds : Spd := fun xs dr q => ∃ h w k : Nat, xs = [.d (.int (h : Int)), .d (.int (w : Int))] ∧ 1 ≤ h ∧ 1 ≤ w ∧ h * w ≤ 10 ∧ Tk h w k ∧ (∀ j, j < k → ¬ Tk h w j) ∧ q (.d (.int (k : Int))) dr
abbrev sfewest_rounds : Stmt := tp 24
theorem scfewest_rounds : FnScope ["rows", "columns", "places", "by_snakes", "by_columns", "by_snake", "reached", "rounds", "number"] ["rows", "columns"] (defScope sfewest_rounds) := ⟨rfl, rfl, rfl, by decide +kernel, rfl, by decide +kernel, by decide +kernel⟩
theorem okfewest_rounds {f : Addr} {fd : FuncData} (F : Fun K "fewest_rounds" "fewest_rounds" sfewest_rounds f fd) (N : Nb mg)
    (hafter_family : Has P w K mg base "after_family" 3 ["places", "family"] spafter_family)
    (haxes : Has P w K mg base "axes" 5 ["lengths"] spaxes)
    (hcheck_table : Has P w K mg base "check_table" 4 ["rows", "columns", "most"] spcheck_table)
    (hsnake : Has P w K mg base "snake" 7 ["rows", "columns"] spsnake)
    (hsnakes : Has P w K mg base "snakes" 6 ["rows", "columns"] spsnakes)
    {tMOST_PLACES_OF_ROUNDS : Tok} (cMOST_PLACES_OF_ROUNDS : mg "MOST_PLACES_OF_ROUNDS" = some (.int 12 tMOST_PLACES_OF_ROUNDS)) :
    FnD P w K mg base 8 f fd ["rows", "columns"] spfewest_rounds := by
  refine fnD_of F scfewest_rounds (fun xs dr q h => ?_) (fun cdv A below s H hr gu => ⟨_, _, 
      (pss_cons (ps_expr (pe_callH hcheck_table (hr.mono (by decide)) gu (by rfl) (pa_cons (pv 0) (pa_cons (pv 1) (pa_cons (pe_glob (v := .int 12) (by rfl) cMOST_PLACES_OF_ROUNDS ⟨_, rfl⟩) pa_nil)))))
        (pss_cons (ps_set (i := 2) scfewest_rounds.nd rfl (.inl rfl) (pe_op op_mulU (pv 0) (pv 1)))
        (pss_cons (ps_set (i := 3) scfewest_rounds.nd rfl (.inr rfl) (pe_callH hafter_family (hr.mono (by decide)) gu (by rfl) (pa_cons (pv 2) (pa_cons (pe_callH hsnakes (hr.mono (by decide)) gu (by rfl) (pa_cons (pv 0) (pa_cons (pv 1) pa_nil))) pa_nil))))
        (pss_cons (ps_set (i := 4) scfewest_rounds.nd rfl (.inr rfl) (pe_callH hafter_family (hr.mono (by decide)) gu (by rfl) (pa_cons (pv 2) (pa_cons (pe_ix ix_seq (pe_callH haxes (hr.mono (by decide)) gu (by rfl) (pa_cons (pe_lst (pa_cons (pv 0) (pa_cons (pv 1) pa_nil))) pa_nil)) pe_int (fun _ _ => rfl)) pa_nil))))
        (pss_cons (ps_set (i := 5) scfewest_rounds.nd rfl (.inr rfl) (pe_callH hafter_family (hr.mono (by decide)) gu (by rfl) (pa_cons (pv 2) (pa_cons (pe_lst (pa_cons (pe_callH hsnake (hr.mono (by decide)) gu (by rfl) (pa_cons (pv 0) (pa_cons (pv 1) pa_nil))) pa_nil)) pa_nil))))
        (pss_cons (ps_set (i := 6) scfewest_rounds.nd rfl (.inl rfl) (pe_listRg rfl (by rfl) N.list (prg_1 (by rfl) N.range (pe_op op_shl pe_int (pv 2)))))
        (pss_cons (ps_set (i := 7) scfewest_rounds.nd rfl (.inl rfl) pe_int)
        (pss_cons (ps_while PassesOwn.never (pt_val (pe_callB (cr_any rfl) (by rfl) N.any (by decide +kernel) (pa_cons (pe_lc (own := [("number", 8)]) (g := gName 8) (tt := tYes)  rfl scfewest_rounds.nd (pi_list (pv 6)) (blkOk_by (N := ["rows", "columns", "places", "by_snakes", "by_columns", "by_snake", "reached", "rounds", "number"]) (sc := defScope sfewest_rounds) (by decide +kernel)) (fun _ _ _ _ _ => pg_name (i := 8) scfewest_rounds.nd rfl (Or.inl rfl)) (fun _ _ _ _ _ => pts_nil) (fun _ _ _ _ _ => (pe_cmpR (op_neU hr.units) (pe_ix ix_seq (pv 5) (pv 8) (fun _ _ => rfl)) (pe_ix ix_seq (pv 3) (pv 8) (fun _ _ => rfl)) (by first | rfl | exact nomark _)))) pa_nil)))
          (pss_cons (ps_set (i := 6) scfewest_rounds.nd rfl (.inl rfl) (pe_callB (cr_sortedSetB rfl) (by rfl) N.sorted (by decide +kernel) (pa_cons (pe_scI (own := [("number", 8)]) (g := gName 8)  rfl scfewest_rounds.nd (pi_list (pv 6)) (blkOk_by (N := ["rows", "columns", "places", "by_snakes", "by_columns", "by_snake", "reached", "rounds", "number"]) (sc := defScope sfewest_rounds) (by decide +kernel)) (fun _ _ _ _ _ => pg_name (i := 8) scfewest_rounds.nd rfl (Or.inl rfl)) (fun _ _ _ _ _ => (pe_ix ix_seq (pv 4) (pe_ix ix_seq (pv 3) (pv 8) (fun _ _ => rfl)) (fun _ _ => rfl)))) pa_nil)))
          (pss_one (ps_aug (i := 7) scfewest_rounds.nd rfl (.inl rfl) pe_int ip_add))))
        (pss_one (ps_ret (pv 7))))))))))), 
      (abs_seq (abs_drop (ab_call false (aba_cons (ab_var 0) (aba_cons (ab_var 1) (aba_cons (ab_int _) aba_nil)))))
        (abs_seq (abs_asg (ab_op (abr_mul false) (ab_var 0) (ab_var 1)) (abg_name 2))
        (abs_seq (abs_asg (ab_call false (aba_cons (ab_var 2) (aba_cons (ab_call false (aba_cons (ab_var 0) (aba_cons (ab_var 1) aba_nil))) aba_nil))) (abg_name 3))
        (abs_seq (abs_asg (ab_call false (aba_cons (ab_var 2) (aba_cons (ab_op abr_ix (ab_call false (aba_cons (ab_lstP false (abp_cons (ab_var 0) (abp_cons (ab_var 1) abp_nil))) aba_nil)) (ab_int _)) aba_nil))) (abg_name 4))
        (abs_seq (abs_asg (ab_call false (aba_cons (ab_var 2) (aba_cons (ab_lstP false (abp_cons (ab_call false (aba_cons (ab_var 0) (aba_cons (ab_var 1) aba_nil))) abp_nil)) aba_nil))) (abg_name 5))
        (abs_seq (abs_asg (ab_rgL1 false (ab_op abr_shl (ab_int _) (ab_var 2))) (abg_name 6))
        (abs_seq (abs_asg (ab_int _) (abg_name 7))
        (abs_seq (abs_while (abt_val (ab_cb abc_any (aba_cons (ab_lc false (abi_list (ab_var 6)) (abg_name 8) tgok_name abt_yes (ab_op abr_ne (ab_op abr_ix (ab_var 5) (ab_var 8)) (ab_op abr_ix (ab_var 3) (ab_var 8)))) aba_nil)))
          (abs_seq (abs_asg (ab_sortedSC false (abi_list (ab_var 6)) (abg_name 8) tgok_name (ab_op abr_ix (ab_var 4) (ab_op abr_ix (ab_var 3) (ab_var 8)))) (abg_name 6))
          (abs_aug 7 (ab_int _))))
        (abs_ret (ab_var 7)))))))))), fun xs dr q h => ?_⟩)
  · obtain ⟨h, w, k, rfl, h1, w1, h10, tk, tj, qk⟩ := h
    rfl
  · obtain ⟨h, w, k, rfl, h1, w1, h10, tk, tj, qk⟩ := h
    have sz : sizeLine = 16777216 := sizeLine_eq
    have le := le_of_mul h1 w1 h10
    have h40 : h * w ≤ 40 := by omega
    have ph : ((h : Int) * (w : Int)) = ((h * w : Nat) : Int) := (Int.natCast_mul h w).symm
    have two : (2 : Nat) ^ (h * w) ≤ 2 ^ 10 := Nat.pow_le_pow_right (by decide) h10
    have l10 : (2 : Nat) ^ 10 = 1024 := by decide
    have b0 : (0 : Int) ≤ ((2 ^ (h * w) : Nat) : Int) := Int.natCast_nonneg _
    have b1 : ((2 ^ (h * w) : Nat) : Int) ≤ 1024 := Int.ofNat_le.mpr (by rw [l10] at two; exact two)
    have vs := snk_valid (h := h) (w := w)
    refine ⟨_, rfl, _, rfl, rfl, h, w, 12, rfl, h1, w1, by omega, by decide, ?_⟩
    refine ⟨_, rfl, _, rfl, .inl ⟨by omega, by omega⟩, ?_⟩
    show sNext _ ⟨[some (.d (.int (h : Int))), some (.d (.int (w : Int))), some (.d (.int ((h : Int) * (w : Int)))), none, none, none, none, none, none], [], dr⟩
    rw [ph]
    generalize hn : h * w = n at *
    refine ⟨_, rfl, _, rfl, _, rfl, rfl, h, w, rfl, h1, w1, by omega, rfl, n, bentF h w, ?_, by rw [← hn]; exact bent_valid h w, by omega, ?_⟩
    · show [Vd.d (.int (n : Int)), Vd.d (PyData.list (((bentF h w).map iL).map PyData.list))] = _
      rw [famX]
    refine ⟨_, rfl, _, rfl, _, rfl, rfl, h, w, rfl, h1, w1, by omega, _, rfl, rfl, n, downF h w, ?_, by rw [← hn]; exact down_valid h w, by omega, ?_⟩
    · show [Vd.d (.int (n : Int)), Vd.d (PyData.list (((downF h w).map iL).map PyData.list))] = _
      rw [famX]
    refine ⟨_, rfl, _, rfl, _, rfl, rfl, h, w, rfl, h1, w1, by omega, rfl, n, [snk h w], rfl, vs, by omega, ?_⟩
    let S0 : PyData → PyData → Sd := fun a b => ⟨[some (.d (.int (h : Int))), some (.d (.int (w : Int))), some (.d (.int (n : Int))), some (.d (dL (nL (afterN n (bentF h w))))), some (.d (dL (nL (afterN n (downF h w))))), some (.d (dL (nL (afterN n [snk h w])))), some (.d a), some (.d b), none], [], dr⟩
    refine ⟨_, rfl, ⟨by omega, by omega, by decide⟩, ?_⟩
    show RgOk 0 ((1 : Int) * 2 ^ ((n : Int)).toNat) ∧ sNext _ ⟨[some (.d (.int (h : Int))), some (.d (.int (w : Int))), some (.d (.int (n : Int))), some (.d (dL (nL (afterN n (bentF h w))))), some (.d (dL (nL (afterN n (downF h w))))), some (.d (dL (nL (afterN n [snk h w])))), some (.d (.list ((upto 0 ((1 : Int) * 2 ^ ((n : Int)).toNat)).map PyData.int))), none, none], [], dr⟩
    rw [shl_one, upto_nL]
    refine ⟨⟨by omega, by omega, by omega, by omega⟩, ?_⟩
    let S : List Nat → Nat → Sd := fun rs i => S0 (dL (nL rs)) (.int (i : Int))
    let I : Sd → Prop := fun s => ∃ rs i, s = S rs i ∧ i ≤ k ∧ (∀ m, m ∈ rs ↔ ∃ m0, m0 < 2 ^ n ∧ itN h w i m0 = m) ∧ rs.length ≤ 1024
    refine sWhile_by _ I (fun s => k - int7 s) ⟨List.range (2 ^ n), 0, rfl, Nat.zero_le _, fun m => ⟨fun hm => ⟨m, List.mem_range.mp hm, rfl⟩, fun ⟨m0, hm, e⟩ => by rw [← e]; exact List.mem_range.mpr hm⟩, by rw [List.length_range]; omega⟩ ?_
    rintro s ⟨rs, i, rfl, ik, mem, rl⟩
    have lt : ∀ m ∈ rs, m < 2 ^ n := fun m hm => by
      obtain ⟨m0, hm0, e⟩ := (mem m).mp hm
      rw [← e]
      have := (itN_ok (h := h) (w := w) (m := m0) (by rw [hn]; exact hm0) i).1
      rw [hn] at this
      exact this
    have at_ : ∀ (f : List (List Int)) (m : Nat), m ∈ rs → (afterN n f)[m]? = some (famN n m f) := fun f m hm => by
      unfold afterN
      rw [List.getElem?_map, List.getElem?_range (lt m hm)]
      rfl
    have atl : ∀ (f : List (List Int)) (m : Nat), m < 2 ^ n → (afterN n f)[m]? = some (famN n m f) := fun f m hm => by
      unfold afterN
      rw [List.getElem?_map, List.getElem?_range hm]
      rfl
    let bad : Nat → Bool := fun m => (true ^^ decide (((famN n m [snk h w] : Nat) : Int) = ((famN n m (bentF h w) : Nat) : Int)))
    have tkI : Tk h w i ↔ (rs.map bad).any id = false := by
      rw [Tk_iff, Bool.eq_false_iff, Ne, List.any_eq_true]
      rw [hn]
      constructor
      · rintro t ⟨b, hb, hb2⟩
        obtain ⟨m, hm, rfl⟩ := List.mem_map.mp hb
        obtain ⟨m0, hm0, rfl⟩ := (mem m).mp hm
        have ok := t m0 hm0
        unfold okN at ok
        rw [hn] at ok
        have z : bad (itN h w i m0) = false := by
          show (true ^^ decide (((famN n (itN h w i m0) [snk h w] : Nat) : Int) = ((famN n (itN h w i m0) (bentF h w) : Nat) : Int))) = false
          rw [ok, decide_eq_true rfl]
          rfl
        have z2 : bad (itN h w i m0) = true := hb2
        rw [z] at z2
        cases z2
      · intro t m0 hm0
        unfold okN
        rw [hn]
        refine Classical.byContradiction fun ne => t ⟨true, List.mem_map.mpr ⟨itN h w i m0, (mem _).mpr ⟨m0, hm0, rfl⟩, ?_⟩, rfl⟩
        show (true ^^ decide (((famN n (itN h w i m0) [snk h w] : Nat) : Int) = ((famN n (itN h w i m0) (bentF h w) : Nat) : Int))) = true
        rw [decide_eq_false fun e => ne (Int.ofNat_inj.mp e)]
        rfl
    refine uLc_map (fun (m : Nat) => .int (m : Int)) (fun m => .bool (bad m)) rs (S rs i) (fun R h' => ⟨_, rfl, ?_⟩) (by omega) (fun m hm R R' hR => ?_) ?_
    · show R ((nL rs).map PyData.int) _
      rw [nL_map]
      exact h'
    · exact ⟨_, rfl, _, rfl, _, nL_at rfl (j := m) (at_ _ m hm), _, rfl, _, rfl, _, nL_at rfl (j := m) (at_ _ m hm), hR⟩
    refine ⟨rs.map bad, by rw [List.map_map]; rfl, ?_⟩
    show if (rs.map bad).any id = true then _ else _
    refine ite2 (fun z => ?_) (fun z => ?_)
    · have nt : ¬ Tk h w i := fun t => by rw [tkI.mp t] at z; cases z
      have il : i < k := Nat.lt_of_le_of_ne ik fun e => nt (by rw [e]; exact tk)
      show uSortedSC _ _ _ _ _ _ _
      unfold uSortedSC
      refine ⟨_, rfl, rs.map fun m => ((rndN h w m : Nat) : Int), ?_, by rw [List.length_map]; omega, fun j d hd => ?_, fun ns up nm => ?_⟩
      · show (rs.map _).length = ((nL rs).map PyData.int).length
        rw [List.length_map, List.length_map, nL_len]
      · have hd : ((nL rs).map PyData.int)[j]? = some d := hd
        rw [nL_map] at hd
        obtain ⟨m, hm, rfl⟩ := map_get hd
        have mr := List.mem_of_getElem? hm
        have fl : famN n m (bentF h w) < 2 ^ n := (famN_ok (by rw [← hn]; exact bent_valid h w) (lt m mr)).1
        refine ⟨_, rfl, _, rfl, _, rfl, _, nL_at rfl (j := m) (at_ _ m mr), _, nL_at rfl (j := famN n m (bentF h w)) (atl _ _ fl), rfl, rfl, _, rfl, ?_⟩
        rw [List.getElem?_map, hm]
        show some ((rndN h w m : Nat) : Int) = _
        unfold rndN
        rw [hn]
      · have nn : nL (ns.map Int.toNat) = ns := by
          unfold nL
          rw [List.map_map]
          refine (List.map_congr_left fun x hx => ?_).trans (List.map_id _)
          obtain ⟨m, _, rfl⟩ := List.mem_map.mp ((nm x).mp hx)
          rfl
        have nlen : ns.length ≤ 1024 := by
          have := inj_le (fun a b => a = b) ns (rs.map fun m => ((rndN h w m : Nat) : Int)) (up.imp fun h => Int.ne_of_lt h) (fun a ha => ⟨a, (nm a).mp ha, rfl⟩) fun a _ a' _ b r r' => r.trans r'.symm
          rw [List.length_map] at this
          omega
        refine ⟨_, rfl, ?_⟩
        show ∃ s4, Wk (S0 (.list (ns.map PyData.int)) (.int ((i : Int) + 1))) s4 ∧ I s4 ∧ k - int7 s4 < k - int7 (S rs i)
        have e1 : PyData.list (ns.map PyData.int) = dL (nL (ns.map Int.toNat)) := by rw [nn]; rfl
        have e2 : (i : Int) + 1 = ((i + 1 : Nat) : Int) := by omega
        rw [e1, e2]
        refine ⟨S (ns.map Int.toNat) (i + 1), wk_r, ⟨_, _, rfl, il, fun m => ?_, by rw [List.length_map]; exact nlen⟩, ?_⟩
        · constructor
          · intro hm
            obtain ⟨x, hx, rfl⟩ := List.mem_map.mp hm
            obtain ⟨m1, hm1, rfl⟩ := List.mem_map.mp ((nm x).mp hx)
            obtain ⟨m0, hm0, rfl⟩ := (mem m1).mp hm1
            exact ⟨m0, hm0, rfl⟩
          · rintro ⟨m0, hm0, rfl⟩
            exact List.mem_map.mpr ⟨((rndN h w (itN h w i m0) : Nat) : Int), (nm _).mpr (List.mem_map.mpr ⟨itN h w i m0, (mem _).mpr ⟨m0, hm0, rfl⟩, rfl⟩), rfl⟩
        · show k - ((i + 1 : Nat) : Int).toNat < k - ((i : Nat) : Int).toNat
          omega
    · have t : Tk h w i := tkI.mpr (Bool.eq_false_iff.mpr z)
      have e : i = k := by
        rcases Nat.lt_or_ge i k with l | l
        · exact absurd t (tj i l)
        · omega
      subst e
      exact ⟨_, rfl, qk⟩
def spsorted_along : Spd := fun xs dr q => ∃ (l : List Int) (f : List (List Int)), xs = [.d (dL l), .d (dF f)] ∧ Valid l.length f ∧ l.length ≤ 40 ∧ q (.nl (iL (sortAlong l f))) dr
abbrev ssorted_along : Stmt := tp 32
theorem scsorted_along : FnScope ["filling", "family", "result", "chain", "values", "place", "value"] ["filling", "family"] (defScope ssorted_along) := ⟨rfl, rfl, rfl, by decide +kernel, rfl, by decide +kernel, by decide +kernel⟩
theorem oksorted_along {f : Addr} {fd : FuncData} (F : Fun K "sorted_along" "sorted_along" ssorted_along f fd) (N : Nb mg) :
    FnD P w K mg base 1 f fd ["filling", "family"] spsorted_along := by
  refine fnD_of F scsorted_along (fun xs dr q h => ?_) (fun cdv A below s H hr gu => ⟨_, _, 
      (pss_cons (ps_set (i := 2) scsorted_along.nd rfl (.inl rfl) (pe_callTy call_list_of (by rfl) N.list (by decide +kernel) (pa_cons (pv 0) pa_nil)))
        (pss_cons (ps_for PassesOwn.never rfl (pi_list (pv 1)) (pg_name (i := 3) scsorted_along.nd rfl (.inl rfl))
          (pss_cons (ps_set (i := 4) scsorted_along.nd rfl (.inl rfl) (pe_callB cr_sortedI (by rfl) N.sorted (by decide +kernel) (pa_cons (pe_lc (own := [("place", 5)]) (g := gName 5) (tt := tYes)  rfl scsorted_along.nd (pi_list (pv 3)) (blkOk_by (N := ["filling", "family", "result", "chain", "values", "place", "value"]) (sc := defScope ssorted_along) (by decide +kernel)) (fun _ _ _ _ _ => pg_name (i := 5) scsorted_along.nd rfl (Or.inl rfl)) (fun _ _ _ _ _ => pts_nil) (fun _ _ _ _ _ => (pe_ix ix_seq (pv 0) (pe_op op_sub (pv 5) pe_int) (fun _ _ => rfl)))) pa_nil)))
          (pss_one (ps_for PassesOwn.never rfl (pi_zip (by rfl) N.zip (pa_cons (pv 3) (pa_cons (pv 4) pa_nil))) (pg_tup (n := 2) rfl (pgs_cons (pg_name (i := 5) scsorted_along.nd rfl (.inl rfl)) (pgs_cons (pg_name (i := 6) scsorted_along.nd rfl (.inl rfl)) pgs_nil)))
            (pss_one (ps_asg (pv 6) (pg_sub (pv 2) (pe_op op_sub (pv 5) pe_int) set_list)))))))
        (pss_one (ps_ret (pv 2))))), 
      (abs_seq (abs_asg (ab_cb (abc_list true) (aba_cons (ab_var 0) aba_nil)) (abg_name 2))
        (abs_seq (abs_for (abi_list (ab_var 1)) (abg_name 3)
          (abs_seq (abs_asg (ab_cb (abc_sorted false) (aba_cons (ab_lc false (abi_list (ab_var 3)) (abg_name 5) tgok_name abt_yes (ab_op abr_ix (ab_var 0) (ab_op abr_sub (ab_var 5) (ab_int _)))) aba_nil)) (abg_name 4))
          (abs_for (abi_zip (aba_cons (ab_var 3) (aba_cons (ab_var 4) aba_nil))) (abg_tup (abgs_cons (abg_name 5) (abgs_cons (abg_name 6) abgs_nil)))
            (abs_asg (ab_var 6) (abg_sub (ab_var 2) (ab_op abr_sub (ab_var 5) (ab_int _)))))))
        (abs_ret (ab_var 2)))), fun xs dr q h => ?_⟩)
  · obtain ⟨l, f, rfl, v, h40, k⟩ := h
    rfl
  · obtain ⟨l, f, rfl, v, h40, k⟩ := h
    have sz : sizeLine = 16777216 := sizeLine_eq
    refine ⟨_, rfl, ?_⟩
    let S : List Int → Sd := fun r => ⟨[some (.d (dL l)), some (.d (dF f)), some (.p 0), none, none, none, none], [some (.lst ((iL r).map Vd.d))], dr⟩
    have lenr : ∀ i, ((f.take i).foldl (along1 l) l).length = l.length := fun i => by rw [fold_along_len]
    refine sFor_fold dL f S (along1 l) l (fun R h => ⟨_, rfl, h⟩) (fun i c hc r hr N hN bk => ?_) ⟨_, rfl, .inl ⟨_, _, rfl, rfl, k⟩⟩
    have lr : r.length = l.length := by rw [hr]; exact lenr i
    have cm := List.mem_of_getElem? hc
    have cr : ∀ x ∈ c, 1 ≤ x ∧ x ≤ (l.length : Int) := fun x hx => v.rg x (flatten_mem cm hx)
    have cl := chain_le v cm
    have lv : (srt (c.map (at1 l))).length = c.length := by rw [srt_len, List.length_map]
    let S1 : List Int → Sd := fun r => ⟨[some (.d (dL l)), some (.d (dF f)), some (.p 0), some (.d (dL c)), some (.d (dL (srt (c.map (at1 l))))), none, none], [some (.lst ((iL r).map Vd.d))], dr⟩
    refine uLc_map PyData.int (fun x => .int (at1 l x)) c ⟨[some (.d (dL l)), some (.d (dF f)), some (.p 0), some (.d (dL c)), none, none, none], [some (.lst ((iL r).map Vd.d))], dr⟩ (fun R h => ⟨_, rfl, h⟩) (by omega) (fun x hx R R' hR => ⟨_, rfl, _, rfl, _, atI_ints (cr x hx).1 (cr x hx).2, hR⟩) ⟨c.map (at1 l), by rw [List.map_map]; rfl, ?_⟩
    refine sFor_fold pairI (c.zip (srt (c.map (at1 l)))) S1 put1 r (fun R h => ?_) (fun j p hp r2 hr2 N2 hN2 bk2 => ?_) ?_
    · refine ⟨_, rfl, _, rfl, ?_⟩
      show R (pairsD (c.map PyData.int) ((srt (c.map (at1 l))).map PyData.int)) (S1 r)
      rw [pairs_ints]
      exact h
    · have pr := zip_range cr p (List.mem_of_getElem? hp)
      have l2 : r2.length = l.length := by rw [hr2, fold_put1_len]; exact lr
      refine ⟨rfl, _, rfl, ⟨_, rfl⟩, _, rfl, _, rfl, _, (p.1 - 1).toNat, rfl, ?_, ?_⟩
      · have := ixN_lt (n := ((iL r2).map Vd.d).length) (i := (p.1 - 1).toNat) (by rw [List.length_map, iL_len, l2]; omega)
        rw [Int.toNat_of_nonneg (by omega)] at this
        exact this
      · show ∃ s4, Wk ⟨[some (.d (dL l)), some (.d (dF f)), some (.p 0), some (.d (dL c)), some (.d (dL (srt (c.map (at1 l))))), some (.d (.int p.1)), some (.d (.int p.2))], [some (.lst (((iL r2).map Vd.d).set (p.1 - 1).toNat (.d (.int p.2))))], dr⟩ s4 ∧ N2 s4
        rw [set_iL]
        exact ⟨_, wk_r, hN2⟩
    · exact ⟨_, wk_r, hN⟩
def spafter_row : Spd := fun xs dr q => ∃ (l : List Int) (R : List (List (List Int))), xs = [.d (dL l), .d (dR R)] ∧ (∀ f ∈ R, Valid l.length f) ∧ 1 ≤ l.length ∧ l.length ≤ 40 ∧ q (.d (dL (afterRow l R))) dr
abbrev safter_row : Stmt := tp 31
theorem scafter_row : FnScope ["filling", "row", "result", "family"] ["filling", "row"] (defScope safter_row) := ⟨rfl, rfl, rfl, by decide +kernel, rfl, by decide +kernel, by decide +kernel⟩
theorem okafter_row {f : Addr} {fd : FuncData} (F : Fun K "after_row" "after_row" safter_row f fd) (N : Nb mg)
    (hcheck_filling : Has P w K mg base "check_filling" 2 ["filling"] spcheck_filling)
    (hcheck_row : Has P w K mg base "check_row" 4 ["places", "row"] spcheck_row)
    (hsorted_along : Has P w K mg base "sorted_along" 1 ["filling", "family"] spsorted_along) :
    FnD P w K mg base 5 f fd ["filling", "row"] spafter_row := by
  refine fnD_of F scafter_row (fun xs dr q h => ?_) (fun cdv A below s H hr gu => ⟨_, _, 
      (pss_cons (ps_expr (pe_callH hcheck_filling (hr.mono (by decide)) gu (by rfl) (pa_cons (pv 0) pa_nil)))
        (pss_cons (ps_expr (pe_callH hcheck_row (hr.mono (by decide)) gu (by rfl) (pa_cons (pe_callB call_len_seq (by rfl) N.len PySem.boot_len (pa_cons (pv 0) pa_nil)) (pa_cons (pv 1) pa_nil))))
        (pss_cons (ps_set (i := 2) scafter_row.nd rfl (.inl rfl) (pe_callTy call_list_of (by rfl) N.list (by decide +kernel) (pa_cons (pv 0) pa_nil)))
        (pss_cons (ps_for PassesOwn.never rfl (pi_list (pv 1)) (pg_name (i := 3) scafter_row.nd rfl (.inl rfl))
          (pss_one (ps_set (i := 2) scafter_row.nd rfl (.inl rfl) (pe_callH hsorted_along (hr.mono (by decide)) gu (by rfl) (pa_cons (pv 2) (pa_cons (pv 3) pa_nil))))))
        (pss_one (ps_ret (pv 2))))))), 
      (abs_seq (abs_drop (ab_call false (aba_cons (ab_var 0) aba_nil)))
        (abs_seq (abs_drop (ab_call false (aba_cons (ab_cb abc_len (aba_cons (ab_var 0) aba_nil)) (aba_cons (ab_var 1) aba_nil))))
        (abs_seq (abs_asg (ab_cb (abc_list false) (aba_cons (ab_var 0) aba_nil)) (abg_name 2))
        (abs_seq (abs_for (abi_list (ab_var 1)) (abg_name 3)
          (abs_asg (ab_call false (aba_cons (ab_var 2) (aba_cons (ab_var 3) aba_nil))) (abg_name 2)))
        (abs_ret (ab_var 2)))))), fun xs dr q h => ?_⟩)
  · obtain ⟨l, R, rfl, v, l1, h40, k⟩ := h
    rfl
  · obtain ⟨l, R, rfl, v, l1, h40, k⟩ := h
    have sz : sizeLine = 16777216 := sizeLine_eq
    let S : List Int → Sd := fun r => ⟨[some (.d (dL l)), some (.d (dR R)), some (.d (dL r)), none], [], dr⟩
    refine ⟨_, rfl, rfl, l, rfl, l1, h40, ?_⟩
    refine ⟨_, rfl, _, rfl, rfl, l.length, R, ?_, v, h40, ?_⟩
    · show [Vd.d (.int ((l.map PyData.int).length : Int)), Vd.d (dR R)] = _
      rw [List.length_map]
    refine ⟨_, rfl, ?_⟩
    show sNext _ (S l)
    refine sFor_fold dF R S sortAlong l (fun R h => ⟨_, rfl, h⟩) (fun i f hf r hr N hN bk => ?_) ⟨_, rfl, ?_⟩
    · have lr : r.length = l.length := by rw [hr]; exact afterRow_len _ _
      exact ⟨_, rfl, _, rfl, rfl, r, f, rfl, by rw [lr]; exact v f (List.mem_of_getElem? hf), by omega, _, wk_r, hN⟩
    · exact k

end
end K51


set_option autoImplicit true
set_option Elab.async false
set_option linter.all false
set_option maxRecDepth 100000
set_option maxHeartbeats 8000000
namespace K51
open PySem PySem.Spec L2 Kt Dt
section
variable {P : Program} {w : Ww} {K : PySem.W.Frag} {mg : Str → Option Value} {base : Heap}
theorem eqv_nil : eqvI (.list []) (.list []) = true := (eqvI_dL [] []).trans (decide_eq_true rfl)
theorem eqvI_iL (xs ys : List Int) : eqvI (.list (xs.map PyData.int)) (.list (ys.map PyData.int)) = decide (xs = ys) := eqvI_dL xs ys
theorem atI_getD {l : List Int} {i : Int} (h0 : 0 ≤ i) (h : i < l.length) : atI (l.map PyData.int) i = some (.int (l.getD i.toNat 0)) := by
  refine atI_some h0 ?_
  rw [List.getElem?_map, List.getD_eq_getElem?_getD, List.getElem?_eq_getElem (by omega)]
  rfl
theorem enum_ints (c : List Int) : enumD (c.map PyData.int) = (List.range c.length).map fun i => .tuple [.int ((i : Nat) : Int), .int (c.getD i 0)] := by
  refine List.ext_getElem (by simp [enumD, pairsD, intsR]) fun i h1 h2 => ?_
  have hi : i < c.length := by simpa using h2
  simp [enumD, pairsD, intsR, List.getElem?_eq_getElem hi]
theorem snoc_iL (r : List Int) (v : Int) : (iL r).map Vd.d ++ [.d (.int v)] = (iL (r ++ [v])).map Vd.d := by unfold iL; rw [List.map_append, List.map_append]; rfl
theorem erase_map {α β : Type} (f : α → β) : ∀ (l : List α) (k : Nat), (l.map f).eraseIdx k = (l.eraseIdx k).map f
  | [], _ => rfl
  | _ :: _, 0 => rfl
  | x :: l, k + 1 => by rw [List.map_cons, List.eraseIdx_cons_succ, List.eraseIdx_cons_succ, List.map_cons, erase_map f l k]
theorem erase_iL (r : List Int) (k : Nat) : ((iL r).map Vd.d).eraseIdx k = (iL (r.eraseIdx k)).map Vd.d := by unfold iL; rw [List.map_map, List.map_map, erase_map]
theorem getD_at1 (l : List Int) (i : Nat) : l.getD i 0 = at1 l ((i : Int) + 1) := by
  unfold at1
  rw [show ((i : Int) + 1 - 1).toNat = i by omega]
def sp_law_sorted : Spd := fun xs dr q => ∃ (l : List Int) (f : List (List Int)), xs = [.d (dL l), .d (dF f)] ∧ Valid l.length f ∧ l.length ≤ 40 ∧ q (.nl (iL (sortAlong l f))) dr
abbrev s_law_sorted : Stmt := tp 36
theorem sc_law_sorted : FnScope ["load", "lot", "told", "line", "some", "at", "spot"] ["load", "lot"] (defScope s_law_sorted) := ⟨rfl, rfl, rfl, by decide +kernel, rfl, by decide +kernel, by decide +kernel⟩
theorem ok_law_sorted {f : Addr} {fd : FuncData} (F : Fun K "_law_sorted" "_law_sorted" s_law_sorted f fd) (N : Nb mg) :
    FnD P w K mg base 1 f fd ["load", "lot"] sp_law_sorted := by
  refine fnD_of F sc_law_sorted (fun xs dr q h => ?_) (fun cdv A below s H hr gu => ⟨_, _, 
      (pss_cons (ps_set (i := 2) sc_law_sorted.nd rfl (.inl rfl) (pe_callTy call_list_of (by rfl) N.list (by decide +kernel) (pa_cons (pv 0) pa_nil)))
        (pss_cons (ps_for PassesOwn.never rfl (pi_list (pv 1)) (pg_name (i := 3) sc_law_sorted.nd rfl (.inl rfl))
          (pss_cons (ps_set (i := 4) sc_law_sorted.nd rfl (.inl rfl) (pe_callB cr_sortedI (by rfl) N.sorted (by decide +kernel) (pa_cons (pe_lc (own := [("spot", 6)]) (g := gName 6) (tt := tYes)  rfl sc_law_sorted.nd (pi_list (pv 3)) (blkOk_by (N := ["load", "lot", "told", "line", "some", "at", "spot"]) (sc := defScope s_law_sorted) (by decide +kernel)) (fun _ _ _ _ _ => pg_name (i := 6) sc_law_sorted.nd rfl (Or.inl rfl)) (fun _ _ _ _ _ => pts_nil) (fun _ _ _ _ _ => (pe_ix ix_seq (pv 0) (pe_op op_sub (pv 6) pe_int) (fun _ _ => rfl)))) pa_nil)))
          (pss_one (ps_for PassesOwn.never rfl (pi_enum (by rfl) N.enum (pa_cons (pv 3) pa_nil)) (pg_tup (n := 2) rfl (pgs_cons (pg_name (i := 5) sc_law_sorted.nd rfl (.inl rfl)) (pgs_cons (pg_name (i := 6) sc_law_sorted.nd rfl (.inl rfl)) pgs_nil)))
            (pss_one (ps_asg (pe_ix ix_seq (pv 4) (pv 5) (fun _ _ => rfl)) (pg_sub (pv 2) (pe_op op_sub (pv 6) pe_int) set_list)))))))
        (pss_one (ps_ret (pv 2))))), 
      (abs_seq (abs_asg (ab_cb (abc_list true) (aba_cons (ab_var 0) aba_nil)) (abg_name 2))
        (abs_seq (abs_for (abi_list (ab_var 1)) (abg_name 3)
          (abs_seq (abs_asg (ab_cb (abc_sorted false) (aba_cons (ab_lc false (abi_list (ab_var 3)) (abg_name 6) tgok_name abt_yes (ab_op abr_ix (ab_var 0) (ab_op abr_sub (ab_var 6) (ab_int _)))) aba_nil)) (abg_name 4))
          (abs_for (abi_enum (aba_cons (ab_var 3) aba_nil)) (abg_tup (abgs_cons (abg_name 5) (abgs_cons (abg_name 6) abgs_nil)))
            (abs_asg (ab_op abr_ix (ab_var 4) (ab_var 5)) (abg_sub (ab_var 2) (ab_op abr_sub (ab_var 6) (ab_int _)))))))
        (abs_ret (ab_var 2)))), fun xs dr q h => ?_⟩)
  · obtain ⟨l, f, rfl, v, h40, k⟩ := h
    rfl
  · obtain ⟨l, f, rfl, v, h40, k⟩ := h
    have sz : sizeLine = 16777216 := sizeLine_eq
    refine ⟨_, rfl, ?_⟩
    let S : List Int → Sd := fun r => ⟨[some (.d (dL l)), some (.d (dF f)), some (.p 0), none, none, none, none], [some (.lst ((iL r).map Vd.d))], dr⟩
    have lenr : ∀ i, ((f.take i).foldl (along1 l) l).length = l.length := fun i => by rw [fold_along_len]
    refine sFor_fold dL f S (along1 l) l (fun R h => ⟨_, rfl, h⟩) (fun i c hc r hr N hN bk => ?_) ⟨_, rfl, .inl ⟨_, _, rfl, rfl, k⟩⟩
    have lr : r.length = l.length := by rw [hr]; exact lenr i
    have cm := List.mem_of_getElem? hc
    have cr : ∀ x ∈ c, 1 ≤ x ∧ x ≤ (l.length : Int) := fun x hx => v.rg x (flatten_mem cm hx)
    have cl := chain_len v cm
    refine uLc_map PyData.int (fun x => .int (at1 l x)) c ⟨[some (.d (dL l)), some (.d (dF f)), some (.p 0), some (.d (dL c)), none, none, none], [some (.lst ((iL r).map Vd.d))], dr⟩ (fun R h => ⟨_, rfl, h⟩) (by omega) (fun x hx R R' hR => ⟨_, rfl, _, rfl, _, atI_ints (cr x hx).1 (cr x hx).2, hR⟩) ⟨c.map (at1 l), by rw [List.map_map]; rfl, ?_⟩
    have lv : (srt (c.map (at1 l))).length = c.length := by rw [srt_len, List.length_map]
    refine sFor_inv (fun i : Nat => .tuple [.int ((i : Nat) : Int), .int (c.getD i 0)]) (List.range c.length) ⟨[some (.d (dL l)), some (.d (dF f)), some (.p 0), some (.d (dL c)), some (.d (.list ((srt (c.map (at1 l))).map PyData.int))), none, none], [some (.lst ((iL r).map Vd.d))], dr⟩
      (fun j s => s = ⟨[some (.d (dL l)), some (.d (dF f)), some (.p 0), some (.d (dL c)), some (.d (.list ((srt (c.map (at1 l))).map PyData.int))), none, none], [some (.lst ((iL (put r (c.take j) ((srt (c.map (at1 l))).take j))).map Vd.d))], dr⟩)
      (fun R h => ⟨_, rfl, ?_⟩) rfl (fun j x s hx hs => ?_) (fun s hs => ?_)
    · show R (enumD (c.map PyData.int)) _
      rw [enum_ints]
      exact h
    · subst hs
      have hj : j < c.length := by
        have := (List.getElem?_eq_some_iff.mp hx).1
        rw [List.length_range] at this
        exact this
      rw [List.getElem?_range hj] at hx
      obtain rfl := Option.some.inj hx
      have gc : c[j]? = some (c.getD j 0) := by rw [List.getD_eq_getElem?_getD, List.getElem?_eq_getElem hj]; rfl
      have gv : (srt (c.map (at1 l)))[j]? = some ((srt (c.map (at1 l))).getD j 0) := by rw [List.getD_eq_getElem?_getD, List.getElem?_eq_getElem (by omega)]; rfl
      have cb := cr _ (List.mem_of_getElem? gc)
      have lp : (put r (c.take j) ((srt (c.map (at1 l))).take j)).length = l.length := by rw [put_len]; exact lr
      refine ⟨rfl, _, rfl, _, rfl, _, atI_getD (by omega) (by rw [lv]; omega), ⟨_, rfl⟩, _, rfl, _, rfl, _, (c.getD j 0 - 1).toNat, rfl, ?_, ?_⟩
      · have := ixN_lt (n := ((iL (put r (c.take j) ((srt (c.map (at1 l))).take j))).map Vd.d).length) (i := (c.getD j 0 - 1).toNat) (by rw [List.length_map, iL_len, lp]; omega)
        rw [Int.toNat_of_nonneg (by omega)] at this
        exact this
      · show ∃ s4, Wk ⟨[some (.d (dL l)), some (.d (dF f)), some (.p 0), some (.d (dL c)), some (.d (.list ((srt (c.map (at1 l))).map PyData.int))), some (.d (.int (j : Int))), some (.d (.int (c.getD j 0)))], [some (.lst (((iL (put r (c.take j) ((srt (c.map (at1 l))).take j))).map Vd.d).set (c.getD j 0 - 1).toNat (.d (.int ((srt (c.map (at1 l))).getD (j : Int).toNat 0)))))], dr⟩ s4 ∧ _
        have e : (put r (c.take j) ((srt (c.map (at1 l))).take j)).set (c.getD j 0 - 1).toNat ((srt (c.map (at1 l))).getD j 0) = put r (c.take (j + 1)) ((srt (c.map (at1 l))).take (j + 1)) := (put_step gc gv).symm
        rw [set_iL, Int.toNat_natCast, e]
        exact ⟨_, wk_r, rfl⟩
    · subst hs
      rw [List.length_range, List.take_length, ← lv, List.take_length]
      exact ⟨_, wk_r, hN⟩
def sp_law_load : Spd := fun xs dr q => ∃ (t : Int) (n : Nat), xs = [.dr, .d (.int n)] ∧ 1 ≤ n ∧ n ≤ 40 ∧ dr = some t ∧ t < 900000000 ∧ ∀ (l : List Int) (t' : Int), l.length = n → (∀ x ∈ l, Small x) → t ≤ t' → t' ≤ t + 50 → q (.nl (iL l)) (some t')
theorem sc3 (r : Int) : ∃ s : Int, atI [PyData.int 1, .int 1, .int ((10 : Int) ^ (53 : Int).toNat)] (r % 3) = some (.int s) ∧ (s = 1 ∨ s = (10 : Int) ^ (53 : Int).toNat) := by
  rcases (show r % 3 = 0 ∨ r % 3 = 1 ∨ r % 3 = 2 by omega) with e | e | e <;> rw [e]
  · exact ⟨1, rfl, .inl rfl⟩
  · exact ⟨1, rfl, .inl rfl⟩
  · exact ⟨_, rfl, .inr rfl⟩
theorem md3 (kd : Int) (n : Nat) (h1 : 1 ≤ kd) (h2 : kd ≤ 3) (n1 : 1 ≤ n) (n40 : n ≤ 40) : ∃ m : Int, atI [PyData.int 2, .int n, .int ((10 : Int) ^ (6 : Int).toNat)] (kd - 1) = some (.int m) ∧ 1 ≤ m ∧ m ≤ 1000000 := by
  rcases (show kd = 1 ∨ kd = 2 ∨ kd = 3 by omega) with e | e | e <;> subst e
  · exact ⟨2, rfl, by decide, by decide⟩
  · exact ⟨n, rfl, by omega, by omega⟩
  · exact ⟨_, rfl, by decide, by decide⟩
def olen : Option (Option Ob) → Nat
  | some (some (.lst xs)) => xs.length
  | _ => 0
abbrev s_law_load : Stmt := tp 37
theorem sc_law_load : FnScope ["draws", "many", "kind", "scale", "left", "told", "k"] ["draws", "many"] (defScope s_law_load) := ⟨rfl, rfl, rfl, by decide +kernel, rfl, by decide +kernel, by decide +kernel⟩
theorem ok_law_load {f : Addr} {fd : FuncData} (F : Fun K "_law_load" "_law_load" s_law_load f fd) (N : Nb mg)
    (h_law_next : Has P w K mg base "_law_next" 1 ["draws"] sp_law_next) :
    FnD P w K mg base 2 f fd ["draws", "many"] sp_law_load := by
  refine fnD_of F sc_law_load (fun xs dr q h => ?_) (fun cdv A below s H hr gu => ⟨_, _, 
      (pss_cons (ps_set (i := 2) sc_law_load.nd rfl (.inr rfl) (pe_op op_mod (pe_callTy call_int1 (by rfl) N.int (by decide +kernel) (pa_cons (pe_callH h_law_next (hr.mono (by decide)) gu (by rfl) (pa_cons (pv 0) pa_nil)) pa_nil)) pe_int))
        (pss_cons (ps_if (pt_cmpR op_gt (pv 2) pe_int (by first | rfl | exact nomark _)) (pss_cons (ps_set (i := 3) sc_law_load.nd rfl (.inr rfl) (pe_ix ix_seq (pe_lst (pa_cons pe_int (pa_cons pe_int (pa_cons (pe_op op_pow pe_int pe_int) pa_nil)))) (pe_op op_mod (pe_callTy call_int1 (by rfl) N.int (by decide +kernel) (pa_cons (pe_callH h_law_next (hr.mono (by decide)) gu (by rfl) (pa_cons (pv 0) pa_nil)) pa_nil)) pe_int) (fun _ _ => rfl)))
          (pss_one (ps_ret (pe_lc (own := [("k", 6)]) (g := gName 6) (tt := tYes)  rfl sc_law_load.nd (pi_range1 (by rfl) N.range (pa_cons (pv 1) pa_nil)) (blkOk_by (N := ["draws", "many", "kind", "scale", "left", "told", "k"]) (sc := defScope s_law_load) (by decide +kernel)) (fun _ _ _ _ _ => pg_name (i := 6) sc_law_load.nd rfl (Or.inl rfl)) (fun _ _ _ _ _ => pts_nil) (fun _ _ _ _ _ => (pe_op op_mulU (pe_op op_sub (pe_op op_mod (pe_callTy call_int1 (by rfl) N.int (by decide +kernel) (pa_cons (pe_callH h_law_next (hr.mono (by decide)) gu (by rfl) (pa_cons (pv 0) pa_nil)) pa_nil)) (pe_ix ix_seq (pe_lst (pa_cons pe_int (pa_cons (pv 1) (pa_cons (pe_op op_pow pe_int pe_int) pa_nil)))) (pe_op op_sub (pv 2) pe_int) (fun _ _ => rfl))) (pe_op op_mulU (pe_op op_fdiv (pv 2) pe_int) pe_int)) (pv 3))))))) pss_nil)
        (pss_cons (ps_set (i := 4) sc_law_load.nd rfl (.inl rfl) (pe_listRg rfl (by rfl) N.list (prg_2 (by rfl) N.range pe_int (pe_op op_addU (pv 1) pe_int))))
        (pss_cons (ps_set (i := 5) sc_law_load.nd rfl (.inl rfl) (pe_lst pa_nil))
        (pss_cons (ps_while PassesOwn.never (pt_cmpR (op_neU hr.units) (pv 4) (pe_lst pa_nil) (by first | rfl | exact nomark _))
          (pss_one (ps_expr (pe_bm PySem.F.plainAttrs_list PySem.F.slot_list_append PySem.F.type_list_append mt_append (pv 5) (pa_cons (pe_bm PySem.F.plainAttrs_list PySem.F.slot_list_pop PySem.F.type_list_pop mt_popAt (pv 4) (pa_cons (pe_op op_mod (pe_callTy call_int1 (by rfl) N.int (by decide +kernel) (pa_cons (pe_callH h_law_next (hr.mono (by decide)) gu (by rfl) (pa_cons (pv 0) pa_nil)) pa_nil)) (pe_callB call_len_seq (by rfl) N.len PySem.boot_len (pa_cons (pv 4) pa_nil))) pa_nil)) pa_nil)))))
        (pss_one (ps_ret (pv 5)))))))), 
      (abs_seq (abs_asg (ab_op abr_mod (ab_cb abc_int1 (aba_cons (ab_call false (aba_cons (ab_var 0) aba_nil)) aba_nil)) (ab_int _)) (abg_name 2))
        (abs_seq (abs_if (abt_test (ab_op abr_gt (ab_var 2) (ab_int _))) (abs_seq (abs_asg (ab_op abr_ix (ab_lstP false (abp_cons (ab_int _) (abp_cons (ab_int _) (abp_cons (ab_op abr_pow (ab_int _) (ab_int _)) abp_nil)))) (ab_op abr_mod (ab_cb abc_int1 (aba_cons (ab_call false (aba_cons (ab_var 0) aba_nil)) aba_nil)) (ab_int _))) (abg_name 3))
          (abs_ret (ab_lc true (abi_rng1 (aba_cons (ab_var 1) aba_nil)) (abg_name 6) tgok_name abt_yes (ab_op (abr_mul false) (ab_op abr_sub (ab_op abr_mod (ab_cb abc_int1 (aba_cons (ab_call false (aba_cons (ab_var 0) aba_nil)) aba_nil)) (ab_op abr_ix (ab_lstP false (abp_cons (ab_int _) (abp_cons (ab_var 1) (abp_cons (ab_op abr_pow (ab_int _) (ab_int _)) abp_nil)))) (ab_op abr_sub (ab_var 2) (ab_int _)))) (ab_op (abr_mul false) (ab_op abr_div (ab_var 2) (ab_int _)) (ab_int _))) (ab_var 3))))) abs_next)
        (abs_seq (abs_asg (ab_rgL2 true (ab_int _) (ab_op (abr_add false) (ab_var 1) (ab_int _))) (abg_name 4))
        (abs_seq (abs_asg (ab_lstP true abp_nil) (abg_name 5))
        (abs_seq (abs_while (abt_test (ab_op abr_ne (ab_var 4) (ab_lstP false abp_nil)))
          (abs_drop (ab_bm abm_append (ab_var 5) (aba_cons (ab_bm abm_pop (ab_var 4) (aba_cons (ab_op abr_mod (ab_cb abc_int1 (aba_cons (ab_call false (aba_cons (ab_var 0) aba_nil)) aba_nil)) (ab_cb abc_len (aba_cons (ab_var 4) aba_nil))) aba_nil)) aba_nil))))
        (abs_ret (ab_var 5))))))), fun xs dr q h => ?_⟩)
  · obtain ⟨t, n, rfl, h1, h40, rfl, tb, k⟩ := h
    rfl
  · obtain ⟨t, n, rfl, h1, h40, rfl, tb, k⟩ := h
    have sz : sizeLine = 16777216 := sizeLine_eq
    refine ⟨_, rfl, rfl, t, rfl, rfl, by omega, fun r hr => ⟨(by decide : (0 : Int) < 4), ?_⟩⟩
    obtain ⟨kd, ek, k4⟩ : ∃ w : Int, r % 4 = w ∧ (0 ≤ w ∧ w ≤ 3) := ⟨r % 4, rfl, by omega⟩
    show gdName 2 (.d (.int (r % 4))) _ _
    rw [ek]
    refine ⟨_, rfl, ?_⟩
    show if decide (kd > 0) = true then _ else _
    refine ite2 (fun hk => ?_) (fun hk => ?_)
    · have hk := of_decide_eq_true hk
      refine ⟨⟨by decide, by decide, by decide⟩, ?_⟩
      refine ⟨_, rfl, rfl, t + 1, rfl, rfl, by omega, fun r2 hr2 => ⟨(by decide : (0 : Int) < 3), ?_⟩⟩
      obtain ⟨sc, es, hs⟩ := sc3 r2
      refine ⟨_, es, ?_⟩
      obtain ⟨md, em, m1, m6⟩ := md3 kd n (by omega) (by omega) h1 h40
      refine uLc_inv (fun i : Nat => .int (0 + (i : Nat))) (List.range n) ⟨[some .dr, some (.d (.int n)), some (.d (.int kd)), some (.d (.int sc)), none, none, none], [], some (t + 1 + 1)⟩ (fun i acc o dr => ∃ l : List Int, acc = l.map PyData.int ∧ l.length = i ∧ (∀ x ∈ l, Small x) ∧ o = [] ∧ dr = some (t + 1 + 1 + (i : Nat))) (fun R h => ⟨_, rfl, by omega, by omega, h⟩) ⟨[], rfl, rfl, (fun g h => by cases h), rfl, by simp⟩ ?_ ?_
      · rintro i x acc o dr hx ⟨l, rfl, hl, hsm, rfl, rfl⟩
        have hi := (List.getElem?_eq_some_iff.mp hx).1
        rw [List.length_range] at hi
        refine ⟨_, rfl, rfl, t + 1 + 1 + (i : Nat), rfl, rfl, by omega, fun r3 hr3 => ?_⟩
        refine ⟨_, rfl, ⟨by decide, by decide, by decide⟩, _, rfl, _, em, (by omega : (0 : Int) < md), ?_⟩
        have e1 := Int.emod_nonneg r3 (b := md) (by omega)
        have e2 := Int.emod_lt_of_pos r3 (b := md) (by omega)
        have e3 : 0 ≤ kd / 3 ∧ kd / 3 ≤ 1 := by omega
        refine ⟨_, rfl, ⟨by decide, by decide⟩, .inl ⟨by omega, by omega⟩, _, rfl, .inl ⟨by omega, by omega⟩, ?_⟩
        refine ⟨by rw [List.length_map, hl]; omega, _, rfl, l ++ [(r3 % md - kd / 3 * 500) * sc], by rw [List.map_append]; rfl, by rw [List.length_append, hl]; rfl, fun z hz => ?_, rfl, ?_⟩
        · rcases List.mem_append.mp hz with h | h
          · exact hsm z h
          · rw [List.mem_singleton.mp h]
            exact small_mul (by omega) hs
        · show some (t + 1 + 1 + (i : Int) + 1) = some (t + 1 + 1 + ((i + 1 : Nat) : Int))
          congr 1
          omega
      · rintro acc o dr ⟨l, rfl, hl, hsm, rfl, rfl⟩
        rw [List.length_range] at hl
        exact .inl ⟨_, _, rfl, rfl, k l _ hl hsm (by omega) (by rw [List.length_range]; omega)⟩
    · refine ⟨_, rfl, RgOk.of_le (by omega) (by omega) (by omega) (by omega), ?_⟩
      have ul : (upto 1 ((n : Int) + 1)).length = n := by rw [upto_len]; omega
      let I : Sd → Prop := fun s => ∃ (L T : List Int) (t' : Int), s = ⟨[some .dr, some (.d (.int n)), some (.d (.int kd)), none, some (.p 0), some (.p 1), none], [some (.lst ((iL L).map Vd.d)), some (.lst ((iL T).map Vd.d))], some t'⟩ ∧ L.length + T.length = n ∧ (∀ x ∈ L, Small x) ∧ (∀ x ∈ T, Small x) ∧ t' = t + 1 + (T.length : Nat)
      refine sWhile_by _ I (fun s => olen (s.o[0]?)) ⟨upto 1 ((n : Int) + 1), [], t + 1, rfl, by rw [ul]; rfl, fun x hx => ?_, (fun x hx => by cases hx), by simp⟩ ?_
      · have := upto_mem hx
        exact small_of (n := 40) (by omega) (by omega) (by omega)
      · rintro s ⟨L, T, t', rfl, hl, hL, hT, rfl⟩
        refine ⟨_, rfl, _, _, rfl, rfl, shaped_dL L, shaped_dL [], ?_⟩
        have eL : eqvI (.list (L.map PyData.int)) (.list ([].map PyData.int)) = decide (L = []) := eqvI_iL L []
        show if (true ^^ eqvI (.list (L.map PyData.int)) (.list ([].map PyData.int))) = true then _ else _
        rw [eL]
        by_cases z : L = []
        · subst z
          have hl' : T.length = n := by simpa using hl
          exact ⟨_, rfl, .inl ⟨_, _, rfl, rfl, k T _ hl' hT (by omega) (by omega)⟩⟩
        · rw [decide_eq_false z]
          have lp : 0 < L.length := List.length_pos_iff.mpr z
          refine ⟨_, rfl, ⟨_, _, rfl, rfl⟩, _, rfl, ⟨_, _, rfl, rfl⟩, _, rfl, rfl, t + 1 + (T.length : Nat), rfl, rfl, by omega, fun r2 hr2 => ?_⟩
          refine ⟨_, rfl, _, rfl, ?_⟩
          have ll : ((iL L).map Vd.d).length = L.length := by rw [List.length_map, iL_len]
          show (0 : Int) < (((iL L).map Vd.d).length : Int) ∧ _
          rw [ll]
          have e1 := Int.emod_nonneg r2 (b := (L.length : Int)) (by omega)
          have e2 := Int.emod_lt_of_pos r2 (b := (L.length : Int)) (by omega)
          have gz : ((iL L).map Vd.d)[(r2 % (L.length : Int)).toNat]? = some (.d (.int (L.getD (r2 % (L.length : Int)).toNat 0))) := by
            unfold iL
            rw [List.getElem?_map, List.getElem?_map, List.getD_eq_getElem?_getD, List.getElem?_eq_getElem (by omega)]
            rfl
          refine ⟨by omega, _, _, rfl, e1, by rw [ll]; omega, by rw [ll]; omega, gz, ?_⟩
          refine ⟨_, rfl, by rw [List.length_map, iL_len]; omega, ?_⟩
          show ∃ s4, Wk ⟨[some .dr, some (.d (.int n)), some (.d (.int kd)), none, some (.p 0), some (.p 1), none], [some (.lst (((iL L).map Vd.d).eraseIdx (r2 % (L.length : Int)).toNat)), some (.lst ((iL T).map Vd.d ++ [.d (.int (L.getD (r2 % (L.length : Int)).toNat 0))]))], some (t + 1 + (T.length : Nat) + 1)⟩ s4 ∧ _
          rw [erase_iL, snoc_iL]
          have le : (L.eraseIdx (r2 % (L.length : Int)).toNat).length = L.length - 1 := List.length_eraseIdx_of_lt (by omega)
          refine ⟨_, wk_r, ⟨L.eraseIdx (r2 % (L.length : Int)).toNat, T ++ [L.getD (r2 % (L.length : Int)).toNat 0], _, rfl, ?_, fun x hx => hL x (List.mem_of_mem_eraseIdx hx), fun x hx => ?_, ?_⟩, ?_⟩
          · rw [le, List.length_append]
            show L.length - 1 + (T.length + 1) = n
            omega
          · rcases List.mem_append.mp hx with h | h
            · exact hT x h
            · rw [List.mem_singleton.mp h, List.getD_eq_getElem?_getD, List.getElem?_eq_getElem (by omega)]
              exact hL _ (List.getElem_mem _)
          · rw [List.length_append]
            show t + 1 + (T.length : Int) + 1 = t + 1 + ((T.length + 1 : Nat) : Int)
            omega
          · show ((iL (L.eraseIdx (r2 % (L.length : Int)).toNat)).map Vd.d).length < ((iL L).map Vd.d).length
            rw [List.length_map, iL_len, ll, le]
            omega


end
end K51


set_option autoImplicit true
set_option Elab.async false
set_option linter.all false
set_option maxRecDepth 100000
set_option maxHeartbeats 8000000
namespace K51
open PySem PySem.Spec L2 Kt Dt
section
variable {P : Program} {w : Ww} {K : PySem.W.Frag} {mg : Str → Option Value} {base : Heap}
theorem enum_range (n : Nat) (g : Nat → PyData) : enumD ((List.range n).map g) = (List.range n).map fun i => .tuple [.int ((i : Nat) : Int), g i] := by
  unfold enumD pairsD
  rw [List.length_map, List.length_range]
  unfold intsR
  refine List.ext_getElem? fun i => ?_
  rw [List.getElem?_zipWith, List.getElem?_map, List.getElem?_map, List.getElem?_map]
  by_cases z : i < n
  · rw [List.getElem?_range z]
    show some (PyData.tuple [.int (0 + (i : Int)), g i]) = some (.tuple [.int (i : Int), g i])
    rw [Int.zero_add]
  · rw [List.getElem?_eq_none (by rw [List.length_range]; omega)]
    rfl
theorem line_upto (w i : Nat) : upto ((0 + (i : Int)) * (w : Int) + 1) ((0 + (i : Int) + 1) * (w : Int) + 1) = lineF w i := by
  have c1 : (0 + (i : Int)) * (w : Int) = ((i * w : Nat) : Int) := by rw [Int.zero_add]; exact (Int.natCast_mul i w).symm
  have c2 : (0 + (i : Int) + 1) * (w : Int) = (((i + 1) * w : Nat) : Int) := by rw [Int.zero_add]; exact (Int.natCast_mul (i + 1) w).symm
  have c3 : (i + 1) * w = i * w + w := Nat.succ_mul i w
  rw [c1, c2, c3]
  unfold upto lineF
  rw [show (((i * w + w : Nat) : Int) + 1 - (((i * w : Nat) : Int) + 1)).toNat = w by omega]
  refine List.map_congr_left fun c _ => ?_
  show ((i * w : Nat) : Int) + 1 + ((c : Nat) : Int) = ((i * w + c + 1 : Nat) : Int)
  omega
theorem step_ix (i : Nat) : atI [PyData.int 1, .int (-1)] (((i : Nat) : Int) % 2) = some (.int (if i % 2 = 1 then -1 else 1)) := by
  by_cases z : i % 2 = 1
  · rw [if_pos z, show (((i : Nat) : Int) % 2) = 1 by omega]
    rfl
  · rw [if_neg z, show (((i : Nat) : Int) % 2) = 0 by omega]
    rfl
theorem bent_turn (w i : Nat) : PyData.list (turnL (if i % 2 = 1 then (-1 : Int) else 1) ((lineF w i).map PyData.int)) = dL (bentL w i) := by
  unfold turnL bentL
  by_cases z : i % 2 = 1
  · rw [if_pos z, if_pos z, if_neg (by decide), ← List.map_reverse]
    rfl
  · rw [if_neg z, if_neg z, if_pos rfl]
    rfl
theorem line_at {w r c : Nat} (hc : c < w) : atI ((lineF w r).map PyData.int) (0 + (c : Int)) = some (.int (place w r c)) := by
  refine atI_of (by omega) ?_
  rw [show (0 + (c : Int)).toNat = c by omega]
  unfold lineF
  rw [List.map_map, List.getElem?_map, List.getElem?_range hc]
  rfl
theorem line_len (w r : Nat) : (lineF w r).length = w := by unfold lineF; rw [List.length_map, List.length_range]
theorem row_le {i h w : Nat} (hi : i < h) : i * w + w ≤ h * w := by rw [← Nat.succ_mul]; exact Nat.mul_le_mul_right w hi
def sp_law_parts : Spd := fun xs dr q => ∃ h w : Nat, xs = [.d (.int (h : Int)), .d (.int (w : Int))] ∧ 1 ≤ h ∧ 1 ≤ w ∧ h * w ≤ 40 ∧ q (.d (.tuple [dF (bentF h w), dF (downF h w)])) dr
abbrev s_law_parts : Stmt := tp 38
theorem sc_law_parts : FnScope ["high", "wide", "lines", "bent", "at", "line"] ["high", "wide"] (defScope s_law_parts) := ⟨rfl, rfl, rfl, by decide +kernel, rfl, by decide +kernel, by decide +kernel⟩
theorem ok_law_parts {f : Addr} {fd : FuncData} (F : Fun K "_law_parts" "_law_parts" s_law_parts f fd) (N : Nb mg) :
    FnD P w K mg base 1 f fd ["high", "wide"] sp_law_parts := by
  refine fnD_of F sc_law_parts (fun xs dr q h => ?_) (fun cdv A below s H hr gu => ⟨_, _, 
      (pss_cons (ps_set (i := 2) sc_law_parts.nd rfl (.inr rfl) (pe_lc (own := [("at", 4)]) (g := gName 4) (tt := tYes)  rfl sc_law_parts.nd (pi_range1 (by rfl) N.range (pa_cons (pv 0) pa_nil)) (blkOk_by (N := ["high", "wide", "lines", "bent", "at", "line"]) (sc := defScope s_law_parts) (by decide +kernel)) (fun _ _ _ _ _ => pg_name (i := 4) sc_law_parts.nd rfl (Or.inl rfl)) (fun _ _ _ _ _ => pts_nil) (fun _ _ _ _ _ => (pe_listRg rfl (by rfl) N.list (prg_2 (by rfl) N.range (pe_op op_addU (pe_op op_mulU (pv 4) (pv 1)) pe_int) (pe_op op_addU (pe_op op_mulU (pe_op op_addU (pv 4) pe_int) (pv 1)) pe_int))))))
        (pss_cons (ps_setLc (i := 3) (own := [("at", 4), ("line", 5)]) (g := gTup K 2 (gCons (gName 4) (gCons (gName 5) gNil))) (tt := tYes)  rfl sc_law_parts.nd rfl rfl (sw_true rfl rfl rfl (by decide +kernel)) (pi_enum (by rfl) N.enum (pa_cons (pv 2) pa_nil)) (blkOk_by (N := ["high", "wide", "lines", "bent", "at", "line"]) (sc := defScope s_law_parts) (by decide +kernel)) (fun _ _ _ _ _ => pg_tup (n := 2) rfl (pgs_cons (pg_name (i := 4) sc_law_parts.nd rfl (Or.inl rfl)) (pgs_cons (pg_name (i := 5) sc_law_parts.nd rfl (Or.inl rfl)) pgs_nil))) (fun _ _ _ _ _ => pts_nil) (fun _ _ _ _ _ => (pe_slS (pv 5) (pe_ix ix_seq (pe_lst (pa_cons pe_int (pa_cons (pe_un un_neg pe_int) pa_nil))) (pe_op op_mod (pv 4) pe_int) (fun _ _ => rfl)))))
        (pss_one (ps_ret (pe_tup (pa_cons (pv 3) (pa_cons (pe_lc (own := [("at", 4)]) (g := gName 4) (tt := tYes)  rfl sc_law_parts.nd (pi_range1 (by rfl) N.range (pa_cons (pv 1) pa_nil)) (blkOk_by (N := ["high", "wide", "lines", "bent", "at", "line"]) (sc := defScope s_law_parts) (by decide +kernel)) (fun _ _ _ _ _ => pg_name (i := 4) sc_law_parts.nd rfl (Or.inr rfl)) (fun _ _ _ _ _ => pts_nil) (fun _ _ _ _ _ => (pe_lc (own := [("line", 5)]) (g := gName 5) (tt := tYes)  rfl sc_law_parts.nd (pi_list (pv 2)) (blkOk_by (N := ["high", "wide", "lines", "bent", "at", "line"]) (sc := { kind := ScopeKind.function, names := [(Str.ofString ".0", NameKind.local), (Str.ofString "at", NameKind.cell), (Str.ofString "lines", NameKind.cell)], isGenerator := false, isCoroutine := false }) (by decide +kernel)) (fun _ _ _ _ _ => pg_name (i := 5) sc_law_parts.nd rfl (Or.inl rfl)) (fun _ _ _ _ _ => pts_nil) (fun _ _ _ _ _ => (pe_ix ix_seq (pv 5) (pv 4) (fun _ _ => rfl)))))) pa_nil))))))), 
      (abs_seq (abs_asg (ab_lc false (abi_rng1 (aba_cons (ab_var 0) aba_nil)) (abg_name 4) tgok_name abt_yes (ab_rgL2 false (ab_op (abr_add false) (ab_op (abr_mul false) (ab_var 4) (ab_var 1)) (ab_int _)) (ab_op (abr_add false) (ab_op (abr_mul false) (ab_op (abr_add false) (ab_var 4) (ab_int _)) (ab_var 1)) (ab_int _)))) (abg_name 2))
        (abs_seq (abs_asg (ab_lc false (abi_enum (aba_cons (ab_var 2) aba_nil)) (abg_tup (abgs_cons (abg_name 4) (abgs_cons (abg_name 5) abgs_nil))) (tgok_tup (tgsok_cons tgok_name mono_name (tgsok_cons tgok_name mono_name tgsok_nil))) abt_yes (ab_slS false (ab_var 5) (ab_op abr_ix (ab_lstP false (abp_cons (ab_int _) (abp_cons (ab_un abu_neg (ab_int _)) abp_nil))) (ab_op abr_mod (ab_var 4) (ab_int _))))) (abg_name 3))
        (abs_ret (ab_tupP (abp_cons (ab_var 3) (abp_cons (ab_lc false (abi_rng1 (aba_cons (ab_var 1) aba_nil)) (abg_name 4) tgok_name abt_yes (ab_lc false (abi_list (ab_var 2)) (abg_name 5) tgok_name abt_yes (ab_op abr_ix (ab_var 5) (ab_var 4)))) abp_nil)))))), fun xs dr q h => ?_⟩)
  · obtain ⟨h, w, rfl, h1, w1, h40, k⟩ := h
    rfl
  · obtain ⟨h, w, rfl, h1, w1, h40, k⟩ := h
    have sz : sizeLine = 16777216 := sizeLine_eq
    have le := le_of_mul h1 w1 h40
    let lin : PyData := .list ((List.range h).map fun r => dL (lineF w r))
    refine uLc_map (fun (i : Nat) => .int (0 + (i : Int))) (fun i => dL (lineF w i)) (List.range h) ⟨[some (.d (.int (h : Int))), some (.d (.int (w : Int))), none, none, none, none], [], dr⟩ (fun R h' => ⟨_, rfl, by omega, by omega, ?_⟩) (by rw [List.length_range]; omega) (fun i hi R R' hR => ?_) ?_
    · show R (intsR 0 ((h : Nat) : Int).toNat) _
      rw [Int.toNat_natCast]
      exact h'
    · have hi := List.mem_range.mp hi
      have rl := row_le (w := w) hi
      have c1 : (0 + (i : Int)) * (w : Int) = ((i * w : Nat) : Int) := by rw [Int.zero_add]; exact (Int.natCast_mul i w).symm
      have c2 : (0 + (i : Int) + 1) * (w : Int) = (((i + 1) * w : Nat) : Int) := by rw [Int.zero_add]; exact (Int.natCast_mul (i + 1) w).symm
      have c3 : (i + 1) * w = i * w + w := Nat.succ_mul i w
      rw [c3] at c2
      refine ⟨_, rfl, _, rfl, .inl ⟨by omega, by omega⟩, _, rfl, _, rfl, .inl ⟨by omega, by omega⟩, ⟨by omega, by omega, by omega, by omega⟩, ?_⟩
      show R (.d (.list ((upto ((0 + (i : Int)) * (w : Int) + 1) ((0 + (i : Int) + 1) * (w : Int) + 1)).map PyData.int))) _ _
      rw [line_upto]
      exact hR
    show sNext _ ⟨[some (.d (.int (h : Int))), some (.d (.int (w : Int))), some (.d lin), none, none, none], [], dr⟩
    refine uLc_map (fun (i : Nat) => .tuple [.int ((i : Nat) : Int), dL (lineF w i)]) (fun i => dL (bentL w i)) (List.range h) ⟨[some (.d (.int (h : Int))), some (.d (.int (w : Int))), some (.d lin), none, none, none], [], dr⟩ (fun R h' => ⟨_, rfl, ?_⟩) (by rw [List.length_range]; omega) (fun i hi R R' hR => ?_) ?_
    · show R (enumD ((List.range h).map fun r => dL (lineF w r))) _
      rw [enum_range]
      exact h'
    · refine ⟨rfl, _, rfl, _, rfl, by show (0 : Int) < 2; decide, _, step_ix i, ?_, ?_⟩
      · by_cases z : i % 2 = 1
        · rw [if_pos z]; exact .inr rfl
        · rw [if_neg z]; exact .inl rfl
      · show R (.d (.list (turnL (if i % 2 = 1 then (-1 : Int) else 1) ((lineF w i).map PyData.int)))) _ _
        rw [bent_turn]
        exact hR
    show sNext _ ⟨[some (.d (.int (h : Int))), some (.d (.int (w : Int))), some (.d lin), some (.d (.list ((List.range h).map fun i => dL (bentL w i)))), none, none], [], dr⟩
    refine ⟨_, rfl, ?_⟩
    refine uLc_map (fun (c : Nat) => .int (0 + (c : Int))) (fun c => dL (colF h w c)) (List.range w) ⟨[some (.d (.int (h : Int))), some (.d (.int (w : Int))), some (.d lin), some (.d (.list ((List.range h).map fun i => dL (bentL w i)))), none, none], [], dr⟩ (fun R h' => ⟨_, rfl, by omega, by omega, ?_⟩) (by rw [List.length_range]; omega) (fun c hc R R' hR => ?_) ?_
    · show R (intsR 0 ((w : Nat) : Int).toNat) _
      rw [Int.toNat_natCast]
      exact h'
    · have hc := List.mem_range.mp hc
      refine uLc_map (fun (r : Nat) => dL (lineF w r)) (fun r => .int (place w r c)) (List.range h) ⟨[some (.d (.int (h : Int))), some (.d (.int (w : Int))), some (.d lin), some (.d (.list ((List.range h).map fun i => dL (bentL w i)))), some (.d (.int (0 + (c : Int)))), none], [], dr⟩ (fun R h' => ⟨_, rfl, h'⟩) (by rw [List.length_range]; omega) (fun r hr R R' hR => ⟨_, rfl, _, rfl, _, line_at hc, hR⟩) ?_
      have e : ((List.range h).map fun r => PyData.int (place w r c)) = (colF h w c).map PyData.int := by
        unfold colF
        rw [List.map_map]
        rfl
      show R (.d (.list ((List.range h).map fun r => PyData.int (place w r c)))) _ _
      rw [e]
      exact hR
    have e1 : ((List.range h).map fun i => dL (bentL w i)) = (bentF h w).map dL := by
      unfold bentF
      rw [List.map_map]
      rfl
    have e2 : ((List.range w).map fun c => dL (colF h w c)) = (downF h w).map dL := by
      unfold downF
      rw [List.map_map]
      rfl
    show q (.d (.tuple [.list ((List.range h).map fun i => dL (bentL w i)), .list ((List.range w).map fun c => dL (colF h w c))])) dr
    rw [e1, e2]
    exact k
def sp_law_halvings : Spd := fun xs dr q => ∃ h : Nat, xs = [.d (.int (h : Int))] ∧ 1 ≤ h ∧ h ≤ 40 ∧ q (.d (.int ((halvings h : Nat) : Int))) dr
abbrev s_law_halvings : Stmt := tp 39
theorem sc_law_halvings : FnScope ["high", "told"] ["high"] (defScope s_law_halvings) := ⟨rfl, rfl, rfl, by decide +kernel, rfl, by decide +kernel, by decide +kernel⟩
theorem ok_law_halvings {f : Addr} {fd : FuncData} (F : Fun K "_law_halvings" "_law_halvings" s_law_halvings f fd) (N : Nb mg) :
    FnD P w K mg base 1 f fd ["high"] sp_law_halvings := by
  refine fnD_of F sc_law_halvings (fun xs dr q h => ?_) (fun cdv A below s H hr gu => ⟨_, _, 
      (pss_cons (ps_set (i := 1) sc_law_halvings.nd rfl (.inl rfl) pe_int)
        (pss_cons (ps_while PassesOwn.never (pt_cmpR op_gt (pv 0) pe_int (by first | rfl | exact nomark _))
          (pss_cons (ps_set (i := 0) sc_law_halvings.nd rfl (.inl rfl) (pe_op op_fdiv (pe_callTy call_int1 (by rfl) N.int (by decide +kernel) (pa_cons (pe_op op_addU (pv 0) pe_int) pa_nil)) pe_int))
          (pss_one (ps_set (i := 1) sc_law_halvings.nd rfl (.inl rfl) (pe_op op_addU (pv 1) pe_int)))))
        (pss_one (ps_ret (pv 1))))), 
      (abs_seq (abs_asg (ab_int _) (abg_name 1))
        (abs_seq (abs_while (abt_test (ab_op abr_gt (ab_var 0) (ab_int _)))
          (abs_seq (abs_asg (ab_op abr_div (ab_cb abc_int1 (aba_cons (ab_op (abr_add false) (ab_var 0) (ab_int _)) aba_nil)) (ab_int _)) (abg_name 0))
          (abs_asg (ab_op (abr_add false) (ab_var 1) (ab_int _)) (abg_name 1))))
        (abs_ret (ab_var 1)))), fun xs dr q h => ?_⟩)
  · obtain ⟨h, rfl, h1, h40, k⟩ := h
    rfl
  · obtain ⟨h, rfl, h1, h40, k⟩ := h
    let I : Sd → Prop := fun s => ∃ a b : Nat, s = ⟨[some (.d (.int (a : Int))), some (.d (.int (b : Int)))], [], dr⟩ ∧ 1 ≤ a ∧ a ≤ 40 ∧ b + halvings a = halvings h
    show sNext _ ⟨[some (.d (.int (h : Int))), some (.d (.int (((0 : Nat) : Nat) : Int)))], [], dr⟩
    refine sWhile_by _ I int0 ⟨h, 0, rfl, h1, h40, Nat.zero_add _⟩ ?_
    rintro s ⟨a, b, rfl, a1, a40, e⟩
    refine ⟨_, rfl, ?_⟩
    show if decide ((a : Int) > 1) = true then _ else _
    refine ite2 (fun z => ?_) (fun z => ?_)
    · have z := of_decide_eq_true z
      refine ⟨_, rfl, ⟨by decide, by decide⟩, _, rfl, ?_⟩
      have ea : ((a : Int) + 1) / 2 = (((a + 1) / 2 : Nat) : Int) := by omega
      have eb : (b : Int) + 1 = ((b + 1 : Nat) : Int) := by omega
      show ∃ s4, Wk ⟨[some (.d (.int (((a : Int) + 1) / 2))), some (.d (.int ((b : Int) + 1)))], [], dr⟩ s4 ∧ I s4 ∧ int0 s4 < ((a : Nat) : Int).toNat
      rw [ea, eb]
      refine ⟨_, wk_r, ⟨(a + 1) / 2, b + 1, rfl, by omega, by omega, ?_⟩, ?_⟩
      · rw [← e, halv_step (by omega) a40]
        omega
      · show (((a + 1) / 2 : Nat) : Int).toNat < ((a : Nat) : Int).toNat
        omega
    · have z : ¬ (a : Int) > 1 := fun y => z (decide_eq_true y)
      refine ⟨_, rfl, ?_⟩
      have : a = 1 := by omega
      subst this
      have e : b = halvings h := by rw [← e]; rfl
      rw [e]
      exact k
def inSnk (h w : Nat) (l : List Int) : Bool := decide ((snk h w).map (at1 l) = srt ((snk h w).map (at1 l)))
def sp_law_in_snake : Spd := fun xs dr q => ∃ (l : List Int) (h w : Nat), xs = [.d (dL l), .d (.int (h : Int)), .d (.int (w : Int))] ∧ 1 ≤ h ∧ 1 ≤ w ∧ h * w ≤ 40 ∧ l.length = h * w ∧ q (.d (.bool (inSnk h w l))) dr
abbrev s_law_in_snake : Stmt := tp 40
theorem sc_law_in_snake : FnScope ["load", "high", "wide", "told", "spot"] ["load", "high", "wide"] (defScope s_law_in_snake) := ⟨rfl, rfl, rfl, by decide +kernel, rfl, by decide +kernel, by decide +kernel⟩
theorem ok_law_in_snake {f : Addr} {fd : FuncData} (F : Fun K "_law_in_snake" "_law_in_snake" s_law_in_snake f fd) (N : Nb mg)
    (h_law_parts : Has P w K mg base "_law_parts" 1 ["high", "wide"] sp_law_parts) :
    FnD P w K mg base 2 f fd ["load", "high", "wide"] sp_law_in_snake := by
  refine fnD_of F sc_law_in_snake (fun xs dr q h => ?_) (fun cdv A below s H hr gu => ⟨_, _, 
      (pss_cons (ps_setLc (i := 3) (own := [("spot", 4)]) (g := gName 4) (tt := tYes)  rfl sc_law_in_snake.nd rfl rfl (sw_true rfl rfl rfl (by decide +kernel)) (pi_list (pe_callB (show CallR _ (.builtin "sum") (rSumL K) from cr_sumL rfl) (by rfl) N.sum (by decide +kernel) (pa_cons (pe_ix ix_seq (pe_callH h_law_parts (hr.mono (by decide)) gu (by rfl) (pa_cons (pv 1) (pa_cons (pv 2) pa_nil))) pe_int (fun _ _ => rfl)) (pa_cons (pe_lst pa_nil) pa_nil)))) (blkOk_by (N := ["load", "high", "wide", "told", "spot"]) (sc := defScope s_law_in_snake) (by decide +kernel)) (fun _ _ _ _ _ => pg_name (i := 4) sc_law_in_snake.nd rfl (Or.inl rfl)) (fun _ _ _ _ _ => pts_nil) (fun _ _ _ _ _ => (pe_ix ix_seq (pv 0) (pe_op op_sub (pv 4) pe_int) (fun _ _ => rfl))))
        (pss_one (ps_ret (pe_cmpR (op_eqU hr.units) (pv 3) (pe_callB cr_sortedI (by rfl) N.sorted (by decide +kernel) (pa_cons (pv 3) pa_nil)) (by first | rfl | exact nomark _))))), 
      (abs_seq (abs_asg (ab_lc false (abi_list (ab_cb abc_sumL (aba_cons (ab_op abr_ix (ab_call false (aba_cons (ab_var 1) (aba_cons (ab_var 2) aba_nil))) (ab_int _)) (aba_cons (ab_lstP false abp_nil) aba_nil)))) (abg_name 4) tgok_name abt_yes (ab_op abr_ix (ab_var 0) (ab_op abr_sub (ab_var 4) (ab_int _)))) (abg_name 3))
        (abs_ret (ab_op abr_eq (ab_var 3) (ab_cb (abc_sorted false) (aba_cons (ab_var 3) aba_nil))))), fun xs dr q h => ?_⟩)
  · obtain ⟨l, h, w, rfl, h1, w1, h40, hl, k⟩ := h
    rfl
  · obtain ⟨l, h, w, rfl, h1, w1, h40, hl, k⟩ := h
    have sz : sizeLine = 16777216 := sizeLine_eq
    have nl : (snk h w).length ≤ 40 := Nat.le_trans (nodup_le (h * w) (snk h w) (bent_valid h w).nd fun x hx => (bent_valid h w).rg x hx) h40
    have fe : ((bentF h w).map fun c => c.map PyData.int).flatten = (snk h w).map PyData.int := by
      show _ = ((bentF h w).flatten).map PyData.int
      rw [List.map_flatten]
    refine uLc_map PyData.int (fun x => .int (at1 l x)) (snk h w) ⟨[some (.d (dL l)), some (.d (.int (h : Int))), some (.d (.int (w : Int))), none, none], [], dr⟩ (fun R h' => ?_) (by omega) (fun x hx R R' hR => ?_) ?_
    · refine ⟨_, rfl, _, rfl, rfl, h, w, rfl, h1, w1, h40, _, rfl, (bentF h w).map (fun c => c.map PyData.int), by rw [List.map_map]; rfl, ?_, ?_⟩
      · rw [fe, List.length_map]
        omega
      · show R (((bentF h w).map fun c => c.map PyData.int).flatten) _
        rw [fe]
        exact h'
    · have r := (bent_valid h w).rg x hx
      rw [← hl] at r
      exact ⟨_, rfl, _, rfl, _, atI_ints r.1 r.2, hR⟩
    have e : ((snk h w).map fun x => PyData.int (at1 l x)) = ((snk h w).map (at1 l)).map PyData.int := by rw [List.map_map]; rfl
    show sNext _ ⟨[some (.d (dL l)), some (.d (.int (h : Int))), some (.d (.int (w : Int))), some (.d (.list ((snk h w).map fun x => PyData.int (at1 l x)))), none], [], dr⟩
    rw [e]
    refine ⟨_, rfl, _, rfl, _, rfl, ?_⟩
    refine ⟨shaped_dL _, shaped_dL _, ?_⟩
    show q (.d (.bool (false ^^ eqvI (.list (((snk h w).map (at1 l)).map PyData.int)) (.list ((srt ((snk h w).map (at1 l))).map PyData.int))))) dr
    rw [eqvI_iL, Bool.false_xor]
    exact k
theorem inSnk_iff {h w : Nat} {l : List Int} : inSnk h w l = true ↔ InSnake h w l := by
  unfold inSnk
  rw [decide_eq_true_iff]
  constructor
  · intro e
    have u := srt_up ((snk h w).map (at1 l))
    rw [← e] at u
    exact List.pairwise_map.mp u
  · intro s
    exact srt_of (List.Perm.refl _) (List.pairwise_map.mpr s)
theorem cut_line {l : List Int} {w i : Nat} (hi : i * w + w ≤ l.length) : PyData.list (cutA (l.map PyData.int) (some ((0 + (i : Int)) * (w : Int))) (some ((0 + (i : Int) + 1) * (w : Int)))) = dL ((lineF w i).map (at1 l)) := by
  have c1 : (0 + (i : Int)) * (w : Int) = ((i * w : Nat) : Int) := by rw [Int.zero_add]; exact (Int.natCast_mul i w).symm
  have c2 : (0 + (i : Int) + 1) * (w : Int) = (((i + 1) * w : Nat) : Int) := by rw [Int.zero_add]; exact (Int.natCast_mul (i + 1) w).symm
  have c3 : (i + 1) * w = i * w + w := Nat.succ_mul i w
  rw [c1, c2, c3]
  unfold cutA
  rw [HT.sIx_nat, HT.sIx_nat, List.length_map, Nat.min_eq_left (by omega), Nat.min_eq_left (by omega), show i * w + w - i * w = w by omega]
  unfold dL lineF
  congr 1
  rw [List.map_map, List.map_map]
  refine List.ext_getElem? fun c => ?_
  by_cases z : c < w
  · rw [List.getElem?_take_of_lt z, List.getElem?_drop, List.getElem?_map, List.getElem?_map, List.getElem?_range z, List.getElem?_eq_getElem (by omega)]
    have g := at1_get (load := l) (p := place w i c) (by unfold place; omega) (by unfold place; omega)
    unfold place at g
    rw [show (((i * w + c + 1 : Nat) : Int) - 1).toNat = i * w + c by omega, List.getElem?_eq_getElem (by omega)] at g
    show some (PyData.int l[i * w + c]) = some (PyData.int (at1 l (place w i c)))
    rw [Option.some.inj g]
    rfl
  · rw [List.getElem?_eq_none (by rw [List.length_take]; omega), List.getElem?_eq_none (by rw [List.length_map, List.length_range]; omega)]
def sp_law_both : Spd := fun xs dr q => ∃ (l : List Int) (h w : Nat), xs = [.d (dL l), .d (.int (h : Int)), .d (.int (w : Int))] ∧ 1 ≤ h ∧ 1 ≤ w ∧ h * w ≤ 40 ∧ l.length = h * w ∧ q (.d (.int ((both l h w : Nat) : Int))) dr
abbrev s_law_both : Stmt := tp 41
theorem sc_law_both : FnScope ["load", "high", "wide", "lines", "at", "line"] ["load", "high", "wide"] (defScope s_law_both) := ⟨rfl, rfl, rfl, by decide +kernel, rfl, by decide +kernel, by decide +kernel⟩
theorem ok_law_both {f : Addr} {fd : FuncData} (F : Fun K "_law_both" "_law_both" s_law_both f fd) (N : Nb mg) :
    FnD P w K mg base 1 f fd ["load", "high", "wide"] sp_law_both := by
  refine fnD_of F sc_law_both (fun xs dr q h => ?_) (fun cdv A below s H hr gu => ⟨_, _, 
      (pss_cons (ps_setLc (i := 3) (own := [("at", 4)]) (g := gName 4) (tt := tYes)  rfl sc_law_both.nd rfl rfl (sw_true rfl rfl rfl (by decide +kernel)) (pi_range1 (by rfl) N.range (pa_cons (pv 1) pa_nil)) (blkOk_by (N := ["load", "high", "wide", "lines", "at", "line"]) (sc := defScope s_law_both) (by decide +kernel)) (fun _ _ _ _ _ => pg_name (i := 4) sc_law_both.nd rfl (Or.inl rfl)) (fun _ _ _ _ _ => pts_nil) (fun _ _ _ _ _ => (pe_slice sl_list (pv 0) (po_some (pe_op op_mulU (pv 4) (pv 2))) (po_some (pe_op op_mulU (pe_op op_addU (pv 4) pe_int) (pv 2))))))
        (pss_one (ps_ret (pe_callB call_len_seq (by rfl) N.len PySem.boot_len (pa_cons (pe_lc (own := [("line", 5)]) (g := gName 5)  rfl sc_law_both.nd (pi_list (pv 3)) (blkOk_by (N := ["load", "high", "wide", "lines", "at", "line"]) (sc := defScope s_law_both) (by decide +kernel)) (fun _ _ _ _ _ => pg_name (i := 5) sc_law_both.nd rfl (Or.inl rfl)) (fun _ _ _ _ _ => pts_one (PW.pt (pw_and (pt_cmpR (show OpR _ (compareOp .In) (rIn K false) from op_in_seq) pe_int (pv 5) (by first | rfl | exact nomark _)) (pw_and1 (pt_cmpR (show OpR _ (compareOp .In) (rIn K false) from op_in_seq) pe_int (pv 5) (by first | rfl | exact nomark _)))))) (fun _ _ _ _ _ => (pv 5))) pa_nil))))), 
      (abs_seq (abs_asg (ab_lc false (abi_rng1 (aba_cons (ab_var 1) aba_nil)) (abg_name 4) tgok_name abt_yes (ab_sl false (ab_var 0) (ab_part (ab_op (abr_mul false) (ab_var 4) (ab_var 2))) (ab_part (ab_op (abr_mul false) (ab_op (abr_add false) (ab_var 4) (ab_int _)) (ab_var 2))))) (abg_name 3))
        (abs_ret (ab_cb abc_len (aba_cons (ab_lc false (abi_list (ab_var 3)) (abg_name 5) tgok_name (abt_and (abt_test (ab_op (abr_in false) (ab_int _) (ab_var 5))) (abt_test (ab_op (abr_in false) (ab_int _) (ab_var 5)))) (ab_var 5)) aba_nil)))), fun xs dr q h => ?_⟩)
  · obtain ⟨l, h, w, rfl, h1, w1, h40, hl, k⟩ := h
    rfl
  · obtain ⟨l, h, w, rfl, h1, w1, h40, hl, k⟩ := h
    have sz : sizeLine = 16777216 := sizeLine_eq
    have le := le_of_mul h1 w1 h40
    let ln : Nat → List Int := fun r => (lineF w r).map (at1 l)
    refine uLc_map (fun (i : Nat) => .int (0 + (i : Int))) (fun i => dL (ln i)) (List.range h) ⟨[some (.d (dL l)), some (.d (.int (h : Int))), some (.d (.int (w : Int))), none, none, none], [], dr⟩ (fun R h' => ⟨_, rfl, by omega, by omega, ?_⟩) (by rw [List.length_range]; omega) (fun i hi R R' hR => ?_) ?_
    · show R (intsR 0 ((h : Nat) : Int).toNat) _
      rw [Int.toNat_natCast]
      exact h'
    · have hi := List.mem_range.mp hi
      have rl := row_le (w := w) hi
      refine ⟨_, rfl, _, rfl, _, rfl, .inl ⟨by omega, by omega⟩, _, rfl, _, rfl, .inl ⟨by omega, by omega⟩, ?_⟩
      show R (.d (.list (cutA (l.map PyData.int) (some ((0 + (i : Int)) * (w : Int))) (some ((0 + (i : Int) + 1) * (w : Int)))))) _ _
      rw [cut_line (by omega)]
      exact hR
    show sNext _ ⟨[some (.d (dL l)), some (.d (.int (h : Int))), some (.d (.int (w : Int))), some (.d (.list ((List.range h).map fun i => dL (ln i)))), none, none], [], dr⟩
    refine uLc_src (fun (r : Nat) => dL (ln r)) (fun r => decide ((0 : Int) ∈ ln r) && decide ((1 : Int) ∈ ln r)) (fun r => dL (ln r)) (List.range h) ⟨[some (.d (dL l)), some (.d (.int (h : Int))), some (.d (.int (w : Int))), some (.d (.list ((List.range h).map fun i => dL (ln i)))), none, none], [], dr⟩ (fun R h' => ⟨_, rfl, h'⟩) (by rw [List.length_range]; omega) (fun r hr R R' hR hR' => ?_) ?_
    · refine ⟨_, rfl, ln r, rfl, ?_⟩
      show if decide ((0 : Int) ∈ ln r) = true then _ else _
      refine ite2 (fun z => ?_) (fun z => ?_)
      · refine ⟨_, rfl, ln r, rfl, ?_⟩
        show if decide ((1 : Int) ∈ ln r) = true then _ else _
        refine ite2 (fun z2 => ⟨_, rfl, hR (by rw [z, z2]; rfl)⟩) (fun z2 => hR' (by rw [z, Bool.eq_false_iff.mpr z2]; rfl))
      · exact hR' (by rw [Bool.eq_false_iff.mpr z]; rfl)
    · have e : (((List.range h).filter fun r => decide ((0 : Int) ∈ ln r) && decide ((1 : Int) ∈ ln r)).map fun r => dL (ln r)).length = both l h w := by
        rw [List.length_map, ← List.countP_eq_length_filter]
        unfold both
        refine List.countP_congr fun r hr => ?_
        have key : ∀ v : Int, (v ∈ ln r) ↔ ∃ c, c < w ∧ val l w r c = v := fun v => by
          show v ∈ (lineF w r).map (at1 l) ↔ _
          rw [List.mem_map]
          constructor
          · rintro ⟨x, hx, rfl⟩
            obtain ⟨c, hc, rfl⟩ := line_mem.mp hx
            exact ⟨c, hc, rfl⟩
          · rintro ⟨c, hc, rfl⟩
            exact ⟨_, line_mem.mpr ⟨c, hc, rfl⟩, rfl⟩
        rw [Bool.and_eq_true, Bool.and_eq_true, decide_eq_true_iff, decide_eq_true_iff, decide_eq_true_iff, decide_eq_true_iff, key, key]
      show q (.d (.int ((((List.range h).filter fun r => decide ((0 : Int) ∈ ln r) && decide ((1 : Int) ∈ ln r)).map fun r => dL (ln r)).length : Int))) dr
      rw [e]
      exact k
def sp_law_halved : Spd := fun xs dr q => ∃ (l : List Int) (h w : Nat), xs = [.d (dL l), .d (.int (h : Int)), .d (.int (w : Int))] ∧ 1 ≤ h ∧ 1 ≤ w ∧ h * w ≤ 40 ∧ l.length = h * w ∧ bits l ∧ q (.d (.bool true)) dr
abbrev s_law_halved : Stmt := tp 43
theorem sc_law_halved : FnScope ["load", "high", "wide", "bent", "down", "most", "turn"] ["load", "high", "wide"] (defScope s_law_halved) := ⟨rfl, rfl, rfl, by decide +kernel, rfl, by decide +kernel, by decide +kernel⟩
theorem ok_law_halved {f : Addr} {fd : FuncData} (F : Fun K "_law_halved" "_law_halved" s_law_halved f fd) (N : Nb mg)
    (h_law_both : Has P w K mg base "_law_both" 1 ["load", "high", "wide"] sp_law_both)
    (h_law_halvings : Has P w K mg base "_law_halvings" 1 ["high"] sp_law_halvings)
    (h_law_in_snake : Has P w K mg base "_law_in_snake" 2 ["load", "high", "wide"] sp_law_in_snake)
    (h_law_parts : Has P w K mg base "_law_parts" 1 ["high", "wide"] sp_law_parts)
    (h_law_sorted : Has P w K mg base "_law_sorted" 1 ["load", "lot"] sp_law_sorted) :
    FnD P w K mg base 3 f fd ["load", "high", "wide"] sp_law_halved := by
  refine fnD_of F sc_law_halved (fun xs dr q h => ?_) (fun cdv A below s H hr gu => ⟨_, _, 
      (pss_cons (ps_asg (pe_callH h_law_parts (hr.mono (by decide)) gu (by rfl) (pa_cons (pv 1) (pa_cons (pv 2) pa_nil))) (pg_tup (n := 2) rfl (pgs_cons (pg_name (i := 3) sc_law_halved.nd rfl (.inl rfl)) (pgs_cons (pg_name (i := 4) sc_law_halved.nd rfl (.inl rfl)) pgs_nil))))
        (pss_cons (ps_set (i := 5) sc_law_halved.nd rfl (.inl rfl) (pv 1))
        (pss_cons (ps_for PassesOwn.never rfl (pi_range1 (by rfl) N.range (pa_cons (pe_callH h_law_halvings (hr.mono (by decide)) gu (by rfl) (pa_cons (pv 1) pa_nil)) pa_nil)) (pg_name (i := 6) sc_law_halved.nd rfl (.inl rfl))
          (pss_cons (ps_set (i := 0) sc_law_halved.nd rfl (.inl rfl) (pe_callH h_law_sorted (hr.mono (by decide)) gu (by rfl) (pa_cons (pe_callH h_law_sorted (hr.mono (by decide)) gu (by rfl) (pa_cons (pv 0) (pa_cons (pv 3) pa_nil))) (pa_cons (pv 4) pa_nil))))
          (pss_cons (ps_set (i := 5) sc_law_halved.nd rfl (.inl rfl) (pe_op op_fdiv (pe_callTy call_int1 (by rfl) N.int (by decide +kernel) (pa_cons (pe_op op_addU (pv 5) pe_int) pa_nil)) pe_int))
          (pss_one (ps_if (pt_cmpR op_gt (pe_callH h_law_both (hr.mono (by decide)) gu (by rfl) (pa_cons (pv 0) (pa_cons (pv 1) (pa_cons (pv 2) pa_nil)))) (pv 5) (by first | rfl | exact nomark _)) (pss_one (ps_ret pe_bl)) pss_nil)))))
        (pss_one (ps_ret (pe_callH h_law_in_snake (hr.mono (by decide)) gu (by rfl) (pa_cons (pe_callH h_law_sorted (hr.mono (by decide)) gu (by rfl) (pa_cons (pv 0) (pa_cons (pv 3) pa_nil))) (pa_cons (pv 1) (pa_cons (pv 2) pa_nil))))))))), 
      (abs_seq (abs_asg (ab_call false (aba_cons (ab_var 1) (aba_cons (ab_var 2) aba_nil))) (abg_tup (abgs_cons (abg_name 3) (abgs_cons (abg_name 4) abgs_nil))))
        (abs_seq (abs_asg (ab_var 1) (abg_name 5))
        (abs_seq (abs_for (abi_rng1 (aba_cons (ab_call false (aba_cons (ab_var 1) aba_nil)) aba_nil)) (abg_name 6)
          (abs_seq (abs_asg (ab_call false (aba_cons (ab_call false (aba_cons (ab_var 0) (aba_cons (ab_var 3) aba_nil))) (aba_cons (ab_var 4) aba_nil))) (abg_name 0))
          (abs_seq (abs_asg (ab_op abr_div (ab_cb abc_int1 (aba_cons (ab_op (abr_add false) (ab_var 5) (ab_int _)) aba_nil)) (ab_int _)) (abg_name 5))
          (abs_if (abt_test (ab_op abr_gt (ab_call false (aba_cons (ab_var 0) (aba_cons (ab_var 1) (aba_cons (ab_var 2) aba_nil)))) (ab_var 5))) (abs_ret (ab_bl _)) abs_next))))
        (abs_ret (ab_call false (aba_cons (ab_call false (aba_cons (ab_var 0) (aba_cons (ab_var 3) aba_nil))) (aba_cons (ab_var 1) (aba_cons (ab_var 2) aba_nil)))))))), fun xs dr q h => ?_⟩)
  · obtain ⟨l, h, w, rfl, h1, w1, h40, hl, lb, k⟩ := h
    rfl
  · obtain ⟨l, h, w, rfl, h1, w1, h40, hl, lb, k⟩ := h
    have sz : sizeLine = 16777216 := sizeLine_eq
    have le := le_of_mul h1 w1 h40
    have hk := halv_ok h1 le.1
    have ro := rounds_ok hl lb w1
    have hv : ∀ i, halves h i ≤ 40 := fun i => by
      induction i with
      | zero => exact le.1
      | succ i ih =>
        show (halves h i + 1) / 2 ≤ 40
        omega
    refine ⟨_, rfl, _, rfl, rfl, h, w, rfl, h1, w1, h40, rfl, ?_⟩
    let S : Nat → Sd := fun i => ⟨[some (.d (dL (rounds h w l i))), some (.d (.int (h : Int))), some (.d (.int (w : Int))), some (.d (dF (bentF h w))), some (.d (dF (downF h w))), some (.d (.int ((halves h i : Nat) : Int))), none], [], dr⟩
    refine ⟨_, rfl, ?_⟩
    show sNext _ (S 0)
    refine sFor_inv (fun i : Nat => .int (0 + (i : Int))) (List.range (halvings h)) (S 0) (fun i s => i ≤ halvings h ∧ s = S i) (fun R h' => ⟨_, rfl, rfl, h, rfl, h1, le.1, ?_⟩) ⟨Nat.zero_le _, rfl⟩ (fun i x s hx hs => ?_) (fun s hs => ?_)
    · have := Nat.le_trans (halvF_le h h) le.1
      have : halvings h ≤ 40 := this
      refine ⟨by omega, by omega, ?_⟩
      show R (intsR 0 ((halvings h : Nat) : Int).toNat) _
      rw [Int.toNat_natCast]
      exact h'
    · obtain ⟨ih, rfl⟩ := hs
      have il : i < halvings h := by
        have := (List.getElem?_eq_some_iff.mp hx).1
        rw [List.length_range] at this
        exact this
      obtain ⟨rl, rb, _⟩ := ro i
      obtain ⟨rl', rb', s', hs', B⟩ := ro (i + 1)
      have bb := band_both B
      have hi := hv i
      have hi' := hv (i + 1)
      refine ⟨_, rfl, _, rfl, rfl, rounds h w l i, bentF h w, rfl, by rw [rl]; exact bent_valid h w, by omega, ?_⟩
      refine ⟨_, rfl, rfl, sortAlong (rounds h w l i) (bentF h w), downF h w, rfl, by rw [sortAlong_len, rl]; exact down_valid h w, by rw [sortAlong_len]; omega, ?_⟩
      refine ⟨_, rfl, ⟨by decide, by decide⟩, ?_⟩
      have eh : (((halves h i : Nat) : Int) + 1) / 2 = ((halves h (i + 1) : Nat) : Int) := by
        show _ = (((halves h i + 1) / 2 : Nat) : Int)
        omega
      show sNext _ ⟨[some (.d (dL (rounds h w l (i + 1)))), some (.d (.int (h : Int))), some (.d (.int (w : Int))), some (.d (dF (bentF h w))), some (.d (dF (downF h w))), some (.d (.int ((((halves h i : Nat) : Int) + 1) / 2))), some (.d (.int (0 + (x : Int))))], [], dr⟩
      rw [eh]
      refine ⟨_, rfl, _, rfl, _, rfl, rfl, rounds h w l (i + 1), h, w, rfl, h1, w1, h40, rl', _, rfl, ?_⟩
      show if decide (((both (rounds h w l (i + 1)) h w : Nat) : Int) > ((halves h (i + 1) : Nat) : Int)) = true then _ else _
      refine ite2 (fun z => ?_) (fun z => ?_)
      · have z := of_decide_eq_true z
        omega
      · exact ⟨_, wk_r, il, rfl⟩
    · obtain ⟨_, rfl⟩ := hs
      rw [List.length_range]
      obtain ⟨rl, rb, _⟩ := ro (halvings h)
      refine ⟨_, rfl, _, rfl, rfl, rounds h w l (halvings h), bentF h w, rfl, by rw [rl]; exact bent_valid h w, by omega, ?_⟩
      refine ⟨_, rfl, _, rfl, rfl, sortAlong (rounds h w l (halvings h)) (bentF h w), h, w, rfl, h1, w1, h40, by rw [sortAlong_len]; exact rl, ?_⟩
      rw [inSnk_iff.mpr (Tk_end h1 w1 le.1 l hl lb)]
      exact k

end
end K51


set_option autoImplicit true
set_option Elab.async false
set_option linter.all false
set_option maxRecDepth 100000
set_option maxHeartbeats 8000000
namespace K51
open PySem PySem.Spec L2 Kt Dt
section
variable {P : Program} {w : Ww} {K : PySem.W.Frag} {mg : Str → Option Value} {base : Heap}
theorem shw_of {D m : Nat} {d : PyData} (h : Ok D m d) (hD : D ≤ 60) (hm : m ≤ sizeLine) : Shw d := ⟨h.shw, h.nod, Nat.le_trans h.dep hD, Nat.le_trans h.len hm⟩
theorem strs_same {s : Str} {a b : Prop} (h : b) : if (true ^^ decide (s = s)) = true then a else b := by
  rw [decide_eq_true rfl]
  exact h
theorem shaped_dF (l : List (List Int)) (n : Nat) (hl : ∀ x ∈ l, x.length = n ∧ bits x) : SeqAt.shaped (dF l) = true := by
  have z := ok_list (D := 1) (m := n * 64 + 3) (ds := l.map dL) fun d hd => by
    obtain ⟨x, hx, rfl⟩ := List.mem_map.mp hd
    exact ok_dL (n := n) (by rw [(hl x hx).1]; exact Nat.le_refl _) fun v hv => by
      rcases (hl x hx).2 v hv with rfl | rfl
      · unfold Small; decide
      · unfold Small; decide
  unfold SeqAt.shaped
  show (PyData.canLay0 (.list (l.map dL)) && decide (PyData.depth (.list (l.map dL)) ≤ _)) = true
  rw [z.lay, Bool.true_and]
  exact decide_eq_true (Nat.le_trans z.dep (by decide))
theorem eqv_dF_nil (l : List (List Int)) : eqvI (dF l) (.list []) = decide (l = []) := by
  rw [eqvI_eq]
  unfold dF
  rw [PyData.eqv]
  cases l with
  | nil => rw [List.map_nil, PyData.eqvAll]; rfl
  | cons x l => rw [List.map_cons, PyData.eqvAll]; rfl
/-- the filling of a number, its places from the last one -/
def lod (n m : Nat) : List Int := (List.range n).map fun (i : Nat) => (0 + (m : Int)) / 2 ^ ((0 : Int) + (i : Int)).toNat % 2
theorem lod_len (n m : Nat) : (lod n m).length = n := by unfold lod; rw [List.length_map, List.length_range]
theorem lod_rev (n m : Nat) : lod n m = (fil n m).reverse := by
  refine List.ext_getElem? fun i => ?_
  by_cases z : i < n
  · rw [List.getElem?_reverse (by rw [fil_len]; exact z), fil_len]
    unfold lod fil
    rw [List.getElem?_map, List.getElem?_map, List.getElem?_range z, List.getElem?_range (by omega)]
    show some ((0 + (m : Int)) / 2 ^ ((0 : Int) + (i : Int)).toNat % 2) = some (if m.testBit (n - 1 - (n - 1 - i)) = true then (1 : Int) else 0)
    rw [show n - 1 - (n - 1 - i) = i by omega, Int.zero_add, show ((0 : Int) + (i : Int)).toNat = i by omega, Nat.testBit_eq_decide_div_mod_eq]
    have e : ((m : Int) / 2 ^ i % 2) = ((m / 2 ^ i % 2 : Nat) : Int) := by
      rw [Int.natCast_emod, Int.natCast_ediv, Int.natCast_pow]
      rfl
    rw [e]
    by_cases q : m / 2 ^ i % 2 = 1
    · rw [q, if_pos (decide_eq_true rfl)]
      rfl
    · rw [if_neg (by rw [decide_eq_false q]; decide), show m / 2 ^ i % 2 = 0 by omega]
      rfl
  · rw [List.getElem?_eq_none (by rw [lod_len]; omega), List.getElem?_eq_none (by rw [List.length_reverse, fil_len]; omega)]
theorem lod_bits (n m : Nat) : bits (lod n m) := fun x hx => by
  rw [lod_rev, List.mem_reverse] at hx
  exact fil_bits n m x hx
theorem lod_onto {n : Nat} {b : List Int} (hl : b.length = n) (hb : bits b) : ∃ m, m < 2 ^ n ∧ lod n m = b := by
  obtain ⟨m, hm, e⟩ := fil_onto (n := n) (b := b.reverse) (by rw [List.length_reverse]; exact hl) fun x hx => hb x (List.mem_reverse.mp hx)
  exact ⟨m, hm, by rw [lod_rev, e, List.reverse_reverse]⟩
def lods (n : Nat) : List (List Int) := (List.range (2 ^ n)).map (lod n)
theorem lods_all {h w k : Nat} : (∀ b ∈ lods (h * w), inSnk h w (sortAlong (rounds h w b k) (bentF h w)) = true) ↔ Tk h w k := by
  constructor
  · intro t b hl hb
    obtain ⟨m, hm, rfl⟩ := lod_onto hl hb
    exact inSnk_iff.mp (t _ (List.mem_map.mpr ⟨m, List.mem_range.mpr hm, rfl⟩))
  · intro t b hb
    obtain ⟨m, hm, rfl⟩ := List.mem_map.mp hb
    exact inSnk_iff.mpr (t _ (lod_len _ _) (lod_bits _ _))
open Classical in
/-- the least turn below i that is good -/
noncomputable def leastTo (p : Nat → Prop) : Nat → Option Nat
  | 0 => none
  | i + 1 => match leastTo p i with
    | some j => some j
    | none => if p i then some i else none
open Classical in
theorem least_ok (p : Nat → Prop) : ∀ i, match leastTo p i with
    | some j => j < i ∧ p j ∧ ∀ j', j' < j → ¬ p j'
    | none => ∀ j, j < i → ¬ p j
  | 0 => fun j h => by omega
  | i + 1 => by
    have ih := least_ok p i
    show match (match leastTo p i with
      | some j => some j
      | none => if p i then some i else none) with
    | some j => j < i + 1 ∧ p j ∧ ∀ j', j' < j → ¬ p j'
    | none => ∀ j, j < i + 1 → ¬ p j
    generalize leastTo p i = o at ih
    cases o with
    | some j => exact ⟨Nat.lt_succ_of_lt ih.1, ih.2⟩
    | none =>
      by_cases z : p i
      · simp only [if_pos z]
        exact ⟨Nat.lt_succ_self i, z, fun j h => ih j h⟩
      · simp only [if_neg z]
        exact fun j h => if e : j = i then by rw [e]; exact z else ih j (by omega)
def optD : Option Nat → PyData
  | some j => .int (j : Int)
  | none => .none
def sp_law_small_right : Spd := fun xs dr q => ∃ (h w : Nat), xs = [.d (.int (h : Int)), .d (.int (w : Int))] ∧ 1 ≤ h ∧ 1 ≤ w ∧ h * w ≤ 10 ∧ q (.d (.bool true)) dr
abbrev s_law_small_right : Stmt := tp 44
theorem sc_law_small_right : FnScope ["high", "wide", "bent", "down", "every", "loads", "least", "turn", "bad", "told", "marks", "at", "load"] ["high", "wide"] (defScope s_law_small_right) := ⟨rfl, rfl, rfl, by decide +kernel, rfl, by decide +kernel, by decide +kernel⟩
theorem ok_law_small_right {f : Addr} {fd : FuncData} (F : Fun K "_law_small_right" "_law_small_right" s_law_small_right f fd) (N : Nb mg)
    (h_law_halved : Has P w K mg base "_law_halved" 3 ["load", "high", "wide"] sp_law_halved)
    (h_law_halvings : Has P w K mg base "_law_halvings" 1 ["high"] sp_law_halvings)
    (h_law_in_snake : Has P w K mg base "_law_in_snake" 2 ["load", "high", "wide"] sp_law_in_snake)
    (h_law_parts : Has P w K mg base "_law_parts" 1 ["high", "wide"] sp_law_parts)
    (h_law_sorted : Has P w K mg base "_law_sorted" 1 ["load", "lot"] sp_law_sorted)
    (hfewest_rounds : Has P w K mg base "fewest_rounds" 8 ["rows", "columns"] spfewest_rounds)
    (hkfewest_rounds_1_0 : HasK P w K mg base "fewest_rounds" 8 ["rows", "columns"] ["columns", "rows"] (kwp 2 [1, 0]) (kwp 2 [1, 0]) spfewest_rounds) :
    FnD P w K mg base 9 f fd ["high", "wide"] sp_law_small_right := by
  refine fnD_of F sc_law_small_right (fun xs dr q h => ?_) (fun cdv A below s H hr gu => ⟨_, _, 
      (pss_cons (ps_asg (pe_callH h_law_parts (hr.mono (by decide)) gu (by rfl) (pa_cons (pv 0) (pa_cons (pv 1) pa_nil))) (pg_tup (n := 2) rfl (pgs_cons (pg_name (i := 2) sc_law_small_right.nd rfl (.inr rfl)) (pgs_cons (pg_name (i := 3) sc_law_small_right.nd rfl (.inr rfl)) pgs_nil))))
        (pss_cons (ps_set (i := 4) sc_law_small_right.nd rfl (.inr rfl) (pe_op op_mulU (pv 0) (pv 1)))
        (pss_cons (ps_setLc (i := 5) (own := [("marks", 10)]) (g := gName 10) (tt := tYes)  rfl sc_law_small_right.nd rfl rfl (sw_true rfl rfl rfl (by decide +kernel)) (pi_range1 (by rfl) N.range (pa_cons (pe_op op_shl pe_int (pv 4)) pa_nil)) (blkOk_by (N := ["high", "wide", "bent", "down", "every", "loads", "least", "turn", "bad", "told", "marks", "at", "load"]) (sc := defScope s_law_small_right) (by decide +kernel)) (fun _ _ _ _ _ => pg_name (i := 10) sc_law_small_right.nd rfl (Or.inr rfl)) (fun _ _ _ _ _ => pts_nil) (fun _ _ _ _ _ => (pe_lc (own := [("at", 11)]) (g := gName 11) (tt := tYes)  rfl sc_law_small_right.nd (pi_range1 (by rfl) N.range (pa_cons (pv 4) pa_nil)) (blkOk_by (N := ["high", "wide", "bent", "down", "every", "loads", "least", "turn", "bad", "told", "marks", "at", "load"]) (sc := { kind := ScopeKind.function, names := [(Str.ofString ".0", NameKind.local), (Str.ofString "marks", NameKind.cell), (Str.ofString "range", NameKind.globalImplicit), (Str.ofString "every", NameKind.cell)], isGenerator := false, isCoroutine := false }) (by decide +kernel)) (fun _ _ _ _ _ => pg_name (i := 11) sc_law_small_right.nd rfl (Or.inl rfl)) (fun _ _ _ _ _ => pts_nil) (fun _ _ _ _ _ => (pe_op op_mod (pe_callTy call_int1 (by rfl) N.int (by decide +kernel) (pa_cons (pe_op op_shr (pv 10) (pv 11)) pa_nil)) pe_int)))))
        (pss_cons (ps_if (pt_cmpR (op_neU hr.units) (pe_lc (own := [("load", 12)]) (g := gName 12)  rfl sc_law_small_right.nd (pi_list (pv 5)) (blkOk_by (N := ["high", "wide", "bent", "down", "every", "loads", "least", "turn", "bad", "told", "marks", "at", "load"]) (sc := defScope s_law_small_right) (by decide +kernel)) (fun _ _ _ _ _ => pg_name (i := 12) sc_law_small_right.nd rfl (Or.inl rfl)) (fun _ _ _ _ _ => pts_one (pt_not (pt_val (pe_callH h_law_halved (hr.mono (by decide)) gu (by rfl) (pa_cons (pv 12) (pa_cons (pv 0) (pa_cons (pv 1) pa_nil))))))) (fun _ _ _ _ _ => (pv 12))) (pe_lst pa_nil) (by first | rfl | exact nomark _)) (pss_one (ps_ret pe_bl)) pss_nil)
        (pss_cons (ps_set (i := 6) sc_law_small_right.nd rfl (.inl rfl) pe_non)
        (pss_cons (ps_for PassesOwn.never rfl (pi_range1 (by rfl) N.range (pa_cons (pe_op op_addU (pe_callH h_law_halvings (hr.mono (by decide)) gu (by rfl) (pa_cons (pv 0) pa_nil)) pe_int) pa_nil)) (pg_name (i := 7) sc_law_small_right.nd rfl (.inl rfl))
          (pss_cons (ps_setLc (i := 5) (own := [("load", 12)]) (g := gName 12) (tt := tYes)  rfl sc_law_small_right.nd rfl rfl (sw_true rfl rfl rfl (by decide +kernel)) (pi_list (pv 5)) (blkOk_by (N := ["high", "wide", "bent", "down", "every", "loads", "least", "turn", "bad", "told", "marks", "at", "load"]) (sc := defScope s_law_small_right) (by decide +kernel)) (fun _ _ _ _ _ => pg_name (i := 12) sc_law_small_right.nd rfl (Or.inl rfl)) (fun _ _ _ _ _ => pts_nil) (fun _ _ _ _ _ => (pe_callH h_law_sorted (hr.mono (by decide)) gu (by rfl) (pa_cons (pv 12) (pa_cons (pv 2) pa_nil)))))
          (pss_cons (ps_setLc (i := 8) (own := [("load", 12)]) (g := gName 12)  rfl sc_law_small_right.nd rfl rfl (sw_true rfl rfl rfl (by decide +kernel)) (pi_list (pv 5)) (blkOk_by (N := ["high", "wide", "bent", "down", "every", "loads", "least", "turn", "bad", "told", "marks", "at", "load"]) (sc := defScope s_law_small_right) (by decide +kernel)) (fun _ _ _ _ _ => pg_name (i := 12) sc_law_small_right.nd rfl (Or.inl rfl)) (fun _ _ _ _ _ => pts_one (pt_not (pt_val (pe_callH h_law_in_snake (hr.mono (by decide)) gu (by rfl) (pa_cons (pv 12) (pa_cons (pv 0) (pa_cons (pv 1) pa_nil))))))) (fun _ _ _ _ _ => (pv 12)))
          (pss_cons (ps_set (i := 6) sc_law_small_right.nd rfl (.inl rfl) (pe_ifExp (PW.pt (pw_and (pt_cmpR op_isN (pv 6) pe_non (by first | rfl | exact nomark _)) (pw_and1 (pt_cmpR (op_eqU hr.units) (pv 8) (pe_lst pa_nil) (by first | rfl | exact nomark _))))) (pv 7) (pv 6)))
          (pss_one (ps_setLc (i := 5) (own := [("load", 12)]) (g := gName 12) (tt := tYes)  rfl sc_law_small_right.nd rfl rfl (sw_true rfl rfl rfl (by decide +kernel)) (pi_list (pv 5)) (blkOk_by (N := ["high", "wide", "bent", "down", "every", "loads", "least", "turn", "bad", "told", "marks", "at", "load"]) (sc := defScope s_law_small_right) (by decide +kernel)) (fun _ _ _ _ _ => pg_name (i := 12) sc_law_small_right.nd rfl (Or.inl rfl)) (fun _ _ _ _ _ => pts_nil) (fun _ _ _ _ _ => (pe_callH h_law_sorted (hr.mono (by decide)) gu (by rfl) (pa_cons (pv 12) (pa_cons (pv 3) pa_nil))))))))))
        (pss_cons (ps_set (i := 9) sc_law_small_right.nd rfl (.inl rfl) (pe_lst (pa_cons (pe_callH hfewest_rounds (hr.mono (by decide)) gu (by rfl) (pa_cons (pv 0) (pa_cons (pv 1) pa_nil))) (pa_cons (pe_callHK hkfewest_rounds_1_0 (hr.mono (by decide)) gu (by rfl) (pk_cons (pv 1) (pk_cons (pv 0) pk_nil))) pa_nil))))
        (pss_one (ps_ret (pe_and (pe_cmpR op_notN (pv 6) pe_non (by first | rfl | exact nomark _)) (pe_one (pe_cmpR (op_eqU hr.units) (pe_callB (cr_reprU gu hr.units) (by rfl) N.repr (by decide +kernel) (pa_cons (pv 9) pa_nil)) (pe_callB (cr_reprU gu hr.units) (by rfl) N.repr (by decide +kernel) (pa_cons (pe_lst (pa_cons (pv 6) (pa_cons (pv 6) pa_nil))) pa_nil)) (by first | rfl | exact nomark _))))))))))))), 
      (abs_seq (abs_asg (ab_call false (aba_cons (ab_var 0) (aba_cons (ab_var 1) aba_nil))) (abg_tup (abgs_cons (abg_name 2) (abgs_cons (abg_name 3) abgs_nil))))
        (abs_seq (abs_asg (ab_op (abr_mul false) (ab_var 0) (ab_var 1)) (abg_name 4))
        (abs_seq (abs_asg (ab_lc false (abi_rng1 (aba_cons (ab_op abr_shl (ab_int _) (ab_var 4)) aba_nil)) (abg_name 10) tgok_name abt_yes (ab_lc false (abi_rng1 (aba_cons (ab_var 4) aba_nil)) (abg_name 11) tgok_name abt_yes (ab_op abr_mod (ab_cb abc_int1 (aba_cons (ab_op abr_shr (ab_var 10) (ab_var 11)) aba_nil)) (ab_int _)))) (abg_name 5))
        (abs_seq (abs_if (abt_test (ab_op abr_ne (ab_lc false (abi_list (ab_var 5)) (abg_name 12) tgok_name (abt_not (abt_val (ab_call false (aba_cons (ab_var 12) (aba_cons (ab_var 0) (aba_cons (ab_var 1) aba_nil)))))) (ab_var 12)) (ab_lstP false abp_nil))) (abs_ret (ab_bl _)) abs_next)
        (abs_seq (abs_asg ab_non (abg_name 6))
        (abs_seq (abs_for (abi_rng1 (aba_cons (ab_op (abr_add false) (ab_call false (aba_cons (ab_var 0) aba_nil)) (ab_int _)) aba_nil)) (abg_name 7)
          (abs_seq (abs_asg (ab_lc false (abi_list (ab_var 5)) (abg_name 12) tgok_name abt_yes (ab_call false (aba_cons (ab_var 12) (aba_cons (ab_var 2) aba_nil)))) (abg_name 5))
          (abs_seq (abs_asg (ab_lc false (abi_list (ab_var 5)) (abg_name 12) tgok_name (abt_not (abt_val (ab_call false (aba_cons (ab_var 12) (aba_cons (ab_var 0) (aba_cons (ab_var 1) aba_nil)))))) (ab_var 12)) (abg_name 8))
          (abs_seq (abs_asg (ab_if (abt_and (abt_test (ab_op abr_isN (ab_var 6) ab_non)) (abt_test (ab_op abr_eq (ab_var 8) (ab_lstP false abp_nil)))) (ab_var 7) (ab_var 6)) (abg_name 6))
          (abs_asg (ab_lc false (abi_list (ab_var 5)) (abg_name 12) tgok_name abt_yes (ab_call false (aba_cons (ab_var 12) (aba_cons (ab_var 3) aba_nil)))) (abg_name 5))))))
        (abs_seq (abs_asg (ab_lstP false (abp_cons (ab_call false (aba_cons (ab_var 0) (aba_cons (ab_var 1) aba_nil))) (abp_cons (ab_callHK false (aba_cons (ab_var 1) (aba_cons (ab_var 0) aba_nil))) abp_nil))) (abg_name 9))
        (abs_ret (ab_andV (ab_op abr_notN (ab_var 6) ab_non) (ab_op abr_eq (ab_cb abc_reprU (aba_cons (ab_var 9) aba_nil)) (ab_cb abc_reprU (aba_cons (ab_lstP false (abp_cons (ab_var 6) (abp_cons (ab_var 6) abp_nil))) aba_nil)))))))))))), fun xs dr q h => ?_⟩)
  · obtain ⟨h, w, rfl, h1, w1, h10, k⟩ := h
    rfl
  · obtain ⟨h, w, rfl, h1, w1, h10, k⟩ := h
    have sz : sizeLine = 16777216 := sizeLine_eq
    have le := le_of_mul h1 w1 h10
    have h40 : h * w ≤ 40 := by omega
    have ph : ((h : Int) * (w : Int)) = ((h * w : Nat) : Int) := (Int.natCast_mul h w).symm
    have two : (2 : Nat) ^ (h * w) ≤ 2 ^ 10 := Nat.pow_le_pow_right (by decide) h10
    have l10 : (2 : Nat) ^ 10 = 1024 := by decide
    have b0 : (0 : Int) ≤ ((2 ^ (h * w) : Nat) : Int) := Int.natCast_nonneg _
    have b1 : ((2 ^ (h * w) : Nat) : Int) ≤ 1024 := Int.ofNat_le.mpr (by rw [l10] at two; exact two)
    have hv := Nat.le_trans (halvF_le h h) le.1
    have hv : halvings h ≤ 10 := hv
    refine ⟨_, rfl, _, rfl, rfl, h, w, rfl, h1, w1, h40, rfl, ?_⟩
    refine ⟨_, rfl, _, rfl, .inl ⟨by omega, by omega⟩, ?_⟩
    let S : List (List Int) → PyData → Sd := fun L o => ⟨[some (.d (.int (h : Int))), some (.d (.int (w : Int))), some (.d (dF (bentF h w))), some (.d (dF (downF h w))), some (.d (.int ((h * w : Nat) : Int))), some (.d (dF L)), some (.d o), none, none, none, none, none, none], [], dr⟩
    let S0 : Sd := ⟨[some (.d (.int (h : Int))), some (.d (.int (w : Int))), some (.d (dF (bentF h w))), some (.d (dF (downF h w))), some (.d (.int ((h * w : Nat) : Int))), none, none, none, none, none, none, none, none], [], dr⟩
    show sNext _ ⟨[some (.d (.int (h : Int))), some (.d (.int (w : Int))), some (.d (dF (bentF h w))), some (.d (dF (downF h w))), some (.d (.int ((h : Int) * (w : Int)))), none, none, none, none, none, none, none, none], [], dr⟩
    rw [ph]
    show sNext _ S0
    refine uLc_map (fun (m : Nat) => .int (0 + (m : Int))) (fun m => dL (lod (h * w) m)) (List.range (2 ^ (h * w))) S0 (fun R h' => ⟨_, rfl, ⟨by omega, by omega, by decide⟩, ?_⟩) (by rw [List.length_range]; omega) (fun m hm R R' hR => ?_) ?_
    · show -(2 ^ 62) ≤ ((1 : Int) * 2 ^ (((h * w : Nat) : Int)).toNat) ∧ ((1 : Int) * 2 ^ (((h * w : Nat) : Int)).toNat) < 2 ^ 62 ∧ R (intsR 0 (((1 : Int) * 2 ^ (((h * w : Nat) : Int)).toNat)).toNat) _
      rw [shl_one, Int.toNat_natCast]
      exact ⟨by omega, by omega, h'⟩
    · refine uLc_map (fun (i : Nat) => .int (0 + (i : Int))) (fun i => .int ((0 + (m : Int)) / 2 ^ ((0 : Int) + (i : Int)).toNat % 2)) (List.range (h * w)) ⟨[some (.d (.int (h : Int))), some (.d (.int (w : Int))), some (.d (dF (bentF h w))), some (.d (dF (downF h w))), some (.d (.int ((h * w : Nat) : Int))), none, none, none, none, none, some (.d (.int (0 + (m : Int)))), none, none], [], dr⟩ (fun R h' => ⟨_, rfl, by omega, by omega, ?_⟩) (by rw [List.length_range]; omega) (fun i hi R R' hR => ?_) ?_
      · show R (intsR 0 ((h * w : Nat) : Int).toNat) _
        rw [Int.toNat_natCast]
        exact h'
      · exact ⟨_, rfl, _, rfl, by show (0 : Int) ≤ 0 + (i : Int); omega, by show (0 : Int) < 2; decide, hR⟩
      · have e : ((List.range (h * w)).map fun (i : Nat) => PyData.int ((0 + (m : Int)) / 2 ^ ((0 : Int) + (i : Int)).toNat % 2)) = (lod (h * w) m).map PyData.int := by
          unfold lod
          rw [List.map_map]
          rfl
        show R (.d (.list ((List.range (h * w)).map fun (i : Nat) => PyData.int ((0 + (m : Int)) / 2 ^ ((0 : Int) + (i : Int)).toNat % 2)))) _ _
        rw [e]
        exact hR
    have e0 : ((List.range (2 ^ (h * w))).map fun m => dL (lod (h * w) m)) = (lods (h * w)).map dL := by
      unfold lods
      rw [List.map_map]
      rfl
    have Ll : (lods (h * w)).length ≤ 1024 := by
      unfold lods
      rw [List.length_map, List.length_range]
      omega
    have Lb : ∀ b ∈ lods (h * w), b.length = h * w ∧ bits b := fun b hb => by
      obtain ⟨m, hm, rfl⟩ := List.mem_map.mp hb
      exact ⟨lod_len _ _, lod_bits _ _⟩
    show sNext _ ⟨[some (.d (.int (h : Int))), some (.d (.int (w : Int))), some (.d (dF (bentF h w))), some (.d (dF (downF h w))), some (.d (.int ((h * w : Nat) : Int))), some (.d (.list ((List.range (2 ^ (h * w))).map fun m => dL (lod (h * w) m)))), none, none, none, none, none, none, none], [], dr⟩
    rw [e0]
    refine uLc_src dL (fun _ => false) dL (lods (h * w)) ⟨[some (.d (.int (h : Int))), some (.d (.int (w : Int))), some (.d (dF (bentF h w))), some (.d (dF (downF h w))), some (.d (.int ((h * w : Nat) : Int))), some (.d (dF (lods (h * w)))), none, none, none, none, none, none, none], [], dr⟩ (fun R h' => ⟨_, rfl, h'⟩) (by omega) (fun b hb R R' _ hR => ?_) ?_
    · obtain ⟨bl, bb⟩ := Lb b hb
      refine ⟨_, rfl, _, rfl, _, rfl, rfl, b, h, w, rfl, h1, w1, h40, bl, bb, ?_⟩
      exact hR rfl
    rw [show (lods (h * w)).filter (fun _ => false) = [] from List.filter_eq_nil_iff.mpr (fun _ _ h => by cases h)]
    refine ⟨shaped_dL [], shaped_dL [], ?_⟩
    show if (true ^^ eqvI (.list []) (.list [])) = true then _ else _
    rw [eqv_nil]
    let Li : Nat → List (List Int) := fun i => (lods (h * w)).map fun b => rounds h w b i
    have Lib : ∀ i, ∀ b ∈ Li i, b.length = h * w ∧ bits b := fun i b hb => by
      obtain ⟨c, hc, rfl⟩ := List.mem_map.mp hb
      obtain ⟨cl, cb⟩ := Lb c hc
      obtain ⟨a1, a2, _⟩ := rounds_ok cl cb w1 i
      exact ⟨a1, a2⟩
    have Lil : ∀ i, (Li i).length ≤ 1024 := fun i => by
      show ((lods (h * w)).map _).length ≤ 1024
      rw [List.length_map]
      exact Ll
    have s0 : S (lods (h * w)) .none = S (Li 0) (optD (leastTo (Tk h w) 0)) := by
      have e : Li 0 = lods (h * w) := List.map_id'' (fun _ => rfl) _
      rw [e]
      rfl
    refine sFor_inv (fun i : Nat => .int (0 + (i : Int))) (List.range (halvings h + 1)) (S (lods (h * w)) .none) (fun i s => s = S (Li i) (optD (leastTo (Tk h w) i))) (fun R h' => ⟨_, rfl, rfl, h, rfl, h1, by omega, ?_⟩) ?_ (fun i x s hx hs => ?_) (fun s hs => ?_)
    · refine ⟨by show -(2 ^ 62) ≤ ((halvings h : Nat) : Int) + 1; omega, by show ((halvings h : Nat) : Int) + 1 < 2 ^ 62; omega, ?_⟩
      show R (intsR 0 (((halvings h : Nat) : Int) + 1).toNat) _
      rw [show (((halvings h : Nat) : Int) + 1).toNat = halvings h + 1 by omega]
      exact h'
    · exact s0
    · subst hs
      have xi : x = i := by
        have := (List.getElem?_eq_some_iff.mp hx)
        obtain ⟨a, b⟩ := this
        rw [List.getElem_range] at b
        exact b.symm
      subst xi
      let T : List (List Int) → PyData → Option Vd → Sd := fun L o bad => ⟨[some (.d (.int (h : Int))), some (.d (.int (w : Int))), some (.d (dF (bentF h w))), some (.d (dF (downF h w))), some (.d (.int ((h * w : Nat) : Int))), some (.d (dF L)), some (.d o), some (.d (.int (0 + (x : Int)))), bad, none, none, none, none], [], dr⟩
      let M1 : List (List Int) := (Li x).map fun b => sortAlong b (bentF h w)
      have M1b : ∀ b ∈ M1, b.length = h * w ∧ bits b := fun b hb => by
        obtain ⟨c, hc, rfl⟩ := List.mem_map.mp hb
        obtain ⟨a1, a2⟩ := Lib x c hc
        exact ⟨by rw [sortAlong_len, a1], bits_sort (by rw [a1]; exact bent_valid h w) a2⟩
      have M1l : M1.length ≤ 1024 := by
        show ((Li x).map _).length ≤ 1024
        rw [List.length_map]
        exact Lil x
      refine uLc_map dL (fun b => dL (sortAlong b (bentF h w))) (Li x) (T (Li x) (optD (leastTo (Tk h w) x)) none) (fun R h' => ⟨_, rfl, h'⟩) (by have := Lil x; omega) (fun b hb R R' hR => ?_) ?_
      · obtain ⟨bl, bb⟩ := Lib x b hb
        exact ⟨_, rfl, _, rfl, rfl, b, bentF h w, rfl, by rw [bl]; exact bent_valid h w, by omega, hR⟩
      have e1 : ((Li x).map fun b => dL (sortAlong b (bentF h w))) = M1.map dL := by
        show ((Li x).map fun b => dL (sortAlong b (bentF h w))) = ((Li x).map fun b => sortAlong b (bentF h w)).map dL
        generalize Li x = L
        rw [List.map_map]
        rfl
      show sNext _ ⟨[some (.d (.int (h : Int))), some (.d (.int (w : Int))), some (.d (dF (bentF h w))), some (.d (dF (downF h w))), some (.d (.int ((h * w : Nat) : Int))), some (.d (.list ((Li x).map fun b => dL (sortAlong b (bentF h w))))), some (.d (optD (leastTo (Tk h w) x))), some (.d (.int (0 + (x : Int)))), none, none, none, none, none], [], dr⟩
      rw [e1]
      refine uLc_src dL (fun b => !inSnk h w b) dL M1 (T M1 (optD (leastTo (Tk h w) x)) none) (fun R h' => ⟨_, rfl, h'⟩) (by omega) (fun b hb R R' hR hR' => ?_) ?_
      · obtain ⟨bl, bb⟩ := M1b b hb
        refine ⟨_, rfl, _, rfl, _, rfl, rfl, b, h, w, rfl, h1, w1, h40, bl, ?_⟩
        show if (!inSnk h w b) = true then _ else _
        exact ite2 (fun z => ⟨_, rfl, hR z⟩) (fun z => hR' (Bool.eq_false_iff.mpr z))
      generalize hB : M1.filter (fun b => !inSnk h w b) = B
      have Bb : ∀ b ∈ B, b.length = h * w ∧ bits b := fun b hb => by
        rw [← hB] at hb
        exact M1b b (List.mem_filter.mp hb).1
      have Bn : B = [] ↔ Tk h w x := by
        rw [← hB, List.filter_eq_nil_iff, ← lods_all]
        constructor
        · intro t b hb
          have := t _ (List.mem_map.mpr ⟨_, List.mem_map.mpr ⟨b, hb, rfl⟩, rfl⟩)
          cases z : inSnk h w (sortAlong (rounds h w b x) (bentF h w)) with
          | true => rfl
          | false => rw [z] at this; exact absurd rfl this
        · intro t b hb
          obtain ⟨c, hc, rfl⟩ := List.mem_map.mp hb
          obtain ⟨d, hd, rfl⟩ := List.mem_map.mp hc
          rw [t d hd]
          decide
      have lst : ∀ (q : Vd → Sd → Prop), q (.d (optD (leastTo (Tk h w) (x + 1)))) (T M1 (optD (leastTo (Tk h w) x)) (some (.d (dF B)))) → uIfE (uAnd (uT (uOp dIsN (uVar 6) (uC .none))) (uT (uOp dEq (uVar 8) (uLstP false uNilP)))) (uVar 7) (uVar 6) (T M1 (optD (leastTo (Tk h w) x)) (some (.d (dF B)))) q := fun q hq => by
        have el : leastTo (Tk h w) (x + 1) = match leastTo (Tk h w) x with
          | some j => some j
          | none => @ite _ (Tk h w x) (Classical.propDecidable _) (some x) none := rfl
        rw [el] at hq
        cases eo : leastTo (Tk h w) x with
        | some j =>
          rw [eo] at hq
          exact ⟨_, rfl, _, rfl, hq⟩
        | none =>
          rw [eo] at hq
          refine ⟨_, rfl, ?_⟩
          refine ⟨_, rfl, shaped_dF B (h * w) Bb, shaped_dL [], ?_⟩
          show if (false ^^ eqvI (dF B) (.list [])) = true then _ else _
          rw [eqv_dF_nil, Bool.false_xor]
          refine ite2 (fun z => ?_) (fun z => ?_)
          · have t := Bn.mp (of_decide_eq_true z)
            have hq : q (.d (optD (@ite _ (Tk h w x) (Classical.propDecidable _) (some x) none))) _ := hq
            rw [if_pos t] at hq
            refine ⟨_, rfl, ?_⟩
            show q (.d (.int (0 + (x : Int)))) _
            rw [Int.zero_add]
            exact hq
          · have t : ¬ Tk h w x := fun t => z (decide_eq_true (Bn.mpr t))
            have hq : q (.d (optD (@ite _ (Tk h w x) (Classical.propDecidable _) (some x) none))) _ := hq
            rw [if_neg t] at hq
            exact ⟨_, rfl, hq⟩
      refine lst _ ?_
      refine uLc_map dL (fun b => dL (sortAlong b (downF h w))) M1 (T M1 (optD (leastTo (Tk h w) (x + 1))) (some (.d (dF B)))) (fun R h' => ⟨_, rfl, h'⟩) (by omega) (fun b hb R R' hR => ?_) ?_
      · obtain ⟨bl, bb⟩ := M1b b hb
        exact ⟨_, rfl, _, rfl, rfl, b, downF h w, rfl, by rw [bl]; exact down_valid h w, by omega, hR⟩
      have e2 : (M1.map fun b => dL (sortAlong b (downF h w))) = (Li (x + 1)).map dL := by
        show (((lods (h * w)).map fun b => rounds h w b x).map fun b => sortAlong b (bentF h w)).map (fun b => dL (sortAlong b (downF h w))) = ((lods (h * w)).map fun b => rounds h w b (x + 1)).map dL
        rw [List.map_map, List.map_map, List.map_map]
        rfl
      show ∃ s4, Wk ⟨[some (.d (.int (h : Int))), some (.d (.int (w : Int))), some (.d (dF (bentF h w))), some (.d (dF (downF h w))), some (.d (.int ((h * w : Nat) : Int))), some (.d (.list (M1.map fun b => dL (sortAlong b (downF h w))))), some (.d (optD (leastTo (Tk h w) (x + 1)))), some (.d (.int (0 + (x : Int)))), some (.d (dF B)), none, none, none, none], [], dr⟩ s4 ∧ s4 = S (Li (x + 1)) (optD (leastTo (Tk h w) (x + 1)))
      rw [e2]
      exact ⟨_, wk_r, rfl⟩
    · subst hs
      rw [List.length_range]
      have lk := least_ok (Tk h w) (halvings h + 1)
      cases eo : leastTo (Tk h w) (halvings h + 1) with
      | none =>
        rw [eo] at lk
        exact absurd (Tk_end h1 w1 (by omega)) (lk _ (Nat.lt_succ_self _))
      | some j =>
        rw [eo] at lk
        obtain ⟨jl, jt, jm⟩ := lk
        have sj : Small (j : Int) := by
          unfold Small
          rw [Int.natAbs_natCast]
          exact Nat.lt_of_lt_of_le (show j < 12 by omega) (by decide)
        have s2 : Shw (.list [.int (j : Int), .int (j : Int)]) := shw_of (ok_dL (xs := [(j : Int), (j : Int)]) (n := 2) (Nat.le_refl _) fun x hx => by
          rcases List.mem_cons.mp hx with e | e
          · rw [e]; exact sj
          · rw [List.mem_singleton.mp e]; exact sj) (by decide) (by rw [sz]; decide)
        show sNext _ (S (Li (halvings h + 1)) (.int (j : Int)))
        refine ⟨_, rfl, _, rfl, rfl, h, w, j, rfl, h1, w1, h10, jt, jm, ?_⟩
        refine ⟨_, rfl, _, rfl, rfl, rfl, h, w, j, rfl, h1, w1, h10, jt, jm, ?_⟩
        refine ⟨_, rfl, _, rfl, s2, _, rfl, _, rfl, s2, ?_⟩
        show q (.d (.bool (false ^^ decide ((_ : Str) = _)))) dr
        rw [decide_eq_true rfl]
        exact k

end
end K51


set_option autoImplicit true
set_option Elab.async false
set_option linter.all false
set_option maxRecDepth 100000
set_option maxHeartbeats 8000000
namespace K51
open PySem PySem.Spec L2 Kt Dt
section
variable {P : Program} {w : Ww} {K : PySem.W.Frag} {mg : Str → Option Value} {base : Heap}
/-! ### trees of own lists as data -/
def famD (X : List (List PyData)) : PyData := .list (X.map PyData.list)
theorem own2_res {o : List (Option Ob)} {p : Nat × List Nat} {X : List (List PyData)} (h : Own2 o p X) : Res o (.p p.1) (famD X) := by
  obtain ⟨h1, h2⟩ := h
  refine .lst h1 ?_
  generalize p.2 = is at h2
  clear h1
  induction h2 with
  | nil => exact .nil
  | cons r t ih => exact .cons (Res.own r) ih
theorem fam_res {o : List (Option Ob)} : ∀ {I : List (Nat × List Nat)} {Xs : List (List (List PyData))}, Paired (Own2 o) I Xs → ResA o (I.map fun p => Vd.p p.1) (Xs.map famD)
  | _, _, .nil => .nil
  | _, _, .cons r t => .cons (own2_res r) (fam_res t)
/-- its lists hold data, whatever -/
def Leafs (o : List (Option Ob)) (p : Nat × List Nat) : Prop := o[p.1]? = some (some (.lst (p.2.map Vd.p))) ∧ ∀ i ∈ p.2, ∃ ds : List PyData, o[i]? = some (some (.lst (ds.map Vd.d)))
theorem own2_leafs {o : List (Option Ob)} {p : Nat × List Nat} {X : List (List PyData)} (h : Own2 o p X) : Leafs o p := ⟨h.1, fun i hi => by
  obtain ⟨ds, _, r⟩ := paired_mem h.2 hi
  exact ⟨ds, r⟩⟩
theorem leafs_res {o : List (Option Ob)} {p : Nat × List Nat} (h : Leafs o p) : ∃ a, Res o (.p p.1) a := by
  obtain ⟨ds, hds⟩ := resA_ex (o := o) (xs := p.2.map Vd.p) fun x hx => by
    obtain ⟨i, hi, rfl⟩ := List.mem_map.mp hx
    obtain ⟨ds, r⟩ := h.2 i hi
    exact ⟨_, Res.own r⟩
  exact ⟨_, .lst h.1 hds⟩
theorem leafs_set {o : List (Option Ob)} {p : Nat × List Nat} (h : Leafs o p) {i : Nat} (ne : i ≠ p.1) (li : i < o.length) (ds : List PyData) : Leafs (o.set i (some (.lst (ds.map Vd.d)))) p := by
  refine ⟨by rw [List.getElem?_set_ne ne]; exact h.1, fun j hj => ?_⟩
  by_cases z : i = j
  · subst z
    exact ⟨ds, List.getElem?_set_self li⟩
  · rw [List.getElem?_set_ne z]
    exact h.2 j hj
theorem snocD (ds : List PyData) : ds.map Vd.d ++ [Vd.d PyData.none] = (ds ++ [PyData.none]).map Vd.d := by rw [List.map_append]; rfl
theorem famD_X (R : List (List (List Int))) : (R.map fun f => f.map iL).map famD = R.map dF := by
  rw [List.map_map]
  refine List.map_congr_left fun f _ => ?_
  exact famX f
theorem n3_due (R : List (List (List Int))) : PyData.list ((R.map fun f => f.map iL).map fun xss => PyData.list (xss.map PyData.list)) = dR R := congrArg PyData.list (famD_X R)
theorem cutA_drop {α : Type} (xs : List α) {d : Int} (h : 0 ≤ d) : cutA xs (some d) none = xs.drop d.toNat := by
  obtain ⟨k, rfl⟩ : ∃ k : Nat, d = k := ⟨d.toNat, by omega⟩
  unfold cutA
  rw [HT.sIx_nat, HT.sIx_none, Int.toNat_natCast]
  rcases Nat.le_total k xs.length with l | l
  · rw [Nat.min_eq_left l, List.take_of_length_le (by rw [List.length_drop]; exact Nat.le_refl _)]
  · rw [Nat.min_eq_right l, List.drop_of_length_le (Nat.le_refl _), List.drop_of_length_le l, List.take_nil]
theorem halv_six : ∀ h : Fin 41, halvings h.val ≤ 6 := by decide +kernel
theorem ok_due {h w : Nat} (h40 : h ≤ 40) (w40 : w ≤ 40) (hw : h * w ≤ 40) {R : List (List (List Int))} (hR : ∀ f ∈ R, f = bentF h w ∨ f = downF h w) (hl : R.length ≤ 13) : Ok 3 1333868 (dR R) := by
  have z := ok_list (D := 2) (m := 102603) (ds := R.map dF) fun d hd => by
    obtain ⟨f, hf, rfl⟩ := List.mem_map.mp hd
    rcases hR f hf with rfl | rfl
    · exact ok_dF (bent_valid h w) hw (m := 40) (by unfold bentF; rw [List.length_map, List.length_range]; exact h40)
    · exact ok_dF (down_valid h w) hw (m := 40) (by unfold downF; rw [List.length_map, List.length_range]; exact w40)
  have e : (R.map dF).length * (102603 + 2) + 3 ≤ 1333868 := by
    rw [List.length_map]
    omega
  exact z.mono (Nat.le_refl _) e
theorem due_len {h w : Nat} : (dueF h w).length = halvings h * 2 + 1 := by
  unfold dueF
  rw [List.length_append, List.length_flatten, List.map_replicate, List.sum_replicate_nat]
  rfl
theorem due_mem {h w : Nat} : ∀ f ∈ dueF h w, f = bentF h w ∨ f = downF h w := fun f hf => by
  unfold dueF at hf
  rcases List.mem_append.mp hf with hf | hf
  · obtain ⟨l, hl, hf⟩ := List.mem_flatten.mp hf
    rw [List.eq_of_mem_replicate hl] at hf
    rcases List.mem_cons.mp hf with e | e
    · exact .inl e
    · exact .inr (List.mem_singleton.mp e)
  · exact .inl (List.mem_singleton.mp hf)
theorem due_cases {h w : Nat} : ∃ R', dueF h w = bentF h w :: R' ∧ (R' = [] ∨ ∃ R'', R' = downF h w :: R'') := by
  unfold dueF
  cases halvings h with
  | zero => exact ⟨[], rfl, .inl rfl⟩
  | succ k => exact ⟨_, rfl, .inr ⟨_, rfl⟩⟩
def sp_law_row_right : Spd := fun xs dr q => ∃ (h w : Nat), xs = [.d (.int (h : Int)), .d (.int (w : Int))] ∧ 1 ≤ h ∧ 1 ≤ w ∧ h * w ≤ 40 ∧ q (.d (.bool true)) dr
abbrev s_law_row_right : Stmt := tp 42
theorem sc_law_row_right : FnScope ["high", "wide", "bent", "down", "due", "told"] ["high", "wide"] (defScope s_law_row_right) := ⟨rfl, rfl, rfl, by decide +kernel, rfl, by decide +kernel, by decide +kernel⟩
theorem ok_law_row_right {f : Addr} {fd : FuncData} (F : Fun K "_law_row_right" "_law_row_right" s_law_row_right f fd) (N : Nb mg)
    (h_law_halvings : Has P w K mg base "_law_halvings" 1 ["high"] sp_law_halvings)
    (h_law_parts : Has P w K mg base "_law_parts" 1 ["high", "wide"] sp_law_parts)
    (hshear : Has P w K mg base "shear" 7 ["rows", "columns"] spshear)
    (hkshear_1_0 : HasK P w K mg base "shear" 7 ["rows", "columns"] ["columns", "rows"] (kwp 2 [1, 0]) (kwp 2 [1, 0]) spshear) :
    FnD P w K mg base 8 f fd ["high", "wide"] sp_law_row_right := by
  refine fnD_of F sc_law_row_right (fun xs dr q h => ?_) (fun cdv A below s H hr gu => ⟨_, _, 
      (pss_cons (ps_asg (pe_callH h_law_parts (hr.mono (by decide)) gu (by rfl) (pa_cons (pv 0) (pa_cons (pv 1) pa_nil))) (pg_tup (n := 2) rfl (pgs_cons (pg_name (i := 2) sc_law_row_right.nd rfl (.inl rfl)) (pgs_cons (pg_name (i := 3) sc_law_row_right.nd rfl (.inl rfl)) pgs_nil))))
        (pss_cons (ps_set (i := 4) sc_law_row_right.nd rfl (.inl rfl) (pe_op op_addU (pe_op op_mulU (pe_lst (pa_cons (pv 2) (pa_cons (pv 3) pa_nil))) (pe_callH h_law_halvings (hr.mono (by decide)) gu (by rfl) (pa_cons (pv 0) pa_nil))) (pe_lst (pa_cons (pv 2) pa_nil))))
        (pss_cons (ps_set (i := 5) sc_law_row_right.nd rfl (.inl rfl) (pe_lst (pa_cons (pe_callH hshear (hr.mono (by decide)) gu (by rfl) (pa_cons (pv 0) (pa_cons (pv 1) pa_nil))) (pa_cons (pe_callHK hkshear_1_0 (hr.mono (by decide)) gu (by rfl) (pk_cons (pv 1) (pk_cons (pv 0) pk_nil))) pa_nil))))
        (pss_cons (ps_if (pt_cmpR (op_neU hr.units) (pe_callB (cr_reprU gu hr.units) (by rfl) N.repr (by decide +kernel) (pa_cons (pv 5) pa_nil)) (pe_callB (cr_reprU gu hr.units) (by rfl) N.repr (by decide +kernel) (pa_cons (pe_lst (pa_cons (pv 4) (pa_cons (pv 4) pa_nil))) pa_nil)) (by first | rfl | exact nomark _)) (pss_one (ps_ret pe_bl)) pss_nil)
        (pss_cons (ps_expr (pe_bm PySem.F.plainAttrs_list PySem.F.slot_list_append PySem.F.type_list_append mt_append (pe_ix ix_seq (pe_ix ix_seq (pe_ix ix_seq (pv 5) pe_int (fun _ _ => rfl)) pe_int (fun _ _ => rfl)) pe_int (fun _ _ => rfl)) (pa_cons pe_non pa_nil)))
        (pss_cons (ps_if (pt_cmpR (op_neU hr.units) (pe_callB (cr_reprU gu hr.units) (by rfl) N.repr (by decide +kernel) (pa_cons (pe_slice sl_list (pe_ix ix_seq (pv 5) pe_int (fun _ _ => rfl)) (po_some pe_int) po_none) pa_nil)) (pe_callB (cr_reprU gu hr.units) (by rfl) N.repr (by decide +kernel) (pa_cons (pe_slice sl_list (pv 4) (po_some pe_int) po_none) pa_nil)) (by first | rfl | exact nomark _)) (pss_one (ps_ret pe_bl)) pss_nil)
        (pss_cons (ps_if (pt_cmpR op_gt (pe_callB call_len_seq (by rfl) N.len PySem.boot_len (pa_cons (pv 4) pa_nil)) pe_int (by first | rfl | exact nomark _)) (pss_cons (ps_expr (pe_bm PySem.F.plainAttrs_list PySem.F.slot_list_append PySem.F.type_list_append mt_append (pe_ix ix_seq (pe_ix ix_seq (pe_ix ix_seq (pv 5) pe_int (fun _ _ => rfl)) pe_int (fun _ _ => rfl)) pe_int (fun _ _ => rfl)) (pa_cons pe_non pa_nil)))
          (pss_one (ps_if (pt_cmpR (op_neU hr.units) (pe_callB (cr_reprU gu hr.units) (by rfl) N.repr (by decide +kernel) (pa_cons (pe_slice sl_list (pe_ix ix_seq (pv 5) pe_int (fun _ _ => rfl)) (po_some pe_int) po_none) pa_nil)) (pe_callB (cr_reprU gu hr.units) (by rfl) N.repr (by decide +kernel) (pa_cons (pe_slice sl_list (pv 4) (po_some pe_int) po_none) pa_nil)) (by first | rfl | exact nomark _)) (pss_one (ps_ret pe_bl)) pss_nil))) pss_nil)
        (pss_cons (ps_expr (pe_bm PySem.F.plainAttrs_list PySem.F.slot_list_append PySem.F.type_list_append mt_append (pe_ix ix_seq (pe_ix ix_seq (pv 5) pe_int (fun _ _ => rfl)) pe_int (fun _ _ => rfl)) (pa_cons pe_non pa_nil)))
        (pss_cons (ps_expr (pe_bm PySem.F.plainAttrs_list PySem.F.slot_list_append PySem.F.type_list_append mt_append (pe_ix ix_seq (pv 5) pe_int (fun _ _ => rfl)) (pa_cons pe_non pa_nil)))
        (pss_one (ps_ret (pe_cmpR (op_eqU hr.units) (pe_callB (cr_reprU gu hr.units) (by rfl) N.repr (by decide +kernel) (pa_cons (pe_callH hshear (hr.mono (by decide)) gu (by rfl) (pa_cons (pv 0) (pa_cons (pv 1) pa_nil))) pa_nil)) (pe_callB (cr_reprU gu hr.units) (by rfl) N.repr (by decide +kernel) (pa_cons (pv 4) pa_nil)) (by first | rfl | exact nomark _))))))))))))), 
      (abs_seq (abs_asg (ab_call false (aba_cons (ab_var 0) (aba_cons (ab_var 1) aba_nil))) (abg_tup (abgs_cons (abg_name 2) (abgs_cons (abg_name 3) abgs_nil))))
        (abs_seq (abs_asg (ab_op (abr_add false) (ab_op (abr_mul false) (ab_lstP false (abp_cons (ab_var 2) (abp_cons (ab_var 3) abp_nil))) (ab_call false (aba_cons (ab_var 0) aba_nil))) (ab_lstP false (abp_cons (ab_var 2) abp_nil))) (abg_name 4))
        (abs_seq (abs_asg (ab_lst true (aba_cons (ab_call true (aba_cons (ab_var 0) (aba_cons (ab_var 1) aba_nil))) (aba_cons (ab_callHK true (aba_cons (ab_var 1) (aba_cons (ab_var 0) aba_nil))) aba_nil))) (abg_name 5))
        (abs_seq (abs_if (abt_lend (abt_test (ab_op abr_ne (ab_cb abc_reprU (aba_cons (ab_var 5) aba_nil)) (ab_cb abc_reprU (aba_cons (ab_lstP false (abp_cons (ab_var 4) (abp_cons (ab_var 4) abp_nil))) aba_nil))))) (abs_ret (ab_bl _)) abs_next)
        (abs_seq (abs_drop (ab_bm abm_append (ab_op abr_ix (ab_op abr_ix (ab_op abr_ix (ab_var 5) (ab_int _)) (ab_int _)) (ab_int _)) (aba_cons ab_non aba_nil)))
        (abs_seq (abs_if (abt_lend (abt_test (ab_op abr_ne (ab_cb abc_reprU (aba_cons (ab_sl false (ab_op abr_ix (ab_var 5) (ab_int _)) (ab_part (ab_int _)) ab_nopart) aba_nil)) (ab_cb abc_reprU (aba_cons (ab_sl false (ab_var 4) (ab_part (ab_int _)) ab_nopart) aba_nil))))) (abs_ret (ab_bl _)) abs_next)
        (abs_seq (abs_if (abt_lend (abt_test (ab_op abr_gt (ab_cb abc_len (aba_cons (ab_var 4) aba_nil)) (ab_int _)))) (abs_seq (abs_drop (ab_bm abm_append (ab_op abr_ix (ab_op abr_ix (ab_op abr_ix (ab_var 5) (ab_int _)) (ab_int _)) (ab_int _)) (aba_cons ab_non aba_nil)))
          (abs_if (abt_lend (abt_test (ab_op abr_ne (ab_cb abc_reprU (aba_cons (ab_sl false (ab_op abr_ix (ab_var 5) (ab_int _)) (ab_part (ab_int _)) ab_nopart) aba_nil)) (ab_cb abc_reprU (aba_cons (ab_sl false (ab_var 4) (ab_part (ab_int _)) ab_nopart) aba_nil))))) (abs_ret (ab_bl _)) abs_next)) abs_next)
        (abs_seq (abs_drop (ab_bm abm_append (ab_op abr_ix (ab_op abr_ix (ab_var 5) (ab_int _)) (ab_int _)) (aba_cons ab_non aba_nil)))
        (abs_seq (abs_drop (ab_bm abm_append (ab_op abr_ix (ab_var 5) (ab_int _)) (aba_cons ab_non aba_nil)))
        (abs_ret (ab_op abr_eq (ab_cb abc_reprU (aba_cons (ab_call false (aba_cons (ab_var 0) (aba_cons (ab_var 1) aba_nil))) aba_nil)) (ab_cb abc_reprU (aba_cons (ab_var 4) aba_nil))))))))))))), fun xs dr q h => ?_⟩)
  · obtain ⟨h, w, rfl, h1, w1, h40, k⟩ := h
    rfl
  · obtain ⟨h, w, rfl, h1, w1, h40, k⟩ := h
    have sz : sizeLine = 16777216 := sizeLine_eq
    have le := le_of_mul h1 w1 h40
    have h6 : halvings h ≤ 6 := halv_six ⟨h, by omega⟩
    refine ⟨_, rfl, _, rfl, rfl, h, w, rfl, h1, w1, h40, rfl, ?_⟩
    refine ⟨_, rfl, _, rfl, _, rfl, rfl, h, rfl, h1, le.1, ?_⟩
    refine ⟨by omega, by omega, by show 2 ≤ 1000; decide, _, rfl, ?_, ?_⟩
    · show (List.replicate ((halvings h : Nat) : Int).toNat [dF (bentF h w), dF (downF h w)]).flatten.length + 1 ≤ sizeLine
      rw [Int.toNat_natCast, List.length_flatten, List.map_replicate, List.sum_replicate_nat]
      show halvings h * 2 + 1 ≤ _
      omega
    have eD : PyData.list ((List.replicate ((halvings h : Nat) : Int).toNat [dF (bentF h w), dF (downF h w)]).flatten ++ [dF (bentF h w)]) = dR (dueF h w) := by
      rw [Int.toNat_natCast]
      unfold dueF dR
      rw [List.map_append, List.map_flatten, List.map_replicate]
      rfl
    show sNext _ ⟨[some (.d (.int (h : Int))), some (.d (.int (w : Int))), some (.d (dF (bentF h w))), some (.d (dF (downF h w))), some (.d (PyData.list ((List.replicate ((halvings h : Nat) : Int).toNat [dF (bentF h w), dF (downF h w)]).flatten ++ [dF (bentF h w)]))), none], [], dr⟩
    rw [eD]
    refine ⟨_, rfl, _, rfl, rfl, h, w, rfl, h1, w1, h40, fun o1 j1 I1 pre1 own1 => ?_⟩
    refine ⟨_, rfl, _, rfl, rfl, rfl, h, w, rfl, h1, w1, h40, fun o2 j2 I2 pre2 own2 => ?_⟩
    have pre2 : o1 <+: o2 := pre2
    have own2 : Own3 o1.length o2 j2 I2 ((dueF h w).map fun f => f.map iL) := own2
    have dm : ∀ f ∈ dueF h w, f = bentF h w ∨ f = downF h w := due_mem
    have dl : (dueF h w).length ≤ 13 := by rw [due_len]; omega
    obtain ⟨R', hd, hR'⟩ := due_cases (h := h) (w := w)
    rw [hd] at own1 own2 dm dl
    rw [hd]
    have shR : ∀ (k : Nat), Shw (dR (((bentF h w :: R')).drop k)) := fun k => shw_of (ok_due le.1 le.2 h40 (R := ((bentF h w :: R')).drop k) (fun f hf => dm f (List.mem_of_mem_drop hf)) (by rw [List.length_drop]; omega)) (by decide) (by rw [sz]; decide)
    have shR2 : Shw (.list [dR (bentF h w :: R'), dR (bentF h w :: R')]) := shw_of (ok_two (ok_due le.1 le.2 h40 dm dl) (ok_due le.1 le.2 h40 dm dl)) (by decide) (by rw [sz]; decide)
    -- all own things
    let O : List (Option Ob) := o2 ++ [some (.lst [.p j1, .p j2])]
    have pO2 : o2 <+: O := List.prefix_append _ _
    have pO1 : o1 <+: O := pre2.trans pO2
    have lenO : O.length = o2.length + 1 := by rw [List.length_append]; rfl
    have le12 : o1.length ≤ o2.length := pre2.length_le
    obtain ⟨t1, f1, nd1, _⟩ := own1
    obtain ⟨t2, f2, nd2, low2⟩ := own2
    have lt1 : ∀ i, i ∈ flat2 I1 → i < o1.length := fam_lt f1
    have j1l : j1 < o1.length := (List.getElem?_eq_some_iff.mp t1).1
    have j2l : j2 < o2.length := (List.getElem?_eq_some_iff.mp t2).1
    have top : O[o2.length]? = some (some (.lst [.p j1, .p j2])) := List.getElem?_concat_length
    have t1' : O[j1]? = some (some (.lst (I1.map fun p => Vd.p p.1))) := (pre_at pO1 j1l).trans t1
    have f1' : Paired (Own2 O) I1 (((bentF h w :: R')).map fun f => f.map iL) := fam_at f1 fun i hi => pre_at pO1 (lt1 i hi)
    have t2' : O[j2]? = some (some (.lst (I2.map fun p => Vd.p p.1))) := (pre_at pO2 j2l).trans t2
    have f2' : Paired (Own2 O) I2 (((bentF h w :: R')).map fun f => f.map iL) := fam_at f2 fun i hi => pre_at pO2 (fam_lt f2 i hi)
    -- whatever changes below o1 leaves the other row
    have other : ∀ O' : List (Option Ob), (∀ i, o1.length ≤ i → O'[i]? = O[i]?) → Res O' (.p j2) (dR (bentF h w :: R')) := fun O' e => by
      have g := fam_res (fam_at (o' := O') f2' fun i hi => e i (low2 i (List.mem_cons_of_mem _ hi)))
      rw [famD_X] at g
      exact .lst ((e j2 (low2 j2 List.mem_cons_self)).trans t2') g
    have res0 : Res O (.p o2.length) (.list [dR (bentF h w :: R'), dR (bentF h w :: R')]) := by
      have g := fam_res f1'
      rw [famD_X] at g
      exact .lst top (.cons (.lst t1' g) (.cons (other O fun i _ => rfl) .nil))
    show sNext _ ⟨[some (.d (.int (h : Int))), some (.d (.int (w : Int))), some (.d (dF (bentF h w))), some (.d (dF (downF h w))), some (.d (dR (bentF h w :: R'))), some (.p o2.length)], O, dr⟩
    refine ⟨_, .same rfl (.same rfl (.same rfl (.same rfl (.same rfl (.own res0 .nil))))), ?_⟩
    refine ⟨_, rfl, shR2, _, rfl, _, rfl, shR2, ?_⟩
    show if (true ^^ decide ((_ : Str) = _)) = true then _ else _
    refine strs_same ?_
    show sNext _ ⟨[some (.d (.int (h : Int))), some (.d (.int (w : Int))), some (.d (dF (bentF h w))), some (.d (dF (downF h w))), some (.d (dR (bentF h w :: R'))), some (.p o2.length)], O, dr⟩
    -- the first row: its first family, that one's first list
    match I1, f1', nd1, lt1, t1' with
    | p0 :: I', .cons g0 f1', nd1, lt1, t1' =>
    obtain ⟨p0a, p0i⟩ := p0
    have p0l : p0i.length = h := by
      have := g0.2.length
      rw [List.length_map] at this
      have e : (bentF h w).length = h := by unfold bentF; rw [List.length_map, List.length_range]
      rw [e] at this
      exact this
    obtain ⟨i0, is0, rfl⟩ : ∃ a b, p0i = a :: b := by
      cases p0i with
      | nil => exact absurd p0l (by show ¬ 0 = h; omega)
      | cons a b => exact ⟨a, b, rfl⟩
    have eflat : flat2 ((p0a, i0 :: is0) :: I') = (p0a :: i0 :: is0) ++ flat2 I' := by
      unfold flat2
      rw [List.flatMap_cons]
    rw [eflat] at nd1
    rw [eflat] at lt1
    obtain ⟨nj, nd1⟩ := List.nodup_cons.mp nd1
    obtain ⟨nd0, ndI, cross⟩ := List.nodup_append.mp nd1
    have ni0 : i0 ≠ p0a := fun z => (List.nodup_cons.mp nd0).1 (by rw [← z]; exact List.mem_cons_self)
    have inj1 : ∀ i, i ∈ (p0a :: i0 :: is0) ++ flat2 I' → i ≠ j1 := fun i hi z => nj (z ▸ hi)
    have leaf : ∀ (p : Nat × List Nat) (F : List (List Int)), Own2 O p (F.map iL) → (∀ c ∈ F, c.length ≤ 40) → ∀ i ∈ p.2, ∃ ds : List PyData, O[i]? = some (some (.lst (ds.map Vd.d))) ∧ ds.length ≤ 40 := fun p F hp hF i hi => by
      obtain ⟨ds, hds, r⟩ := paired_mem hp.2 hi
      obtain ⟨c, hc, rfl⟩ := List.mem_map.mp hds
      exact ⟨_, r, by rw [iL_len]; exact hF c hc⟩
    have bent40 : ∀ c ∈ bentF h w, c.length ≤ 40 := fun c hc => Nat.le_trans (chain_le (bent_valid h w) hc) h40
    have down40 : ∀ c ∈ downF h w, c.length ≤ 40 := fun c hc => Nat.le_trans (chain_le (down_valid h w) hc) h40
    obtain ⟨ds0, r0, l0⟩ := leaf _ _ g0 bent40 i0 List.mem_cons_self
    have i0l : i0 < o1.length := lt1 i0 (List.mem_append_left _ (List.mem_cons_of_mem _ List.mem_cons_self))
    have p0l' : p0a < o1.length := lt1 p0a (List.mem_append_left _ List.mem_cons_self)
    -- the end, whatever the leaves hold
    have rest : ∀ O' : List (Option Ob), O'[o2.length]? = some (some (.lst [.p j1, .p j2])) → O'[j1]? = some (some (.lst (((p0a, i0 :: is0) :: I').map fun p => Vd.p p.1))) → O'[p0a]? = some (some (.lst ((i0 :: is0).map Vd.p))) →
        sSeq (sDrop (uBM dAppend (uOp dIx (uOp dIx (uVar 5) (uC (.int 0))) (uC (.int 0))) (uCons (uC .none) uNil))) (sSeq (sDrop (uBM dAppend (uOp dIx (uVar 5) (uC (.int 0))) (uCons (uC .none) uNil))) (sRet (uOp dEq (uCB dReprU (uCons (uCall false spshear id (uCons (uVar 0) (uCons (uVar 1) uNil))) uNil)) (uCB dReprU (uCons (uVar 4) uNil))))) (endD q) ⟨[some (.d (.int (h : Int))), some (.d (.int (w : Int))), some (.d (dF (bentF h w))), some (.d (dF (downF h w))), some (.d (dR (bentF h w :: R'))), some (.p o2.length)], O', dr⟩ := fun O' e1 e2 e3 => by
      have I1l : ((p0a, i0 :: is0) :: I').length ≤ 13 := by
        have := f1'.length
        rw [List.length_map] at this
        show I'.length + 1 ≤ 13
        have d : (bentF h w :: R').length = R'.length + 1 := rfl
        omega
      refine ⟨_, rfl, _, _, e1, atI_of (Int.le_refl _) rfl, _, _, e2, atI_of (Int.le_refl _) rfl, ⟨p0a, _, rfl, e3⟩, _, e3, by rw [List.length_map, p0l]; omega, ?_⟩
      have e1' : ∀ x, (O'.set p0a x)[o2.length]? = some (some (.lst [.p j1, .p j2])) := fun x => by rw [List.getElem?_set_ne (by omega)]; exact e1
      have e2' : ∀ x, (O'.set p0a x)[j1]? = some (some (.lst (((p0a, i0 :: is0) :: I').map fun p => Vd.p p.1))) := fun x => by rw [List.getElem?_set_ne (inj1 p0a (List.mem_append_left _ List.mem_cons_self))]; exact e2
      refine ⟨_, rfl, _, _, e1' _, atI_of (Int.le_refl _) rfl, ⟨j1, _, rfl, e2' _⟩, _, e2' _, by rw [List.length_map]; omega, ?_⟩
      refine ⟨_, rfl, _, rfl, rfl, h, w, rfl, h1, w1, h40, ?_, _, rfl, shR 0, ?_⟩
      · show Shw (PyData.list (((dueF h w).map fun f => f.map iL).map fun xss => .list (xss.map .list)))
        rw [n3_due, hd]
        exact shR 0
      · show q (.d (.bool (false ^^ decide (shownI (PyData.list (((dueF h w).map fun f => f.map iL).map fun xss => .list (xss.map .list))) = shownI (dR (bentF h w :: R')))))) dr
        rw [n3_due, hd, decide_eq_true rfl]
        exact k
    -- a leaf of the first family changes
    refine ⟨_, rfl, _, _, top, atI_of (Int.le_refl _) rfl, _, _, t1', atI_of (Int.le_refl _) rfl, _, _, g0.1, atI_of (Int.le_refl _) rfl, ⟨i0, _, rfl, r0⟩, _, r0, by rw [List.length_map]; omega, ?_⟩
    show sNext _ ⟨[some (.d (.int (h : Int))), some (.d (.int (w : Int))), some (.d (dF (bentF h w))), some (.d (dF (downF h w))), some (.d (dR (bentF h w :: R'))), some (.p o2.length)], O.set i0 (some (.lst (ds0.map Vd.d ++ [Vd.d PyData.none]))), dr⟩
    rw [snocD]
    have s1 : ∀ i, i ≠ i0 → (O.set i0 (some (.lst ((ds0 ++ [PyData.none]).map Vd.d))))[i]? = O[i]? := fun i hi => List.getElem?_set_ne (fun z => hi z.symm)
    have lf1 : Leafs (O.set i0 (some (.lst ((ds0 ++ [PyData.none]).map Vd.d)))) (p0a, i0 :: is0) := leafs_set (own2_leafs g0) ni0 (by omega) _
    have len1 : (O.set i0 (some (.lst ((ds0 ++ [PyData.none]).map Vd.d)))).length = O.length := List.length_set
    generalize O.set i0 (some (.lst ((ds0 ++ [PyData.none]).map Vd.d))) = O1 at s1 lf1 len1
    have u1 : O1[o2.length]? = some (some (.lst [.p j1, .p j2])) := (s1 _ (by omega)).trans top
    have u2 : O1[j1]? = some (some (.lst (((p0a, i0 :: is0) :: I').map fun p => Vd.p p.1))) := (s1 _ (fun z => inj1 i0 (List.mem_append_left _ (List.mem_cons_of_mem _ List.mem_cons_self)) z.symm)).trans t1'
    have f1'' : Paired (Own2 O1) I' (R'.map fun f => f.map iL) := fam_at f1' fun i hi => s1 i (fun z => cross i0 (List.mem_cons_of_mem _ List.mem_cons_self) i hi z.symm)
    obtain ⟨a, ha⟩ := leafs_res lf1
    have res1 : Res O1 (.p o2.length) (.list [.list (a :: R'.map dF), dR (bentF h w :: R')]) := by
      have g := fam_res f1''
      rw [famD_X] at g
      exact .lst u1 (.cons (.lst u2 (.cons ha g)) (.cons (other O1 fun i hi => s1 i (by omega)) .nil))
    refine ⟨_, .same rfl (.same rfl (.same rfl (.same rfl (.same rfl (.own res1 .nil))))), ?_⟩
    refine ⟨_, rfl, _, rfl, ?_, _, rfl, ?_, ?_⟩
    · show Shw (.list (cutA (a :: R'.map dF) (some 1) none))
      rw [cutA_tail]
      exact shR 1
    · show Shw (.list (cutA ((bentF h w :: R').map dF) (some 1) none))
      rw [cutA_tail]
      exact shR 1
    show if (true ^^ decide (shownI (.list (cutA (a :: R'.map dF) (some 1) none)) = shownI (.list (cutA ((bentF h w :: R').map dF) (some 1) none)))) = true then _ else _
    rw [cutA_tail, cutA_tail]
    refine strs_same ?_
    show sNext _ ⟨[some (.d (.int (h : Int))), some (.d (.int (w : Int))), some (.d (dF (bentF h w))), some (.d (dF (downF h w))), some (.d (dR (bentF h w :: R'))), some (.p o2.length)], O1, dr⟩
    refine ⟨_, .same rfl (.same rfl (.same rfl (.same rfl (.same rfl (.drop .nil))))), _, rfl, ?_⟩
    show if decide ((((bentF h w :: R').map dF).length : Int) > 1) = true then _ else _
    refine ite2 (fun z => ?_) (fun z => rest O1 u1 u2 lf1.1)
    have z := of_decide_eq_true z
    rcases hR' with rfl | ⟨R'', rfl⟩
    · rw [List.length_map] at z
      have z : (((1 : Nat)) : Int) > 1 := z
      omega
    -- a leaf of the second family changes
    match I', f1'', cross, ndI, u2, lt1, rest, inj1 with
    | (p1a, p1i) :: I'', .cons g1 f1'', cross, ndI, u2, lt1, rest, inj1 =>
    have p1l : p1i.length = w := by
      have := g1.2.length
      rw [List.length_map] at this
      have e : (downF h w).length = w := by unfold downF; rw [List.length_map, List.length_range]
      rw [e] at this
      exact this
    obtain ⟨i1, is1, rfl⟩ : ∃ a b, p1i = a :: b := by
      cases p1i with
      | nil => exact absurd p1l (by show ¬ 0 = w; omega)
      | cons a b => exact ⟨a, b, rfl⟩
    have eflat1 : flat2 ((p1a, i1 :: is1) :: I'') = (p1a :: i1 :: is1) ++ flat2 I'' := by
      unfold flat2
      rw [List.flatMap_cons]
    have c1 : ∀ x, x ∈ p0a :: i0 :: is0 → ∀ y, y ∈ (p1a :: i1 :: is1) ++ flat2 I'' → x ≠ y := fun x hx y hy => cross x hx y (by rw [eflat1]; exact hy)
    rw [eflat1] at ndI
    obtain ⟨nd1a, _, cross1⟩ := List.nodup_append.mp ndI
    have ni1 : i1 ≠ p1a := fun z => (List.nodup_cons.mp nd1a).1 (by rw [← z]; exact List.mem_cons_self)
    have m1 : i1 ∈ (p1a :: i1 :: is1) ++ flat2 I'' := List.mem_append_left _ (List.mem_cons_of_mem _ List.mem_cons_self)
    have i1l : i1 < o1.length := lt1 i1 (List.mem_append_right _ (by rw [eflat1]; exact m1))
    have i1j : i1 ≠ j1 := inj1 i1 (List.mem_append_right _ (by rw [eflat1]; exact m1))
    obtain ⟨ds1, hds1, r1⟩ := paired_mem g1.2 (show i1 ∈ i1 :: is1 from List.mem_cons_self)
    have l1 : ds1.length ≤ 40 := by
      obtain ⟨c, hc, rfl⟩ := List.mem_map.mp hds1
      rw [iL_len]
      exact down40 c hc
    refine ⟨_, rfl, _, _, u1, atI_of (Int.le_refl _) rfl, _, _, u2, atI_of (by decide) rfl, _, _, g1.1, atI_of (Int.le_refl _) rfl, ⟨i1, _, rfl, r1⟩, _, r1, by rw [List.length_map]; omega, ?_⟩
    have s2 : ∀ i, i ≠ i1 → (O1.set i1 (some (.lst (ds1.map Vd.d ++ [Vd.d PyData.none]))))[i]? = O1[i]? := fun i hi => List.getElem?_set_ne (fun z => hi z.symm)
    have lf2 : Leafs (O1.set i1 (some (.lst (ds1.map Vd.d ++ [Vd.d PyData.none])))) (p0a, i0 :: is0) := by
      rw [snocD]
      exact leafs_set lf1 (fun z => c1 p0a List.mem_cons_self i1 m1 z.symm) (by omega) _
    have lf3 : Leafs (O1.set i1 (some (.lst (ds1.map Vd.d ++ [Vd.d PyData.none])))) (p1a, i1 :: is1) := by
      rw [snocD]
      exact leafs_set (own2_leafs g1) ni1 (by omega) _
    have v1 : (O1.set i1 (some (.lst (ds1.map Vd.d ++ [Vd.d PyData.none]))))[o2.length]? = some (some (.lst [.p j1, .p j2])) := (s2 _ (by omega)).trans u1
    have v2 : (O1.set i1 (some (.lst (ds1.map Vd.d ++ [Vd.d PyData.none]))))[j1]? = some (some (.lst (((p0a, i0 :: is0) :: (p1a, i1 :: is1) :: I'').map fun p => Vd.p p.1))) := (s2 _ (fun z => i1j z.symm)).trans u2
    have f2'' : Paired (Own2 (O1.set i1 (some (.lst (ds1.map Vd.d ++ [Vd.d PyData.none]))))) I'' (R''.map fun f => f.map iL) := fam_at f1'' fun i hi => s2 i (fun z => cross1 i1 (List.mem_cons_of_mem _ List.mem_cons_self) i hi z.symm)
    obtain ⟨a2, ha2⟩ := leafs_res lf2
    obtain ⟨b2, hb2⟩ := leafs_res lf3
    have res2 : Res (O1.set i1 (some (.lst (ds1.map Vd.d ++ [Vd.d PyData.none])))) (.p o2.length) (.list [.list (a2 :: b2 :: R''.map dF), dR (bentF h w :: downF h w :: R'')]) := by
      have g := fam_res f2''
      rw [famD_X] at g
      exact .lst v1 (.cons (.lst v2 (.cons ha2 (.cons hb2 g))) (.cons (other (O1.set i1 (some (.lst (ds1.map Vd.d ++ [Vd.d PyData.none])))) fun i hi => (s2 i (by omega)).trans (s1 i (by omega))) .nil))
    refine ⟨_, .same rfl (.same rfl (.same rfl (.same rfl (.same rfl (.own res2 .nil))))), ?_⟩
    have cut2 : ∀ x y : PyData, cutA (x :: y :: R''.map dF) (some 2) none = R''.map dF := fun x y => cutA_drop _ (by decide)
    refine ⟨_, rfl, _, rfl, ?_, _, rfl, ?_, ?_⟩
    · show Shw (.list (cutA (a2 :: b2 :: R''.map dF) (some 2) none))
      rw [cut2]
      exact shR 2
    · show Shw (.list (cutA (dF (bentF h w) :: dF (downF h w) :: R''.map dF) (some 2) none))
      rw [cut2]
      exact shR 2
    show if (true ^^ decide (shownI (.list (cutA (a2 :: b2 :: R''.map dF) (some 2) none)) = shownI (.list (cutA (dF (bentF h w) :: dF (downF h w) :: R''.map dF) (some 2) none)))) = true then _ else _
    rw [cut2, cut2]
    refine strs_same ?_
    exact rest (O1.set i1 (some (.lst (ds1.map Vd.d ++ [Vd.d PyData.none])))) v1 v2 lf2.1

end
end K51


set_option autoImplicit true
set_option Elab.async false
set_option linter.all false
set_option maxRecDepth 100000
set_option maxHeartbeats 8000000
namespace K51
open PySem PySem.Spec L2 Kt Dt
variable {P : Program} {w : Ww} {K : PySem.W.Frag} {mg : Str → Option Value} {base : Heap}
def spLaw (K : PySem.W.Frag) (T : List (Addr × Str)) : Sp := fun vs H Q _ => ∃ (a : Addr) (ns : List Int), vs = [.ref a] ∧ SqL K H a (ns.map V.int) ∧ ns.length ≤ 63 ∧ LamX.Tabs T H ∧ ∀ H', Q (.bl true) H'

abbrev sLaw : Stmt := tp 45
abbrev slaw : Stmt := sLaw
theorem sclaw : FnScope ["script", "draws", "high", "wide", "load", "cell", "value"] ["script"] (defScope sLaw) := ⟨rfl, rfl, rfl, by decide +kernel, rfl, by decide +kernel, by decide +kernel⟩
structure At (P : Program) (w : World) (K : PySem.W.Frag) (mg : Str → Option Value) (base : Heap) (k : Nat) (x : Str) (ps : List Str) (sp : Sp) (f : Addr) (fd : FuncData) : Prop where
  ok : FnOk P w K mg base CX0 k f fd ps sp
  bd : Binds K fd ps []
  at_ : mg x = some (.ref f)
  kp : PySem.W.keepIn K (.ref f) = true
def Dws (H : Hp) (as : List Addr) (b : Int) : Prop := ∀ a ∈ as, ∃ n k c, H a = some (DrO n k c) ∧ 0 ≤ k ∧ k ≤ b
theorem Dws.mono {H : Hp} {as : List Addr} {b b' : Int} (h : Dws H as b) (hb : b ≤ b') : Dws H as b' := fun a ha => let ⟨n, k, c, e, h1, h2⟩ := h a ha; ⟨n, k, c, e, h1, by omega⟩
theorem dAdd_int {i j k : Int} (e : i + j = k) {s : Sd} {q : Vd → Sd → Prop} (h : q (.d (.int k)) s) : dAdd false (.d (.int i)) (.d (.int j)) s q := by
  subst e
  exact h
theorem rounds_row {h w : Nat} (b : List Int) : ∀ k, afterRow b (List.replicate k [bentF h w, downF h w]).flatten = rounds h w b k
  | 0 => rfl
  | k + 1 => by
    have ih := rounds_row (h := h) (w := w) b k
    unfold afterRow at ih ⊢
    rw [List.replicate_succ', List.flatten_append, List.foldl_append, ih]
    rfl
theorem due_row {h w : Nat} (b : List Int) : afterRow b (dueF h w) = sortAlong (rounds h w b (halvings h)) (bentF h w) := by
  have e := rounds_row (h := h) (w := w) b (halvings h)
  unfold dueF
  unfold afterRow at e ⊢
  rw [List.foldl_append, e]
  rfl
theorem due_valid {h w : Nat} : ∀ f ∈ dueF h w, Valid (h * w) f := fun f hf => by
  rcases due_mem f hf with e | e
  · rw [e]; exact bent_valid h w
  · rw [e]; exact down_valid h w
theorem shear_all {h w : Nat} (h1 : 1 ≤ h) (w1 : 1 ≤ w) (h40 : h ≤ 40) {l : List Int} (hl : l.length = h * w) : InSnake h w (afterRow l (dueF h w)) := by
  have len : (afterRow l (dueF h w)).length = h * w := (afterRow_len _ _).trans hl
  unfold InSnake
  refine List.pairwise_iff_getElem.mpr fun i j hi hj lt => ?_
  have ri := (bent_valid h w).rg _ (List.getElem_mem hi)
  have rj := (bent_valid h w).rg _ (List.getElem_mem hj)
  rw [← len] at ri rj
  generalize hx : (bentF h w).flatten[i] = x at ri
  generalize hy : (bentF h w).flatten[j] = y at rj
  have t := Tk_end h1 w1 h40 (l.map (thr (at1 (afterRow l (dueF h w)) y))) (by rw [List.length_map]; exact hl) (thr_bits _ _)
  rw [← due_row, row_map (fun a b h => thr_up _ h) (n := h * w) (dueF h w) l hl due_valid] at t
  have g := List.pairwise_iff_getElem.mp t i j hi hj lt
  rw [hx, hy, at1_map ri.1 ri.2, at1_map rj.1 rj.2] at g
  unfold thr at g
  rw [if_pos (Int.le_refl _)] at g
  refine Classical.byContradiction fun n => ?_
  rw [if_neg n] at g
  omega
theorem pick_h (r m : Int) (hr : 0 ≤ r) (m1 : 1 ≤ m) : ∃ n : Nat, 1 + r % m = n ∧ 1 ≤ n ∧ (n : Int) ≤ m := by
  have g1 := Int.emod_nonneg r (b := m) (by omega)
  have g2 := Int.emod_lt_of_pos r (b := m) (by omega)
  exact ⟨(1 + r % m).toNat, by omega, by omega, by omega⟩
theorem pick_w {M h w : Nat} (hw : (w : Int) ≤ (M : Int) / (h : Int)) : h * w ≤ M := by
  have e : (M : Int) / (h : Int) = ((M / h : Nat) : Int) := (Int.natCast_ediv M h).symm
  rw [e] at hw
  have hw : w ≤ M / h := Int.ofNat_le.mp hw
  rw [Nat.mul_comm]
  exact Nat.le_trans (Nat.mul_le_mul_right h hw) (Nat.div_mul_le_self M h)
theorem div_one {M h : Nat} (h1 : 1 ≤ h) (hM : h ≤ M) : 1 ≤ (M : Int) / (h : Int) := by
  have e : (M : Int) / (h : Int) = ((M / h : Nat) : Int) := (Int.natCast_ediv M h).symm
  rw [e]
  exact Int.ofNat_le.mpr ((Nat.le_div_iff_mul_le h1).mpr (by rw [Nat.one_mul]; exact hM))
theorem Tk310 : ¬ Tk 3 1 0 := by
  rw [Tk_iff]
  intro t
  have : ¬ ∀ m : Fin 8, famN (3 * 1) m.val [snk 3 1] = famN (3 * 1) m.val (bentF 3 1) := by decide +kernel
  exact this fun m => t m.val m.isLt
theorem Tk311 : Tk 3 1 1 := by
  rw [Tk_iff]
  have z : ∀ m : Fin 8, famN (3 * 1) (itN 3 1 1 m.val) [snk 3 1] = famN (3 * 1) (itN 3 1 1 m.val) (bentF 3 1) := by decide +kernel
  exact fun m hm => z ⟨m, hm⟩

theorem ok_law {f c1 : Addr} {fd d1 : FuncData} (F : Fun K "law" "law" sLaw f fd) (N : Nb mg) (A1 : At P w.w K mg base 1 "_law_draws" ["cell"] spLDraws c1 d1)
    (h_law_halved : Has P w K mg base "_law_halved" 3 ["load", "high", "wide"] sp_law_halved)
    (h_law_in_snake : Has P w K mg base "_law_in_snake" 2 ["load", "high", "wide"] sp_law_in_snake)
    (h_law_load : Has P w K mg base "_law_load" 2 ["draws", "many"] sp_law_load)
    (h_law_next : Has P w K mg base "_law_next" 1 ["draws"] sp_law_next)
    (h_law_row_right : Has P w K mg base "_law_row_right" 8 ["high", "wide"] sp_law_row_right)
    (h_law_small_right : Has P w K mg base "_law_small_right" 9 ["high", "wide"] sp_law_small_right)
    (hafter_row : Has P w K mg base "after_row" 5 ["filling", "row"] spafter_row)
    (hfewest_rounds : Has P w K mg base "fewest_rounds" 8 ["rows", "columns"] spfewest_rounds)
    (hshear : Has P w K mg base "shear" 7 ["rows", "columns"] spshear)
    (hsnake : Has P w K mg base "snake" 7 ["rows", "columns"] spsnake) : FnG P w.w K mg base 10 f fd ["script"] (spLaw K w.T) := by
  refine fnG_of F sclaw (fun vs H Q h => ?_) (fun cdv A below s H vs Q hr gu h => ?_)
  · obtain ⟨a, ns, rfl, _⟩ := h
    rfl
  · obtain ⟨a, ns, rfl, hS, hlen, hT, k⟩ := h
    refine ⟨_, pss_cons (ps_for PassesOwn.never rfl (pi_list (pe_lc (own := [("cell", 5)]) (g := gName 5) (tt := tYes) rfl sclaw.nd (pi_list (pe_op op_cat (pe_slice sl_list (pv 0) po_none (po_some pe_int)) (pe_lst (pa_cons pe_int pa_nil))))
          (blkOk_by (N := ["script", "draws", "high", "wide", "load", "cell", "value"]) (sc := defScope sLaw) (by decide +kernel)) (fun _ _ _ _ _ => pg_name (i := 5) sclaw.nd rfl (Or.inl rfl)) (fun _ _ _ _ _ => pts_nil)
          (fun _ _ _ _ _ => pe_call A1.ok (hr.mono (by decide)) (by rfl) A1.at_ A1.kp A1.bd .nil pass0 (pa_cons (pv 5) pa_nil)))) (pg_name (i := 1) sclaw.nd rfl (.inl rfl))
        (pss_cons (ps_set (i := 2) sclaw.nd rfl (.inl rfl) (pe_op op_addU pe_int (pe_op op_mod (pe_callTy call_int1 (by rfl) N.int (by decide +kernel) (pa_cons (pe_callH h_law_next (hr.mono (by decide)) gu (by rfl) (pa_cons (pv 1) pa_nil)) pa_nil)) pe_int)))
        (pss_cons (ps_set (i := 3) sclaw.nd rfl (.inl rfl) (pe_op op_addU pe_int (pe_op op_mod (pe_callTy call_int1 (by rfl) N.int (by decide +kernel) (pa_cons (pe_callH h_law_next (hr.mono (by decide)) gu (by rfl) (pa_cons (pv 1) pa_nil)) pa_nil)) (pe_op op_fdiv pe_int (pv 2)))))
        (pss_cons (ps_set (i := 4) sclaw.nd rfl (.inr rfl) (pe_callH h_law_load (hr.mono (by decide)) gu (by rfl) (pa_cons (pv 1) (pa_cons (pe_op op_mulU (pv 2) (pv 3)) pa_nil))))
        (pss_cons (ps_if (pt_not (pt_val (pe_callH h_law_row_right (hr.mono (by decide)) gu (by rfl) (pa_cons (pv 2) (pa_cons (pv 3) pa_nil))))) (pss_one (ps_ret pe_bl)) pss_nil)
        (pss_cons (ps_if (pt_not (pt_val (pe_callH h_law_in_snake (hr.mono (by decide)) gu (by rfl) (pa_cons (pe_callH hafter_row (hr.mono (by decide)) gu (by rfl) (pa_cons (pv 4) (pa_cons (pe_callH hshear (hr.mono (by decide)) gu (by rfl) (pa_cons (pv 2) (pa_cons (pv 3) pa_nil))) pa_nil))) (pa_cons (pv 2) (pa_cons (pv 3) pa_nil)))))) (pss_one (ps_ret pe_bl)) pss_nil)
        (pss_cons (ps_if (pt_not (pt_val (pe_callH h_law_halved (hr.mono (by decide)) gu (by rfl) (pa_cons (pe_lc (own := [("value", 6)]) (g := gName 6) (tt := tYes)  rfl sclaw.nd (pi_list (pv 4)) (blkOk_by (N := ["script", "draws", "high", "wide", "load", "cell", "value"]) (sc := defScope slaw) (by decide +kernel)) (fun _ _ _ _ _ => pg_name (i := 6) sclaw.nd rfl (Or.inl rfl)) (fun _ _ _ _ _ => pts_nil) (fun _ _ _ _ _ => (pe_callTy call_int1 (by rfl) N.int (by decide +kernel) (pa_cons (pe_cmpR op_gt (pv 6) (pe_ix (show IxR _ (rIx K) from ix_seq) (pv 4) pe_int (fun _ _ => rfl)) (by first | rfl | exact nomark _)) pa_nil)))) (pa_cons (pv 2) (pa_cons (pv 3) pa_nil)))))) (pss_one (ps_ret pe_bl)) pss_nil)
        (pss_cons (ps_set (i := 2) sclaw.nd rfl (.inl rfl) (pe_op op_addU pe_int (pe_op op_mod (pe_callTy call_int1 (by rfl) N.int (by decide +kernel) (pa_cons (pe_callH h_law_next (hr.mono (by decide)) gu (by rfl) (pa_cons (pv 1) pa_nil)) pa_nil)) pe_int)))
        (pss_one (ps_if (pt_not (pt_val (pe_callH h_law_small_right (hr.mono (by decide)) gu (by rfl) (pa_cons (pv 2) (pa_cons (pe_op op_addU pe_int (pe_op op_mod (pe_callTy call_int1 (by rfl) N.int (by decide +kernel) (pa_cons (pe_callH h_law_next (hr.mono (by decide)) gu (by rfl) (pa_cons (pv 1) pa_nil)) pa_nil)) (pe_op op_fdiv pe_int (pv 2)))) pa_nil))))) (pss_one (ps_ret pe_bl)) pss_nil))))))))))
        (pss_cons (ps_if (PW.pt (pw_or (pt_not (pt_val (pe_callH h_law_row_right (hr.mono (by decide)) gu (by rfl) (pa_cons pe_int (pa_cons pe_int pa_nil))))) (pw_or (pt_not (pt_val (pe_callH h_law_row_right (hr.mono (by decide)) gu (by rfl) (pa_cons pe_int (pa_cons pe_int pa_nil))))) (pw_or1 (pt_not (pt_val (pe_callH h_law_small_right (hr.mono (by decide)) gu (by rfl) (pa_cons pe_int (pa_cons pe_int pa_nil))))))))) (pss_one (ps_ret pe_bl)) pss_nil)
        (pss_one (ps_ret (pe_and (pe_cmpR (op_eqU hr.units) (pe_callH hsnake (hr.mono (by decide)) gu (by rfl) (pa_cons pe_int (pa_cons pe_int pa_nil))) (pe_lst (pa_cons pe_int (pa_cons pe_int (pa_cons pe_int pa_nil)))) (by first | rfl | exact nomark _)) (pe_one (pe_cmpR (op_eqU hr.units) (pe_lst (pa_cons (pe_callH hfewest_rounds (hr.mono (by decide)) gu (by rfl) (pa_cons pe_int (pa_cons pe_int pa_nil))) (pa_cons (pe_callH hfewest_rounds (hr.mono (by decide)) gu (by rfl) (pa_cons pe_int (pa_cons pe_int pa_nil))) (pa_cons (pe_callB call_len_seq (by rfl) N.len PySem.boot_len (pa_cons (pe_callH hshear (hr.mono (by decide)) gu (by rfl) (pa_cons pe_int (pa_cons pe_int pa_nil))) pa_nil)) pa_nil)))) (pe_lst (pa_cons pe_int (pa_cons pe_int (pa_cons pe_int pa_nil)))) (by first | rfl | exact nomark _))))))), ?_⟩
    have cut4 : cutV (ns.map V.int) none (some 4) = (ns.take 4).map V.int := by
      rw [List.map_take]
      exact cut_take (ns.map V.int) 4
    refine ⟨_, rfl, _, rfl, a, _, rfl, hS, fun p1 hp1 => ?_⟩
    rw [cut4]
    obtain ⟨H1, e1, s1, l1⟩ := disp_li hp1 (ns.take 4)
    rw [e1]
    refine ⟨by show 1 ≤ sizeLine; decide, fun p2 hp2 => ?_⟩
    obtain ⟨H2, e2, s2, l2⟩ := disp_li hp2 [0]
    have e2' : upd H1 p2 (.lst [V.int 0]) = H2 := e2
    rw [e2']
    refine ⟨p1, p2, _, _, rfl, rfl, l1.same s2, l2, by rw [List.length_map, List.length_take, sizeLine_eq]; simp; omega, fun p3 hp3 => ?_⟩
    obtain ⟨H3, e3, s3, l3⟩ := disp_li hp3 (ns.take 4 ++ [0])
    have em : (ns.take 4).map V.int ++ [0].map V.int = (ns.take 4 ++ [0]).map V.int := (List.map_append ..).symm
    rw [em, e3]
    have l7 : (ns.take 4 ++ [0]).length ≤ 7 := by
      rw [List.length_append, List.length_take]
      simp
      omega
    have hT3 : LamX.Tabs w.T H3 := ((hT.ext s1).ext s2).ext s3
    refine ⟨p3, rfl, ⟨_, SqL.of l3⟩, fun D hD => lc_it (walk_list (xs := (ns.take 4 ++ [0]).map V.int)) (fun i H' => ∃ as, Refs H' D as ∧ as.length = i ∧ (∀ x ∈ as, x ≠ D) ∧ Dws H' as 0 ∧ LI H' p3 (ns.take 4 ++ [0]) ∧ LamX.Tabs w.T H') ?_ (fun i H' _ q => by
      obtain ⟨as, _, _, _, _, h, _⟩ := q
      exact SqL.of h) ?_ ?_⟩
    · exact ⟨[], upd_same, rfl, fun x hx => (by cases hx), fun x hx => (by cases hx), (upd_ne (ne_of_none l3 hD)).trans l3, hT3.ext (same_upd hD)⟩
    · rintro i v H4 H5 hi ⟨as, hR, hl, hne, hdw, hl3, hT4⟩ ⟨rfl, ev⟩
      obtain ⟨cv, hcv, rfl⟩ := map_get ev
      refine ⟨rfl, tyes ?_⟩
      refine ⟨_, rfl, cv, rfl, fun p n b hp => ?_⟩
      have sp := same_upd (o := DrO n 0 b) hp
      have nDp : D ≠ p := ne_of_none hR hp
      have n3p : p3 ≠ p := ne_of_none hl3 hp
      have i7 : i < 7 := by
        rw [List.length_map] at hi
        omega
      refine ⟨_, (upd_ne nDp).trans hR, by rw [List.length_map, hl, sizeLine_eq]; omega, as ++ [p], refs_snoc, by rw [List.length_append, hl]; rfl, fun x hx => ?_, fun x hx => ?_, ?_, tabs_upd (hT4.ext sp) (fun ts z => by rw [(upd_ne nDp).trans hR] at z; cases z) (noCode_of (hT4.ext sp) fun c q z => by rw [(upd_ne nDp).trans hR] at z; cases z)⟩
      · rcases List.mem_append.mp hx with h | h
        · exact hne x h
        · rw [List.mem_singleton.mp h]
          exact nDp.symm
      · rcases List.mem_append.mp hx with h | h
        · obtain ⟨n', k', c', e', h1, h2⟩ := hdw x h
          exact ⟨n', k', c', (upd_ne (hne x h)).trans (sp _ _ e'), h1, h2⟩
        · rw [List.mem_singleton.mp h]
          exact ⟨n, 0, b, (upd_ne nDp.symm).trans upd_same, by decide, by decide⟩
      · have n3D : p3 ≠ D := fun z => by
          have e := refs_li hR (z ▸ hl3)
          have := congrArg List.length e.2
          rw [List.length_append] at this
          simp at this
        exact (upd_ne n3D).trans ((upd_ne n3p).trans hl3)
    · rintro H4 ⟨as, hR, hl, hne, hdw, hl3, hT4⟩
      rw [List.length_map] at hl
      refine ⟨D, rfl, ⟨_, SqL.of hR⟩, for_it walk_list (fun i σ H' => σ.length = 7 ∧ Refs H' D as ∧ Dws H' as (100000 * (i : Int)) ∧ LamX.Tabs w.T H') ⟨rfl, hR, hdw.mono (by omega), hT4⟩ (fun i σ H' _ q => SqL.of q.2.1) ?_ ?_⟩
      · rintro i v σ H5 H6 hi ⟨lσ, hR5, hd5, hT5⟩ ⟨rfl, ev⟩
        obtain ⟨d, hda, rfl⟩ := map_get ev
        have hdm : d ∈ as := List.mem_of_getElem? hda
        have i7 : (i : Int) < 7 := by
          have := (List.getElem?_eq_some_iff.mp hda).1
          omega
        obtain ⟨n9, k9, c9, e9, k90, k9b⟩ := hd5 d hdm
        have dD : d ≠ D := fun z => by
          rw [z] at e9
          have e := HO.lst.inj (Option.some.inj (e9.symm.trans hR5))
          cases as with
          | nil => cases hdm
          | cons x xs => cases (List.cons.inj e).1
        refine (show AbS w _ _ from (abs_seq (abs_asg (ab_op (abr_add false) (ab_int _) (ab_op abr_mod (ab_cb abc_int1 (aba_cons (ab_call false (aba_cons (ab_var 1) aba_nil)) aba_nil)) (ab_int _))) (abg_name 2))
        (abs_seq (abs_asg (ab_op (abr_add false) (ab_int _) (ab_op abr_mod (ab_cb abc_int1 (aba_cons (ab_call false (aba_cons (ab_var 1) aba_nil)) aba_nil)) (ab_op abr_div (ab_int _) (ab_var 2)))) (abg_name 3))
        (abs_seq (abs_asg (ab_call false (aba_cons (ab_var 1) (aba_cons (ab_op (abr_mul false) (ab_var 2) (ab_var 3)) aba_nil))) (abg_name 4))
        (abs_seq (abs_if (abt_not (abt_val (ab_call false (aba_cons (ab_var 2) (aba_cons (ab_var 3) aba_nil))))) (abs_ret (ab_bl _)) abs_next)
        (abs_seq (abs_if (abt_not (abt_val (ab_call false (aba_cons (ab_call false (aba_cons (ab_var 4) (aba_cons (ab_call false (aba_cons (ab_var 2) (aba_cons (ab_var 3) aba_nil))) aba_nil))) (aba_cons (ab_var 2) (aba_cons (ab_var 3) aba_nil)))))) (abs_ret (ab_bl _)) abs_next)
        (abs_seq (abs_if (abt_not (abt_val (ab_call false (aba_cons (ab_lc false (abi_list (ab_var 4)) (abg_name 6) tgok_name abt_yes (ab_cb abc_int1 (aba_cons (ab_op abr_gt (ab_var 6) (ab_op abr_ix (ab_var 4) (ab_int _))) aba_nil))) (aba_cons (ab_var 2) (aba_cons (ab_var 3) aba_nil)))))) (abs_ret (ab_bl _)) abs_next)
        (abs_seq (abs_asg (ab_op (abr_add false) (ab_int _) (ab_op abr_mod (ab_cb abc_int1 (aba_cons (ab_call false (aba_cons (ab_var 1) aba_nil)) aba_nil)) (ab_int _))) (abg_name 2))
        (abs_if (abt_not (abt_val (ab_call false (aba_cons (ab_var 2) (aba_cons (ab_op (abr_add false) (ab_int _) (ab_op abr_mod (ab_cb abc_int1 (aba_cons (ab_call false (aba_cons (ab_var 1) aba_nil)) aba_nil)) (ab_op abr_div (ab_int _) (ab_var 2)))) aba_nil))))) (abs_ret (ab_bl _)) abs_next))))))))) ⟨strip H6, fun _ => none, some d, fun _ => none, NoCode w.T H6⟩ ⟨fun _ => none, fun _ => none, []⟩ ⟨(List.replicate 7 none).set 1 (some .dr), [], some (100000 * (i : Int))⟩ _ H6 _ ⟨fun s => s.r.length = 7 ∧ ∃ t', s.d = some t' ∧ t' ≤ 100000 * (i : Int) + 100000, fun _ _ => False, fun _ => False, fun _ => False⟩ (start_dr hT5 lσ (by decide) e9 k90 k9b) ⟨fun W' s' σ' H' e m' h => ?_, fun _ _ _ _ _ _ _ _ _ h => h.elim, fun _ _ _ _ _ _ h => h.elim, fun _ _ _ _ _ _ h => h.elim⟩ ?_
        · obtain ⟨h1, t', h2, h3⟩ := h
          have nl : ∀ b, b ∉ W'.lk := fun b l => by rw [e.2] at l; cases l
          refine ⟨by rw [← m'.len]; exact h1, m'.fr D _ (strip_of hR5 fun ts z => by cases z) (fun z => dD (Option.some.inj z)) (nl D), fun x hx => ?_, m'.tx.tb⟩
          by_cases z : x = d
          · subst z
            obtain ⟨t, g1, _, n, k, c, g2, g3, g4⟩ := m'.dw x rfl
            rw [h2] at g1
            obtain rfl := Option.some.inj g1
            exact ⟨n, k, c, g2, g3, by push_cast; omega⟩
          · obtain ⟨n, k, c, g2, g3, g4⟩ := hd5 x hx
            exact ⟨n, k, c, m'.fr x _ (strip_of g2 fun ts z => by cases z) (fun y => z (Option.some.inj y).symm) (nl x), g3, by push_cast; omega⟩
        · have ib : 100000 * (i : Int) ≤ 700000 := by omega
          have ib0 : 0 ≤ 100000 * (i : Int) := by omega
          generalize 100000 * (i : Int) = T0 at ib ib0
          refine ⟨_, rfl, rfl, T0, rfl, rfl, by omega, fun r hr => ⟨(by decide : (0 : Int) < 40), ?_⟩⟩
          obtain ⟨h, eh, h1, h40⟩ := pick_h r 40 hr (by decide)
          have h40 : h ≤ 40 := by omega
          show dAdd false (.d (.int 1)) (.d (.int (r % 40))) _ _
          refine dAdd_int eh ?_
          have d1 := div_one (M := 40) h1 h40
          have d1 : 1 ≤ (40 : Int) / (h : Int) := d1
          refine ⟨_, rfl, rfl, T0 + 1, rfl, rfl, by omega, fun r2 hr2 => ⟨_, rfl, ⟨by omega, by omega⟩, (by show (0 : Int) < (40 : Int) / (h : Int); omega), ?_⟩⟩
          obtain ⟨w', ew, w1, hw⟩ := pick_h r2 ((40 : Int) / (h : Int)) hr2 d1
          have hw : h * w' ≤ 40 := pick_w (M := 40) hw
          show dAdd false (.d (.int 1)) (.d (.int (r2 % ((40 : Int) / (h : Int))))) _ _
          refine dAdd_int ew ?_
          have le := le_of_mul h1 w1 hw
          have ph : ((h : Int) * (w' : Int)) = ((h * w' : Nat) : Int) := (Int.natCast_mul h w').symm
          have n1 : 1 ≤ h * w' := Nat.mul_le_mul h1 w1
          refine ⟨_, rfl, _, rfl, _, rfl, .inl ⟨by omega, by omega⟩, rfl, T0 + 1 + 1, h * w', congrArg (fun z => [Vd.dr, Vd.d (PyData.int z)]) ph, n1, hw, rfl, by omega, fun l t2 hl hs ta tb => ?_⟩
          let S : Sd := ⟨[none, some .dr, some (.d (.int (h : Int))), some (.d (.int (w' : Int))), some (.d (dL l)), none, none], [], some t2⟩
          show sNext _ S
          refine ⟨_, rfl, _, rfl, rfl, h, w', rfl, h1, w1, hw, ?_⟩
          refine ⟨_, rfl, _, rfl, _, rfl, rfl, h, w', rfl, h1, w1, hw, rfl, l, dueF h w', congrArg (fun z => [Vd.d (dL l), Vd.d z]) (n3_due _), fun f hf => by rw [hl]; exact due_valid f hf, by omega, by omega, _, rfl, _, rfl, rfl, afterRow l (dueF h w'), h, w', rfl, h1, w1, hw, by rw [afterRow_len]; exact hl, ?_⟩
          rw [inSnk_iff.mpr (shear_all h1 w1 le.1 hl)]
          show sNext _ S
          let fn : Int → Int := fun v => if decide (v > l.getD 0 0) = true then 1 else 0
          have a0 : atI (l.map PyData.int) 0 = some (.int (l.getD 0 0)) := atI_getD (Int.le_refl _) (by omega)
          refine uLc_map PyData.int (fun v => .int (fn v)) l S (fun R h' => ⟨_, rfl, h'⟩) (by rw [sizeLine_eq]; omega) (fun v hv R R' hR => ?_) ?_
          · refine ⟨_, rfl, _, rfl, _, a0, ?_⟩
            exact hR
          have ef : PyData.list (l.map fun v => PyData.int (fn v)) = dL (l.map fn) := by
            unfold dL
            rw [List.map_map]
            rfl
          have fb : bits (l.map fn) := fun x hx => by
            obtain ⟨v, _, rfl⟩ := List.mem_map.mp hx
            show (if decide (v > l.getD 0 0) = true then (1 : Int) else 0) = 0 ∨ (if decide (v > l.getD 0 0) = true then (1 : Int) else 0) = 1
            split
            · exact .inr rfl
            · exact .inl rfl
          refine ⟨_, rfl, _, rfl, rfl, l.map fn, h, w', congrArg (fun z => [Vd.d z, Vd.d (PyData.int (h : Int)), Vd.d (PyData.int (w' : Int))]) ef, h1, w1, hw, by rw [List.length_map]; exact hl, fb, ?_⟩
          show sNext _ S
          refine ⟨_, rfl, rfl, t2, rfl, rfl, by omega, fun r3 hr3 => ⟨(by decide : (0 : Int) < 9), ?_⟩⟩
          obtain ⟨h2, eh2, h21, h29⟩ := pick_h r3 9 hr3 (by decide)
          have h29 : h2 ≤ 9 := by omega
          show dAdd false (.d (.int 1)) (.d (.int (r3 % 9))) _ _
          refine dAdd_int eh2 ?_
          have d2 : 1 ≤ (9 : Int) / (h2 : Int) := div_one (M := 9) h21 h29
          refine ⟨_, rfl, _, rfl, rfl, t2 + 1, rfl, rfl, by omega, fun r4 hr4 => ⟨_, rfl, ⟨by omega, by omega⟩, (by show (0 : Int) < (9 : Int) / (h2 : Int); omega), ?_⟩⟩
          obtain ⟨w2, ew2, w21, hw2⟩ := pick_h r4 ((9 : Int) / (h2 : Int)) hr4 d2
          have hw2 : h2 * w2 ≤ 9 := pick_w (M := 9) hw2
          show dAdd false (.d (.int 1)) (.d (.int (r4 % ((9 : Int) / (h2 : Int))))) _ _
          refine dAdd_int ew2 ?_
          refine ⟨rfl, h2, w2, rfl, h21, w21, by omega, ?_⟩
          exact ⟨rfl, _, rfl, by omega⟩
      · rintro σ H5 ⟨lσ, _, _, hT5⟩
        refine (show AbS w _ _ from (abs_seq (abs_if (abt_or (abt_not (abt_val (ab_call false (aba_cons (ab_int _) (aba_cons (ab_int _) aba_nil))))) (abt_or (abt_not (abt_val (ab_call false (aba_cons (ab_int _) (aba_cons (ab_int _) aba_nil))))) (abt_not (abt_val (ab_call false (aba_cons (ab_int _) (aba_cons (ab_int _) aba_nil))))))) (abs_ret (ab_bl _)) abs_next)
        (abs_ret (ab_andV (ab_op abr_eq (ab_call false (aba_cons (ab_int _) (aba_cons (ab_int _) aba_nil))) (ab_lstP false (abp_cons (ab_int _) (abp_cons (ab_int _) (abp_cons (ab_int _) abp_nil))))) (ab_op abr_eq (ab_lstP false (abp_cons (ab_call false (aba_cons (ab_int _) (aba_cons (ab_int _) aba_nil))) (abp_cons (ab_call false (aba_cons (ab_int _) (aba_cons (ab_int _) aba_nil))) (abp_cons (ab_cb abc_len (aba_cons (ab_call false (aba_cons (ab_int _) (aba_cons (ab_int _) aba_nil))) aba_nil)) abp_nil)))) (ab_lstP false (abp_cons (ab_int _) (abp_cons (ab_int _) (abp_cons (ab_int _) abp_nil))))))))) ⟨strip H5, fun _ => none, none, fun _ => none, NoCode w.T H5⟩ ⟨fun _ => none, fun _ => none, []⟩ ⟨List.replicate 7 none, [], none⟩ _ H5 _ ⟨fun _ => False, fun x _ => x = .d (.bool true), fun _ => False, fun _ => False⟩ (start_no hT5 lσ) ⟨fun _ _ _ _ _ _ h => h.elim, fun W' s' σ' H' v x e m' r h => ?_, fun _ _ _ _ _ _ h => h.elim, fun _ _ _ _ _ _ h => h.elim⟩ ?_
        · subst h
          cases r
          exact k H'
        · refine ⟨rfl, 8, 5, rfl, by decide, by decide, by decide, ?_⟩
          refine ⟨rfl, 40, 1, rfl, by decide, by decide, by decide, ?_⟩
          refine ⟨rfl, 5, 2, rfl, by decide, by decide, by decide, ?_⟩
          have e1 : (bentF 1 3).flatten = [1, 2, 3] := by decide +kernel
          have e2 : halvings 1 = 0 := by decide +kernel
          have e3 : (dueF 5 2).length = 7 := by rw [due_len]; decide +kernel
          refine ⟨rfl, 1, 3, rfl, by decide, by decide, by decide, ?_⟩
          rw [e1]
          refine ⟨shaped_dL [1, 2, 3], shaped_dL [1, 2, 3], ?_⟩
          show if (false ^^ eqvI (.list (([1, 2, 3] : List Int).map PyData.int)) (.list (([1, 2, 3] : List Int).map PyData.int))) = true then _ else _
          rw [eqvI_iL, decide_eq_true rfl]
          have t0 : Tk 1 5 0 := by
            have := Tk_end (h := 1) (w := 5) (by decide) (by decide) (by decide)
            rw [e2] at this
            exact this
          refine ⟨rfl, 1, 5, 0, rfl, by decide, by decide, by decide, t0, fun j hj => absurd hj (Nat.not_lt_zero j), ?_⟩
          refine ⟨rfl, 3, 1, 1, rfl, by decide, by decide, by decide, Tk311, fun j hj => (by
            obtain rfl : j = 0 := by omega
            exact Tk310), ?_⟩
          refine ⟨rfl, 5, 2, rfl, by decide, by decide, by decide, ?_⟩
          have el : PyData.list [.int ((0 : Nat) : Int), .int ((1 : Nat) : Int), .int ((((dueF 5 2).map fun f => f.map iL).map fun xss => PyData.list (xss.map PyData.list)).length : Int)] = dL [0, 1, 7] := by
            rw [List.length_map, List.length_map, e3]
            rfl
          refine ⟨?_, shaped_dL [0, 1, 7], ?_⟩
          · show SeqAt.shaped (PyData.list [.int ((0 : Nat) : Int), .int ((1 : Nat) : Int), .int ((((dueF 5 2).map fun f => f.map iL).map fun xss => PyData.list (xss.map PyData.list)).length : Int)]) = true
            rw [el]
            exact shaped_dL _
          · show Vd.d (.bool (false ^^ eqvI (PyData.list [.int ((0 : Nat) : Int), .int ((1 : Nat) : Int), .int ((((dueF 5 2).map fun f => f.map iL).map fun xss => PyData.list (xss.map PyData.list)).length : Int)]) (dL [0, 1, 7]))) = Vd.d (.bool true)
            rw [el]
            show Vd.d (.bool (false ^^ eqvI (.list (([0, 1, 7] : List Int).map PyData.int)) (.list (([0, 1, 7] : List Int).map PyData.int)))) = Vd.d (.bool true)
            rw [eqvI_iL, decide_eq_true rfl]
            rfl

end K51


set_option autoImplicit true
set_option Elab.async false
set_option linter.all false
set_option maxRecDepth 100000
set_option maxHeartbeats 4000000
namespace K51
open PySem L2 Kt PyProof.Rows
theorem all_mk {l : PySem.W.OpenLaw} {w : World} {K : PySem.W.Frag} {h : Heap} {mg : Str → Option Value} {fa : Addr}
  {f1 f2 f3 f4 f5 f6 f7 f8 f9 f10 f11 f12 f13 f14 f15 f16 f17 f18 f19 f20 f21 f22 f23 f24 f25 f26 f27 f28 f29 f30 f31 f32 f33 f34 : Addr}
  {od1 an1 od2 an2 od3 an3 od4 an4 od5 an5 od6 an6 od7 an7 od8 an8 od9 an9 od10 an10 od11 an11 od12 an12 od13 an13 od14 an14 od15 an15 od16 an16 od17 an17 od18 an18 od19 an19 od20 an20 od21 an21 od22 an22 od23 an23 od24 an24 od25 an25 od26 an26 od27 an27 od28 an28 od29 an29 od30 an30 od31 an31 od32 an32 od33 an33 od34 an34 : Option Addr}
  {sl1 sl2 sl3 sl4 sl5 sl6 sl7 sl8 sl9 sl10 sl11 sl12 sl13 sl14 sl15 sl16 sl17 sl18 sl19 sl20 sl21 sl22 sl23 sl24 sl25 sl26 sl27 sl28 sl29 sl30 sl31 sl32 sl33 sl34 : Array (Option Value)}
  {oc1 kV1 dc1 pm1 cd1 ct1 oc2 kV2 dc2 pm2 cd2 ct2 oc3 kV3 dc3 pm3 cd3 ct3 oc4 kV4 dc4 pm4 cd4 ct4 oc5 kV5 dc5 pm5 cd5 ct5 oc6 kV6 dc6 pm6 cd6 ct6 oc7 kV7 dc7 pm7 cd7 ct7 oc8 kV8 dc8 pm8 cd8 ct8 oc9 kV9 dc9 pm9 cd9 ct9 oc10 kV10 dc10 pm10 cd10 ct10 oc11 kV11 dc11 pm11 cd11 ct11 oc12 kV12 dc12 pm12 cd12 ct12 oc13 kV13 dc13 pm13 cd13 ct13 oc14 kV14 dc14 pm14 cd14 ct14 oc15 kV15 dc15 pm15 cd15 ct15 oc16 kV16 dc16 pm16 cd16 ct16 oc17 kV17 dc17 pm17 cd17 ct17 oc18 kV18 dc18 pm18 cd18 ct18 oc19 kV19 dc19 pm19 cd19 ct19 oc20 kV20 dc20 pm20 cd20 ct20 oc21 kV21 dc21 pm21 cd21 ct21 oc22 kV22 dc22 pm22 cd22 ct22 oc23 kV23 dc23 pm23 cd23 ct23 oc24 kV24 dc24 pm24 cd24 ct24 oc25 kV25 dc25 pm25 cd25 ct25 oc26 kV26 dc26 pm26 cd26 ct26 oc27 kV27 dc27 pm27 cd27 ct27 oc28 kV28 dc28 pm28 cd28 ct28 oc29 kV29 dc29 pm29 cd29 ct29 oc30 kV30 dc30 pm30 cd30 ct30 oc31 kV31 dc31 pm31 cd31 ct31 oc32 kV32 dc32 pm32 cd32 ct32 oc33 kV33 dc33 pm33 cd33 ct33 oc34 kV34 dc34 pm34 cd34 ct34 : Value}
  {tM : Tok}
  {tS : Tok}
  {tR : Tok}
  (X : K.In h) (G : h.Ns mainGlobals mg) (hfa : mg "law" = some (.ref fa))
  (a1 : PySem.W.nsIn K mainGlobals "is_whole" = some (some (.ref f1)))
  (l1 : K.lookup f1 = some ⟨oc1, od1, .func (PySem.W.fnOf "is_whole" "is_whole" (defArgs sWhole) (defBody sWhole) (defScope sWhole) .none kV1 dc1 pm1 an1 cd1 ct1), sl1⟩)
  (c1 : PySem.W.codeIn K cd1 "is_whole" = true) (k1 : PySem.W.keepIn K (.ref f1) = true)
  (a2 : PySem.W.nsIn K mainGlobals "is_whole_within" = some (some (.ref f2)))
  (l2 : K.lookup f2 = some ⟨oc2, od2, .func (PySem.W.fnOf "is_whole_within" "is_whole_within" (defArgs sWithin) (defBody sWithin) (defScope sWithin) .none kV2 dc2 pm2 an2 cd2 ct2), sl2⟩)
  (c2 : PySem.W.codeIn K cd2 "is_whole_within" = true) (k2 : PySem.W.keepIn K (.ref f2) = true)
  (a3 : PySem.W.nsIn K mainGlobals "check_number" = some (some (.ref f3)))
  (l3 : K.lookup f3 = some ⟨oc3, od3, .func (PySem.W.fnOf "check_number" "check_number" (defArgs sChNum) (defBody sChNum) (defScope sChNum) .none kV3 dc3 pm3 an3 cd3 ct3), sl3⟩)
  (c3 : PySem.W.codeIn K cd3 "check_number" = true) (k3 : PySem.W.keepIn K (.ref f3) = true)
  (a4 : PySem.W.nsIn K mainGlobals "check_filling" = some (some (.ref f4)))
  (l4 : K.lookup f4 = some ⟨oc4, od4, .func (PySem.W.fnOf "check_filling" "check_filling" (defArgs sChFill) (defBody sChFill) (defScope sChFill) .none kV4 dc4 pm4 an4 cd4 ct4), sl4⟩)
  (c4 : PySem.W.codeIn K cd4 "check_filling" = true) (k4 : PySem.W.keepIn K (.ref f4) = true)
  (a5 : PySem.W.nsIn K mainGlobals "check_row" = some (some (.ref f5)))
  (l5 : K.lookup f5 = some ⟨oc5, od5, .func (PySem.W.fnOf "check_row" "check_row" (defArgs sChRow) (defBody sChRow) (defScope sChRow) .none kV5 dc5 pm5 an5 cd5 ct5), sl5⟩)
  (c5 : PySem.W.codeIn K cd5 "check_row" = true) (k5 : PySem.W.keepIn K (.ref f5) = true)
  (a6 : PySem.W.nsIn K mainGlobals "fault_of_family" = some (some (.ref f6)))
  (l6 : K.lookup f6 = some ⟨oc6, od6, .func (PySem.W.fnOf "fault_of_family" "fault_of_family" (defArgs sFault) (defBody sFault) (defScope sFault) .none kV6 dc6 pm6 an6 cd6 ct6), sl6⟩)
  (c6 : PySem.W.codeIn K cd6 "fault_of_family" = true) (k6 : PySem.W.keepIn K (.ref f6) = true)
  (a7 : PySem.W.nsIn K mainGlobals "mark_of" = some (some (.ref f7)))
  (l7 : K.lookup f7 = some ⟨oc7, od7, .func (PySem.W.fnOf "mark_of" "mark_of" (defArgs smark_of) (defBody smark_of) (defScope smark_of) .none kV7 dc7 pm7 an7 cd7 ct7), sl7⟩)
  (c7 : PySem.W.codeIn K cd7 "mark_of" = true) (k7 : PySem.W.keepIn K (.ref f7) = true)
  (a8 : PySem.W.nsIn K mainGlobals "counts_of_ones" = some (some (.ref f8)))
  (l8 : K.lookup f8 = some ⟨oc8, od8, .func (PySem.W.fnOf "counts_of_ones" "counts_of_ones" (defArgs scounts_of_ones) (defBody scounts_of_ones) (defScope scounts_of_ones) .none kV8 dc8 pm8 an8 cd8 ct8), sl8⟩)
  (c8 : PySem.W.codeIn K cd8 "counts_of_ones" = true) (k8 : PySem.W.keepIn K (.ref f8) = true)
  (a9 : PySem.W.nsIn K mainGlobals "after_family" = some (some (.ref f9)))
  (l9 : K.lookup f9 = some ⟨oc9, od9, .func (PySem.W.fnOf "after_family" "after_family" (defArgs safter_family) (defBody safter_family) (defScope safter_family) .none kV9 dc9 pm9 an9 cd9 ct9), sl9⟩)
  (c9 : PySem.W.codeIn K cd9 "after_family" = true) (k9 : PySem.W.keepIn K (.ref f9) = true)
  (a10 : PySem.W.nsIn K mainGlobals "rests_of" = some (some (.ref f10)))
  (l10 : K.lookup f10 = some ⟨oc10, od10, .func (PySem.W.fnOf "rests_of" "rests_of" (defArgs srests_of) (defBody srests_of) (defScope srests_of) .none kV10 dc10 pm10 an10 cd10 ct10), sl10⟩)
  (c10 : PySem.W.codeIn K cd10 "rests_of" = true) (k10 : PySem.W.keepIn K (.ref f10) = true)
  (a11 : PySem.W.nsIn K mainGlobals "axes" = some (some (.ref f11)))
  (l11 : K.lookup f11 = some ⟨oc11, od11, .func (PySem.W.fnOf "axes" "axes" (defArgs saxes) (defBody saxes) (defScope saxes) .none kV11 dc11 pm11 an11 cd11 ct11), sl11⟩)
  (c11 : PySem.W.codeIn K cd11 "axes" = true) (k11 : PySem.W.keepIn K (.ref f11) = true)
  (a12 : PySem.W.nsIn K mainGlobals "snakes" = some (some (.ref f12)))
  (l12 : K.lookup f12 = some ⟨oc12, od12, .func (PySem.W.fnOf "snakes" "snakes" (defArgs ssnakes) (defBody ssnakes) (defScope ssnakes) .none kV12 dc12 pm12 an12 cd12 ct12), sl12⟩)
  (c12 : PySem.W.codeIn K cd12 "snakes" = true) (k12 : PySem.W.keepIn K (.ref f12) = true)
  (a13 : PySem.W.nsIn K mainGlobals "snake" = some (some (.ref f13)))
  (l13 : K.lookup f13 = some ⟨oc13, od13, .func (PySem.W.fnOf "snake" "snake" (defArgs ssnake) (defBody ssnake) (defScope ssnake) .none kV13 dc13 pm13 an13 cd13 ct13), sl13⟩)
  (c13 : PySem.W.codeIn K cd13 "snake" = true) (k13 : PySem.W.keepIn K (.ref f13) = true)
  (a14 : PySem.W.nsIn K mainGlobals "shear" = some (some (.ref f14)))
  (l14 : K.lookup f14 = some ⟨oc14, od14, .func (PySem.W.fnOf "shear" "shear" (defArgs sshear) (defBody sshear) (defScope sshear) .none kV14 dc14 pm14 an14 cd14 ct14), sl14⟩)
  (c14 : PySem.W.codeIn K cd14 "shear" = true) (k14 : PySem.W.keepIn K (.ref f14) = true)
  (a15 : PySem.W.nsIn K mainGlobals "fewest_rounds" = some (some (.ref f15)))
  (l15 : K.lookup f15 = some ⟨oc15, od15, .func (PySem.W.fnOf "fewest_rounds" "fewest_rounds" (defArgs sfewest_rounds) (defBody sfewest_rounds) (defScope sfewest_rounds) .none kV15 dc15 pm15 an15 cd15 ct15), sl15⟩)
  (c15 : PySem.W.codeIn K cd15 "fewest_rounds" = true) (k15 : PySem.W.keepIn K (.ref f15) = true)
  (a16 : PySem.W.nsIn K mainGlobals "check_lengths" = some (some (.ref f16)))
  (l16 : K.lookup f16 = some ⟨oc16, od16, .func (PySem.W.fnOf "check_lengths" "check_lengths" (defArgs scheck_lengths) (defBody scheck_lengths) (defScope scheck_lengths) .none kV16 dc16 pm16 an16 cd16 ct16), sl16⟩)
  (c16 : PySem.W.codeIn K cd16 "check_lengths" = true) (k16 : PySem.W.keepIn K (.ref f16) = true)
  (a17 : PySem.W.nsIn K mainGlobals "check_table" = some (some (.ref f17)))
  (l17 : K.lookup f17 = some ⟨oc17, od17, .func (PySem.W.fnOf "check_table" "check_table" (defArgs scheck_table) (defBody scheck_table) (defScope scheck_table) .none kV17 dc17 pm17 an17 cd17 ct17), sl17⟩)
  (c17 : PySem.W.codeIn K cd17 "check_table" = true) (k17 : PySem.W.keepIn K (.ref f17) = true)
  (a18 : PySem.W.nsIn K mainGlobals "product_of" = some (some (.ref f18)))
  (l18 : K.lookup f18 = some ⟨oc18, od18, .func (PySem.W.fnOf "product_of" "product_of" (defArgs sproduct_of) (defBody sproduct_of) (defScope sproduct_of) .none kV18 dc18 pm18 an18 cd18 ct18), sl18⟩)
  (c18 : PySem.W.codeIn K cd18 "product_of" = true) (k18 : PySem.W.keepIn K (.ref f18) = true)
  (a19 : PySem.W.nsIn K mainGlobals "chains_along" = some (some (.ref f19)))
  (l19 : K.lookup f19 = some ⟨oc19, od19, .func (PySem.W.fnOf "chains_along" "chains_along" (defArgs schains_along) (defBody schains_along) (defScope schains_along) .none kV19 dc19 pm19 an19 cd19 ct19), sl19⟩)
  (c19 : PySem.W.codeIn K cd19 "chains_along" = true) (k19 : PySem.W.keepIn K (.ref f19) = true)
  (a20 : PySem.W.nsIn K mainGlobals "enough_rounds" = some (some (.ref f20)))
  (l20 : K.lookup f20 = some ⟨oc20, od20, .func (PySem.W.fnOf "enough_rounds" "enough_rounds" (defArgs senough_rounds) (defBody senough_rounds) (defScope senough_rounds) .none kV20 dc20 pm20 an20 cd20 ct20), sl20⟩)
  (c20 : PySem.W.codeIn K cd20 "enough_rounds" = true) (k20 : PySem.W.keepIn K (.ref f20) = true)
  (a21 : PySem.W.nsIn K mainGlobals "after_row" = some (some (.ref f21)))
  (l21 : K.lookup f21 = some ⟨oc21, od21, .func (PySem.W.fnOf "after_row" "after_row" (defArgs safter_row) (defBody safter_row) (defScope safter_row) .none kV21 dc21 pm21 an21 cd21 ct21), sl21⟩)
  (c21 : PySem.W.codeIn K cd21 "after_row" = true) (k21 : PySem.W.keepIn K (.ref f21) = true)
  (a22 : PySem.W.nsIn K mainGlobals "sorted_along" = some (some (.ref f22)))
  (l22 : K.lookup f22 = some ⟨oc22, od22, .func (PySem.W.fnOf "sorted_along" "sorted_along" (defArgs ssorted_along) (defBody ssorted_along) (defScope ssorted_along) .none kV22 dc22 pm22 an22 cd22 ct22), sl22⟩)
  (c22 : PySem.W.codeIn K cd22 "sorted_along" = true) (k22 : PySem.W.keepIn K (.ref f22) = true)
  (a23 : PySem.W.nsIn K mainGlobals "_law_draws" = some (some (.ref f23)))
  (l23 : K.lookup f23 = some ⟨oc23, od23, .func (PySem.W.fnOf "_law_draws" "_law_draws" (defArgs sLDraws) (defBody sLDraws) (defScope sLDraws) .none kV23 dc23 pm23 an23 cd23 ct23), sl23⟩)
  (c23 : PySem.W.codeIn K cd23 "_law_draws" = true) (k23 : PySem.W.keepIn K (.ref f23) = true)
  (a24 : PySem.W.nsIn K mainGlobals "_law_next" = some (some (.ref f24)))
  (l24 : K.lookup f24 = some ⟨oc24, od24, .func (PySem.W.fnOf "_law_next" "_law_next" (defArgs sLNext) (defBody sLNext) (defScope sLNext) .none kV24 dc24 pm24 an24 cd24 ct24), sl24⟩)
  (c24 : PySem.W.codeIn K cd24 "_law_next" = true) (k24 : PySem.W.keepIn K (.ref f24) = true)
  (a25 : PySem.W.nsIn K mainGlobals "_law_sorted" = some (some (.ref f25)))
  (l25 : K.lookup f25 = some ⟨oc25, od25, .func (PySem.W.fnOf "_law_sorted" "_law_sorted" (defArgs s_law_sorted) (defBody s_law_sorted) (defScope s_law_sorted) .none kV25 dc25 pm25 an25 cd25 ct25), sl25⟩)
  (c25 : PySem.W.codeIn K cd25 "_law_sorted" = true) (k25 : PySem.W.keepIn K (.ref f25) = true)
  (a26 : PySem.W.nsIn K mainGlobals "_law_load" = some (some (.ref f26)))
  (l26 : K.lookup f26 = some ⟨oc26, od26, .func (PySem.W.fnOf "_law_load" "_law_load" (defArgs s_law_load) (defBody s_law_load) (defScope s_law_load) .none kV26 dc26 pm26 an26 cd26 ct26), sl26⟩)
  (c26 : PySem.W.codeIn K cd26 "_law_load" = true) (k26 : PySem.W.keepIn K (.ref f26) = true)
  (a27 : PySem.W.nsIn K mainGlobals "_law_parts" = some (some (.ref f27)))
  (l27 : K.lookup f27 = some ⟨oc27, od27, .func (PySem.W.fnOf "_law_parts" "_law_parts" (defArgs s_law_parts) (defBody s_law_parts) (defScope s_law_parts) .none kV27 dc27 pm27 an27 cd27 ct27), sl27⟩)
  (c27 : PySem.W.codeIn K cd27 "_law_parts" = true) (k27 : PySem.W.keepIn K (.ref f27) = true)
  (a28 : PySem.W.nsIn K mainGlobals "_law_halvings" = some (some (.ref f28)))
  (l28 : K.lookup f28 = some ⟨oc28, od28, .func (PySem.W.fnOf "_law_halvings" "_law_halvings" (defArgs s_law_halvings) (defBody s_law_halvings) (defScope s_law_halvings) .none kV28 dc28 pm28 an28 cd28 ct28), sl28⟩)
  (c28 : PySem.W.codeIn K cd28 "_law_halvings" = true) (k28 : PySem.W.keepIn K (.ref f28) = true)
  (a29 : PySem.W.nsIn K mainGlobals "_law_in_snake" = some (some (.ref f29)))
  (l29 : K.lookup f29 = some ⟨oc29, od29, .func (PySem.W.fnOf "_law_in_snake" "_law_in_snake" (defArgs s_law_in_snake) (defBody s_law_in_snake) (defScope s_law_in_snake) .none kV29 dc29 pm29 an29 cd29 ct29), sl29⟩)
  (c29 : PySem.W.codeIn K cd29 "_law_in_snake" = true) (k29 : PySem.W.keepIn K (.ref f29) = true)
  (a30 : PySem.W.nsIn K mainGlobals "_law_both" = some (some (.ref f30)))
  (l30 : K.lookup f30 = some ⟨oc30, od30, .func (PySem.W.fnOf "_law_both" "_law_both" (defArgs s_law_both) (defBody s_law_both) (defScope s_law_both) .none kV30 dc30 pm30 an30 cd30 ct30), sl30⟩)
  (c30 : PySem.W.codeIn K cd30 "_law_both" = true) (k30 : PySem.W.keepIn K (.ref f30) = true)
  (a31 : PySem.W.nsIn K mainGlobals "_law_row_right" = some (some (.ref f31)))
  (l31 : K.lookup f31 = some ⟨oc31, od31, .func (PySem.W.fnOf "_law_row_right" "_law_row_right" (defArgs s_law_row_right) (defBody s_law_row_right) (defScope s_law_row_right) .none kV31 dc31 pm31 an31 cd31 ct31), sl31⟩)
  (c31 : PySem.W.codeIn K cd31 "_law_row_right" = true) (k31 : PySem.W.keepIn K (.ref f31) = true)
  (a32 : PySem.W.nsIn K mainGlobals "_law_halved" = some (some (.ref f32)))
  (l32 : K.lookup f32 = some ⟨oc32, od32, .func (PySem.W.fnOf "_law_halved" "_law_halved" (defArgs s_law_halved) (defBody s_law_halved) (defScope s_law_halved) .none kV32 dc32 pm32 an32 cd32 ct32), sl32⟩)
  (c32 : PySem.W.codeIn K cd32 "_law_halved" = true) (k32 : PySem.W.keepIn K (.ref f32) = true)
  (a33 : PySem.W.nsIn K mainGlobals "_law_small_right" = some (some (.ref f33)))
  (l33 : K.lookup f33 = some ⟨oc33, od33, .func (PySem.W.fnOf "_law_small_right" "_law_small_right" (defArgs s_law_small_right) (defBody s_law_small_right) (defScope s_law_small_right) .none kV33 dc33 pm33 an33 cd33 ct33), sl33⟩)
  (c33 : PySem.W.codeIn K cd33 "_law_small_right" = true) (k33 : PySem.W.keepIn K (.ref f33) = true)
  (a34 : PySem.W.nsIn K mainGlobals "law" = some (some (.ref f34)))
  (l34 : K.lookup f34 = some ⟨oc34, od34, .func (PySem.W.fnOf "law" "law" (defArgs sLaw) (defBody sLaw) (defScope sLaw) .none kV34 dc34 pm34 an34 cd34 ct34), sl34⟩)
  (c34 : PySem.W.codeIn K cd34 "law" = true) (k34 : PySem.W.keepIn K (.ref f34) = true)
  (zlen : PySem.W.nsIn K mainGlobals "len" = some none)
  (zisi : PySem.W.nsIn K mainGlobals "isinstance" = some none)
  (zint : PySem.W.nsIn K mainGlobals "int" = some none)
  (zbool : PySem.W.nsIn K mainGlobals "bool" = some none)
  (zlist : PySem.W.nsIn K mainGlobals "list" = some none)
  (zenum : PySem.W.nsIn K mainGlobals "enumerate" = some none)
  (zset : PySem.W.nsIn K mainGlobals "set" = some none)
  (zzip : PySem.W.nsIn K mainGlobals "zip" = some none)
  (zsorted : PySem.W.nsIn K mainGlobals "sorted" = some none)
  (zrange : PySem.W.nsIn K mainGlobals "range" = some none)
  (zrepr : PySem.W.nsIn K mainGlobals "repr" = some none)
  (zmin : PySem.W.nsIn K mainGlobals "min" = some none)
  (zany : PySem.W.nsIn K mainGlobals "any" = some none)
  (zsum : PySem.W.nsIn K mainGlobals "sum" = some none)
  (mM : PySem.W.nsIn K mainGlobals "MOST_PLACES" = some (some (.int 40 tM)))
  (mS : PySem.W.nsIn K mainGlobals "MOST_SIDES" = some (some (.int 4 tS)))
  (mR : PySem.W.nsIn K mainGlobals "MOST_PLACES_OF_ROUNDS" = some (some (.int 12 tR)))
  : ∃ fd : FuncData, (∀ (s : Shared) (v : Value), BindsTo s fd ⟨[v], []⟩ [("script", v)]) ∧ ∀ base : Heap, K.In base → base.Ns mainGlobals mg → FnG l.prog w K mg base 10 fa fd ["script"] (spLaw K []) := by
  have e := hfa.symm.trans (PySem.W.mg_of X G a34)
  cases e
  have N : Nb mg := ⟨PySem.W.mg_none_of X G zlen, PySem.W.mg_none_of X G zisi, PySem.W.mg_none_of X G zint, PySem.W.mg_none_of X G zbool, PySem.W.mg_none_of X G zlist, PySem.W.mg_none_of X G zenum, PySem.W.mg_none_of X G zset, PySem.W.mg_none_of X G zzip, PySem.W.mg_none_of X G zsorted, PySem.W.mg_none_of X G zrange, PySem.W.mg_none_of X G zrepr, PySem.W.mg_none_of X G zmin, PySem.W.mg_none_of X G zany, PySem.W.mg_none_of X G zsum⟩
  have F1 := fun_mk (st := sWhole) l1 c1 k1
  have b1 := F1.binds (ps := ["thing"]) fun _ _ _ _ _ _ us hl => match us, hl with | [_], _ => rfl
  have F2 := fun_mk (st := sWithin) l2 c2 k2
  have b2 := F2.binds (ps := ["thing", "least", "most"]) fun _ _ _ _ _ _ us hl => match us, hl with | [_, _, _], _ => rfl
  have F3 := fun_mk (st := sChNum) l3 c3 k3
  have b3 := F3.binds (ps := ["number", "most"]) fun _ _ _ _ _ _ us hl => match us, hl with | [_, _], _ => rfl
  have F4 := fun_mk (st := sChFill) l4 c4 k4
  have b4 := F4.binds (ps := ["filling"]) fun _ _ _ _ _ _ us hl => match us, hl with | [_], _ => rfl
  have F5 := fun_mk (st := sChRow) l5 c5 k5
  have b5 := F5.binds (ps := ["places", "row"]) fun _ _ _ _ _ _ us hl => match us, hl with | [_, _], _ => rfl
  have F6 := fun_mk (st := sFault) l6 c6 k6
  have b6 := F6.binds (ps := ["places", "family"]) fun _ _ _ _ _ _ us hl => match us, hl with | [_, _], _ => rfl
  have F7 := fun_mk (st := smark_of) l7 c7 k7
  have b7 := F7.binds (ps := ["places", "place"]) fun _ _ _ _ _ _ us hl => match us, hl with | [_, _], _ => rfl
  have F8 := fun_mk (st := scounts_of_ones) l8 c8 k8
  have b8 := F8.binds (ps := ["places"]) fun _ _ _ _ _ _ us hl => match us, hl with | [_], _ => rfl
  have F9 := fun_mk (st := safter_family) l9 c9 k9
  have b9 := F9.binds (ps := ["places", "family"]) fun _ _ _ _ _ _ us hl => match us, hl with | [_, _], _ => rfl
  have F10 := fun_mk (st := srests_of) l10 c10 k10
  have b10 := F10.binds (ps := ["places", "chain"]) fun _ _ _ _ _ _ us hl => match us, hl with | [_, _], _ => rfl
  have F11 := fun_mk (st := saxes) l11 c11 k11
  have b11 := F11.binds (ps := ["lengths"]) fun _ _ _ _ _ _ us hl => match us, hl with | [_], _ => rfl
  have F12 := fun_mk (st := ssnakes) l12 c12 k12
  have b12 := F12.binds (ps := ["rows", "columns"]) fun _ _ _ _ _ _ us hl => match us, hl with | [_, _], _ => rfl
  have F13 := fun_mk (st := ssnake) l13 c13 k13
  have b13 := F13.binds (ps := ["rows", "columns"]) fun _ _ _ _ _ _ us hl => match us, hl with | [_, _], _ => rfl
  have F14 := fun_mk (st := sshear) l14 c14 k14
  have b14 := F14.binds (ps := ["rows", "columns"]) fun _ _ _ _ _ _ us hl => match us, hl with | [_, _], _ => rfl
  have F15 := fun_mk (st := sfewest_rounds) l15 c15 k15
  have b15 := F15.binds (ps := ["rows", "columns"]) fun _ _ _ _ _ _ us hl => match us, hl with | [_, _], _ => rfl
  have F16 := fun_mk (st := scheck_lengths) l16 c16 k16
  have b16 := F16.binds (ps := ["lengths"]) fun _ _ _ _ _ _ us hl => match us, hl with | [_], _ => rfl
  have F17 := fun_mk (st := scheck_table) l17 c17 k17
  have b17 := F17.binds (ps := ["rows", "columns", "most"]) fun _ _ _ _ _ _ us hl => match us, hl with | [_, _, _], _ => rfl
  have F18 := fun_mk (st := sproduct_of) l18 c18 k18
  have b18 := F18.binds (ps := ["numbers"]) fun _ _ _ _ _ _ us hl => match us, hl with | [_], _ => rfl
  have F19 := fun_mk (st := schains_along) l19 c19 k19
  have b19 := F19.binds (ps := ["lengths", "side"]) fun _ _ _ _ _ _ us hl => match us, hl with | [_, _], _ => rfl
  have F20 := fun_mk (st := senough_rounds) l20 c20 k20
  have b20 := F20.binds (ps := ["rows"]) fun _ _ _ _ _ _ us hl => match us, hl with | [_], _ => rfl
  have F21 := fun_mk (st := safter_row) l21 c21 k21
  have b21 := F21.binds (ps := ["filling", "row"]) fun _ _ _ _ _ _ us hl => match us, hl with | [_, _], _ => rfl
  have F22 := fun_mk (st := ssorted_along) l22 c22 k22
  have b22 := F22.binds (ps := ["filling", "family"]) fun _ _ _ _ _ _ us hl => match us, hl with | [_, _], _ => rfl
  have F23 := fun_mk (st := sLDraws) l23 c23 k23
  have b23 := F23.binds (ps := ["cell"]) fun _ _ _ _ _ _ us hl => match us, hl with | [_], _ => rfl
  have F24 := fun_mk (st := sLNext) l24 c24 k24
  have b24 := F24.binds (ps := ["draws"]) fun _ _ _ _ _ _ us hl => match us, hl with | [_], _ => rfl
  have F25 := fun_mk (st := s_law_sorted) l25 c25 k25
  have b25 := F25.binds (ps := ["load", "lot"]) fun _ _ _ _ _ _ us hl => match us, hl with | [_, _], _ => rfl
  have F26 := fun_mk (st := s_law_load) l26 c26 k26
  have b26 := F26.binds (ps := ["draws", "many"]) fun _ _ _ _ _ _ us hl => match us, hl with | [_, _], _ => rfl
  have F27 := fun_mk (st := s_law_parts) l27 c27 k27
  have b27 := F27.binds (ps := ["high", "wide"]) fun _ _ _ _ _ _ us hl => match us, hl with | [_, _], _ => rfl
  have F28 := fun_mk (st := s_law_halvings) l28 c28 k28
  have b28 := F28.binds (ps := ["high"]) fun _ _ _ _ _ _ us hl => match us, hl with | [_], _ => rfl
  have F29 := fun_mk (st := s_law_in_snake) l29 c29 k29
  have b29 := F29.binds (ps := ["load", "high", "wide"]) fun _ _ _ _ _ _ us hl => match us, hl with | [_, _, _], _ => rfl
  have F30 := fun_mk (st := s_law_both) l30 c30 k30
  have b30 := F30.binds (ps := ["load", "high", "wide"]) fun _ _ _ _ _ _ us hl => match us, hl with | [_, _, _], _ => rfl
  have F31 := fun_mk (st := s_law_row_right) l31 c31 k31
  have b31 := F31.binds (ps := ["high", "wide"]) fun _ _ _ _ _ _ us hl => match us, hl with | [_, _], _ => rfl
  have F32 := fun_mk (st := s_law_halved) l32 c32 k32
  have b32 := F32.binds (ps := ["load", "high", "wide"]) fun _ _ _ _ _ _ us hl => match us, hl with | [_, _, _], _ => rfl
  have F33 := fun_mk (st := s_law_small_right) l33 c33 k33
  have b33 := F33.binds (ps := ["high", "wide"]) fun _ _ _ _ _ _ us hl => match us, hl with | [_, _], _ => rfl
  have F34 := fun_mk (st := sLaw) l34 c34 k34
  have kb14 := Dt.kb_prm (ps := ["rows", "columns"]) (ks := ["columns", "rows"]) (n := 2) (is := [1, 0]) F14 (by decide) fun _ _ _ _ _ _ ws hl => match ws, hl with | [_, _], _ => rfl
  have kb15 := Dt.kb_prm (ps := ["rows", "columns"]) (ks := ["columns", "rows"]) (n := 2) (is := [1, 0]) F15 (by decide) fun _ _ _ _ _ _ ws hl => match ws, hl with | [_, _], _ => rfl
  refine ⟨PySem.W.fnOf "law" "law" (defArgs sLaw) (defBody sLaw) (defScope sLaw) .none kV34 dc34 pm34 an34 cd34 ct34, fun s v => .of_eq rfl, fun base _ _ => ?_⟩
  have g1 : mg "is_whole" = some (.ref f1) := PySem.W.mg_of X G a1
  have g2 : mg "is_whole_within" = some (.ref f2) := PySem.W.mg_of X G a2
  have g3 : mg "check_number" = some (.ref f3) := PySem.W.mg_of X G a3
  have g4 : mg "check_filling" = some (.ref f4) := PySem.W.mg_of X G a4
  have g5 : mg "check_row" = some (.ref f5) := PySem.W.mg_of X G a5
  have g6 : mg "fault_of_family" = some (.ref f6) := PySem.W.mg_of X G a6
  have g7 : mg "mark_of" = some (.ref f7) := PySem.W.mg_of X G a7
  have g8 : mg "counts_of_ones" = some (.ref f8) := PySem.W.mg_of X G a8
  have g9 : mg "after_family" = some (.ref f9) := PySem.W.mg_of X G a9
  have g10 : mg "rests_of" = some (.ref f10) := PySem.W.mg_of X G a10
  have g11 : mg "axes" = some (.ref f11) := PySem.W.mg_of X G a11
  have g12 : mg "snakes" = some (.ref f12) := PySem.W.mg_of X G a12
  have g13 : mg "snake" = some (.ref f13) := PySem.W.mg_of X G a13
  have g14 : mg "shear" = some (.ref f14) := PySem.W.mg_of X G a14
  have g15 : mg "fewest_rounds" = some (.ref f15) := PySem.W.mg_of X G a15
  have g16 : mg "check_lengths" = some (.ref f16) := PySem.W.mg_of X G a16
  have g17 : mg "check_table" = some (.ref f17) := PySem.W.mg_of X G a17
  have g18 : mg "product_of" = some (.ref f18) := PySem.W.mg_of X G a18
  have g19 : mg "chains_along" = some (.ref f19) := PySem.W.mg_of X G a19
  have g20 : mg "enough_rounds" = some (.ref f20) := PySem.W.mg_of X G a20
  have g21 : mg "after_row" = some (.ref f21) := PySem.W.mg_of X G a21
  have g22 : mg "sorted_along" = some (.ref f22) := PySem.W.mg_of X G a22
  have g23 : mg "_law_draws" = some (.ref f23) := PySem.W.mg_of X G a23
  have g24 : mg "_law_next" = some (.ref f24) := PySem.W.mg_of X G a24
  have g25 : mg "_law_sorted" = some (.ref f25) := PySem.W.mg_of X G a25
  have g26 : mg "_law_load" = some (.ref f26) := PySem.W.mg_of X G a26
  have g27 : mg "_law_parts" = some (.ref f27) := PySem.W.mg_of X G a27
  have g28 : mg "_law_halvings" = some (.ref f28) := PySem.W.mg_of X G a28
  have g29 : mg "_law_in_snake" = some (.ref f29) := PySem.W.mg_of X G a29
  have g30 : mg "_law_both" = some (.ref f30) := PySem.W.mg_of X G a30
  have g31 : mg "_law_row_right" = some (.ref f31) := PySem.W.mg_of X G a31
  have g32 : mg "_law_halved" = some (.ref f32) := PySem.W.mg_of X G a32
  have g33 : mg "_law_small_right" = some (.ref f33) := PySem.W.mg_of X G a33
  have G1 := ok_whole (P := l.prog) (w := w) (mg := mg) (base := base) F1 N
  have G2 := ok_within F2 G1 b1 g1 k1
  have G3 := ok_chNum F3 G2 b2 g2 k2
  have G4 := ok_chFill F4 N (PySem.W.mg_of X G mM) G1 b1 g1 k1
  have G6 := ok_fault F6 N G2 b2 g2 k2
  have G5 := ok_chRow F5 N G6 b6 g6 k6
  have G23 := ok_ldraws (P := l.prog) (w := w) (mg := mg) (base := base) F23 N
  have G24 := ok_lnext (P := l.prog) (w := w) (mg := mg) (base := base) F24 N
  have D3 := (d_chNum (w := (⟨w, []⟩ : Dt.Ww)) G3)
  have h3 : Dt.Has l.prog (⟨w, []⟩ : Dt.Ww) K mg base "check_number" _ _ _ := ⟨⟨_, _, D3, b3, g3, k3⟩⟩
  have D4 := (d_chFill (w := (⟨w, []⟩ : Dt.Ww)) G4)
  have h4 : Dt.Has l.prog (⟨w, []⟩ : Dt.Ww) K mg base "check_filling" _ _ _ := ⟨⟨_, _, D4, b4, g4, k4⟩⟩
  have D5 := (d_chRow (w := (⟨w, []⟩ : Dt.Ww)) G5)
  have h5 : Dt.Has l.prog (⟨w, []⟩ : Dt.Ww) K mg base "check_row" _ _ _ := ⟨⟨_, _, D5, b5, g5, k5⟩⟩
  have D24 := (d_next (w := (⟨w, []⟩ : Dt.Ww)) G24)
  have h24 : Dt.Has l.prog (⟨w, []⟩ : Dt.Ww) K mg base "_law_next" _ _ _ := ⟨⟨_, _, D24, b24, g24, k24⟩⟩
  have D7 := okmark_of (P := l.prog) (w := (⟨w, []⟩ : Dt.Ww)) (mg := mg) (base := base) F7 N 
  have h7 : Dt.Has l.prog (⟨w, []⟩ : Dt.Ww) K mg base "mark_of" _ _ _ := ⟨⟨_, _, D7, b7, g7, k7⟩⟩
  have D8 := okcounts_of_ones (P := l.prog) (w := (⟨w, []⟩ : Dt.Ww)) (mg := mg) (base := base) F8 N 
  have h8 : Dt.Has l.prog (⟨w, []⟩ : Dt.Ww) K mg base "counts_of_ones" _ _ _ := ⟨⟨_, _, D8, b8, g8, k8⟩⟩
  have D10 := okrests_of (P := l.prog) (w := (⟨w, []⟩ : Dt.Ww)) (mg := mg) (base := base) F10 N h7
  have h10 : Dt.Has l.prog (⟨w, []⟩ : Dt.Ww) K mg base "rests_of" _ _ _ := ⟨⟨_, _, D10, b10, g10, k10⟩⟩
  have D9 := okafter_family (P := l.prog) (w := (⟨w, []⟩ : Dt.Ww)) (mg := mg) (base := base) F9 N h8 h10
  have h9 : Dt.Has l.prog (⟨w, []⟩ : Dt.Ww) K mg base "after_family" _ _ _ := ⟨⟨_, _, D9, b9, g9, k9⟩⟩
  have D18 := okproduct_of (P := l.prog) (w := (⟨w, []⟩ : Dt.Ww)) (mg := mg) (base := base) F18 N 
  have h18 : Dt.Has l.prog (⟨w, []⟩ : Dt.Ww) K mg base "product_of" _ _ _ := ⟨⟨_, _, D18, b18, g18, k18⟩⟩
  have D16 := okcheck_lengths (P := l.prog) (w := (⟨w, []⟩ : Dt.Ww)) (mg := mg) (base := base) F16 N h3 h18 (PySem.W.mg_of X G mM) (PySem.W.mg_of X G mS)
  have h16 : Dt.Has l.prog (⟨w, []⟩ : Dt.Ww) K mg base "check_lengths" _ _ _ := ⟨⟨_, _, D16, b16, g16, k16⟩⟩
  have D17 := okcheck_table (P := l.prog) (w := (⟨w, []⟩ : Dt.Ww)) (mg := mg) (base := base) F17 N h3
  have h17 : Dt.Has l.prog (⟨w, []⟩ : Dt.Ww) K mg base "check_table" _ _ _ := ⟨⟨_, _, D17, b17, g17, k17⟩⟩
  have D20 := okenough_rounds (P := l.prog) (w := (⟨w, []⟩ : Dt.Ww)) (mg := mg) (base := base) F20 N 
  have h20 : Dt.Has l.prog (⟨w, []⟩ : Dt.Ww) K mg base "enough_rounds" _ _ _ := ⟨⟨_, _, D20, b20, g20, k20⟩⟩
  have D19 := okchains_along (P := l.prog) (w := (⟨w, []⟩ : Dt.Ww)) (mg := mg) (base := base) F19 N h18
  have h19 : Dt.Has l.prog (⟨w, []⟩ : Dt.Ww) K mg base "chains_along" _ _ _ := ⟨⟨_, _, D19, b19, g19, k19⟩⟩
  have D11 := okaxes (P := l.prog) (w := (⟨w, []⟩ : Dt.Ww)) (mg := mg) (base := base) F11 N h19 h16
  have h11 : Dt.Has l.prog (⟨w, []⟩ : Dt.Ww) K mg base "axes" _ _ _ := ⟨⟨_, _, D11, b11, g11, k11⟩⟩
  have D12 := oksnakes (P := l.prog) (w := (⟨w, []⟩ : Dt.Ww)) (mg := mg) (base := base) F12 N h11 h17 (PySem.W.mg_of X G mM)
  have h12 : Dt.Has l.prog (⟨w, []⟩ : Dt.Ww) K mg base "snakes" _ _ _ := ⟨⟨_, _, D12, b12, g12, k12⟩⟩
  have D13 := oksnake (P := l.prog) (w := (⟨w, []⟩ : Dt.Ww)) (mg := mg) (base := base) F13 N h12
  have h13 : Dt.Has l.prog (⟨w, []⟩ : Dt.Ww) K mg base "snake" _ _ _ := ⟨⟨_, _, D13, b13, g13, k13⟩⟩
  have D14 := okshear (P := l.prog) (w := (⟨w, []⟩ : Dt.Ww)) (mg := mg) (base := base) F14 N h11 h17 h20 h12 (PySem.W.mg_of X G mM)
  have h14 : Dt.Has l.prog (⟨w, []⟩ : Dt.Ww) K mg base "shear" _ _ _ := ⟨⟨_, _, D14, b14, g14, k14⟩⟩
  have q14_1_0 : Dt.HasK l.prog (⟨w, []⟩ : Dt.Ww) K mg base "shear" _ _ ["columns", "rows"] (Dt.kwp 2 [1, 0]) (Dt.kwp 2 [1, 0]) _ := ⟨⟨_, _, D14, kb14, g14, k14⟩⟩
  have D15 := okfewest_rounds (P := l.prog) (w := (⟨w, []⟩ : Dt.Ww)) (mg := mg) (base := base) F15 N h9 h11 h17 h13 h12 (PySem.W.mg_of X G mR)
  have h15 : Dt.Has l.prog (⟨w, []⟩ : Dt.Ww) K mg base "fewest_rounds" _ _ _ := ⟨⟨_, _, D15, b15, g15, k15⟩⟩
  have q15_1_0 : Dt.HasK l.prog (⟨w, []⟩ : Dt.Ww) K mg base "fewest_rounds" _ _ ["columns", "rows"] (Dt.kwp 2 [1, 0]) (Dt.kwp 2 [1, 0]) _ := ⟨⟨_, _, D15, kb15, g15, k15⟩⟩
  have D22 := oksorted_along (P := l.prog) (w := (⟨w, []⟩ : Dt.Ww)) (mg := mg) (base := base) F22 N 
  have h22 : Dt.Has l.prog (⟨w, []⟩ : Dt.Ww) K mg base "sorted_along" _ _ _ := ⟨⟨_, _, D22, b22, g22, k22⟩⟩
  have D21 := okafter_row (P := l.prog) (w := (⟨w, []⟩ : Dt.Ww)) (mg := mg) (base := base) F21 N h4 h5 h22
  have h21 : Dt.Has l.prog (⟨w, []⟩ : Dt.Ww) K mg base "after_row" _ _ _ := ⟨⟨_, _, D21, b21, g21, k21⟩⟩
  have D25 := ok_law_sorted (P := l.prog) (w := (⟨w, []⟩ : Dt.Ww)) (mg := mg) (base := base) F25 N 
  have h25 : Dt.Has l.prog (⟨w, []⟩ : Dt.Ww) K mg base "_law_sorted" _ _ _ := ⟨⟨_, _, D25, b25, g25, k25⟩⟩
  have D26 := ok_law_load (P := l.prog) (w := (⟨w, []⟩ : Dt.Ww)) (mg := mg) (base := base) F26 N h24
  have h26 : Dt.Has l.prog (⟨w, []⟩ : Dt.Ww) K mg base "_law_load" _ _ _ := ⟨⟨_, _, D26, b26, g26, k26⟩⟩
  have D27 := ok_law_parts (P := l.prog) (w := (⟨w, []⟩ : Dt.Ww)) (mg := mg) (base := base) F27 N 
  have h27 : Dt.Has l.prog (⟨w, []⟩ : Dt.Ww) K mg base "_law_parts" _ _ _ := ⟨⟨_, _, D27, b27, g27, k27⟩⟩
  have D28 := ok_law_halvings (P := l.prog) (w := (⟨w, []⟩ : Dt.Ww)) (mg := mg) (base := base) F28 N 
  have h28 : Dt.Has l.prog (⟨w, []⟩ : Dt.Ww) K mg base "_law_halvings" _ _ _ := ⟨⟨_, _, D28, b28, g28, k28⟩⟩
  have D29 := ok_law_in_snake (P := l.prog) (w := (⟨w, []⟩ : Dt.Ww)) (mg := mg) (base := base) F29 N h27
  have h29 : Dt.Has l.prog (⟨w, []⟩ : Dt.Ww) K mg base "_law_in_snake" _ _ _ := ⟨⟨_, _, D29, b29, g29, k29⟩⟩
  have D30 := ok_law_both (P := l.prog) (w := (⟨w, []⟩ : Dt.Ww)) (mg := mg) (base := base) F30 N 
  have h30 : Dt.Has l.prog (⟨w, []⟩ : Dt.Ww) K mg base "_law_both" _ _ _ := ⟨⟨_, _, D30, b30, g30, k30⟩⟩
  have D32 := ok_law_halved (P := l.prog) (w := (⟨w, []⟩ : Dt.Ww)) (mg := mg) (base := base) F32 N h30 h28 h29 h27 h25
  have h32 : Dt.Has l.prog (⟨w, []⟩ : Dt.Ww) K mg base "_law_halved" _ _ _ := ⟨⟨_, _, D32, b32, g32, k32⟩⟩
  have D33 := ok_law_small_right (P := l.prog) (w := (⟨w, []⟩ : Dt.Ww)) (mg := mg) (base := base) F33 N h32 h28 h29 h27 h25 h15 q15_1_0
  have h33 : Dt.Has l.prog (⟨w, []⟩ : Dt.Ww) K mg base "_law_small_right" _ _ _ := ⟨⟨_, _, D33, b33, g33, k33⟩⟩
  have D31 := ok_law_row_right (P := l.prog) (w := (⟨w, []⟩ : Dt.Ww)) (mg := mg) (base := base) F31 N h28 h27 h14 q14_1_0
  have h31 : Dt.Has l.prog (⟨w, []⟩ : Dt.Ww) K mg base "_law_row_right" _ _ _ := ⟨⟨_, _, D31, b31, g31, k31⟩⟩
  exact ok_law (w := (⟨w, []⟩ : Dt.Ww)) F34 N ⟨G23, b23, g23, k23⟩ h32 h29 h26 h24 h31 h33 h21 h15 h14 h13
end K51
open PySem PySem.W PyProof.Rows
set_option maxRecDepth 100000 in
set_option maxHeartbeats 0 in
theorem PySem.Challenge.cw_keptsorted_k51_whole_shear_holds : PySem.Challenge.rw_keptsorted_k51_whole_shear.Holds := by
  w_on; o_law; k_head; (case hw => w_witness2)
  k_fill
  refine Kt.walkG (l := PySem.Challenge.rw_keptsorted_k51_whole_shear) (n := 63) (k := 10) (x := "script") (sp := fun K => K51.spLaw K []) rfl (by decide) rfl ⟨rfl, by decide, by decide⟩ (fun w h Y => PySem.W.kIn_of Y) ?F (fun K H a ns hl hS => ⟨a, ns, rfl, hS, hl, (fun p hp => by cases hp), fun _ => rfl⟩)
  case F =>
    intro w mg fa h KX G hmg
    refine' K51.all_mk KX G hmg ?a1 ?l1 ?c1 ?k1 ?a2 ?l2 ?c2 ?k2 ?a3 ?l3 ?c3 ?k3 ?a4 ?l4 ?c4 ?k4 ?a5 ?l5 ?c5 ?k5 ?a6 ?l6 ?c6 ?k6 ?a7 ?l7 ?c7 ?k7 ?a8 ?l8 ?c8 ?k8 ?a9 ?l9 ?c9 ?k9 ?a10 ?l10 ?c10 ?k10 ?a11 ?l11 ?c11 ?k11 ?a12 ?l12 ?c12 ?k12 ?a13 ?l13 ?c13 ?k13 ?a14 ?l14 ?c14 ?k14 ?a15 ?l15 ?c15 ?k15 ?a16 ?l16 ?c16 ?k16 ?a17 ?l17 ?c17 ?k17 ?a18 ?l18 ?c18 ?k18 ?a19 ?l19 ?c19 ?k19 ?a20 ?l20 ?c20 ?k20 ?a21 ?l21 ?c21 ?k21 ?a22 ?l22 ?c22 ?k22 ?a23 ?l23 ?c23 ?k23 ?a24 ?l24 ?c24 ?k24 ?a25 ?l25 ?c25 ?k25 ?a26 ?l26 ?c26 ?k26 ?a27 ?l27 ?c27 ?k27 ?a28 ?l28 ?c28 ?k28 ?a29 ?l29 ?c29 ?k29 ?a30 ?l30 ?c30 ?k30 ?a31 ?l31 ?c31 ?k31 ?a32 ?l32 ?c32 ?k32 ?a33 ?l33 ?c33 ?k33 ?a34 ?l34 ?c34 ?k34 ?zlen ?zisi ?zint ?zbool ?zlist ?zenum ?zset ?zzip ?zsorted ?zrange ?zrepr ?zmin ?zany ?zsum ?mM ?mS ?mR
    (case a1 => k_is)
    (case l1 => k_is)
    (case c1 => k_is)
    (case k1 => k_is)
    (case a2 => k_is)
    (case l2 => k_is)
    (case c2 => k_is)
    (case k2 => k_is)
    (case a3 => k_is)
    (case l3 => k_is)
    (case c3 => k_is)
    (case k3 => k_is)
    (case a4 => k_is)
    (case l4 => k_is)
    (case c4 => k_is)
    (case k4 => k_is)
    (case a5 => k_is)
    (case l5 => k_is)
    (case c5 => k_is)
    (case k5 => k_is)
    (case a6 => k_is)
    (case l6 => k_is)
    (case c6 => k_is)
    (case k6 => k_is)
    (case a7 => k_is)
    (case l7 => k_is)
    (case c7 => k_is)
    (case k7 => k_is)
    (case a8 => k_is)
    (case l8 => k_is)
    (case c8 => k_is)
    (case k8 => k_is)
    (case a9 => k_is)
    (case l9 => k_is)
    (case c9 => k_is)
    (case k9 => k_is)
    (case a10 => k_is)
    (case l10 => k_is)
    (case c10 => k_is)
    (case k10 => k_is)
    (case a11 => k_is)
    (case l11 => k_is)
    (case c11 => k_is)
    (case k11 => k_is)
    (case a12 => k_is)
    (case l12 => k_is)
    (case c12 => k_is)
    (case k12 => k_is)
    (case a13 => k_is)
    (case l13 => k_is)
    (case c13 => k_is)
    (case k13 => k_is)
    (case a14 => k_is)
    (case l14 => k_is)
    (case c14 => k_is)
    (case k14 => k_is)
    (case a15 => k_is)
    (case l15 => k_is)
    (case c15 => k_is)
    (case k15 => k_is)
    (case a16 => k_is)
    (case l16 => k_is)
    (case c16 => k_is)
    (case k16 => k_is)
    (case a17 => k_is)
    (case l17 => k_is)
    (case c17 => k_is)
    (case k17 => k_is)
    (case a18 => k_is)
    (case l18 => k_is)
    (case c18 => k_is)
    (case k18 => k_is)
    (case a19 => k_is)
    (case l19 => k_is)
    (case c19 => k_is)
    (case k19 => k_is)
    (case a20 => k_is)
    (case l20 => k_is)
    (case c20 => k_is)
    (case k20 => k_is)
    (case a21 => k_is)
    (case l21 => k_is)
    (case c21 => k_is)
    (case k21 => k_is)
    (case a22 => k_is)
    (case l22 => k_is)
    (case c22 => k_is)
    (case k22 => k_is)
    (case a23 => k_is)
    (case l23 => k_is)
    (case c23 => k_is)
    (case k23 => k_is)
    (case a24 => k_is)
    (case l24 => k_is)
    (case c24 => k_is)
    (case k24 => k_is)
    (case a25 => k_is)
    (case l25 => k_is)
    (case c25 => k_is)
    (case k25 => k_is)
    (case a26 => k_is)
    (case l26 => k_is)
    (case c26 => k_is)
    (case k26 => k_is)
    (case a27 => k_is)
    (case l27 => k_is)
    (case c27 => k_is)
    (case k27 => k_is)
    (case a28 => k_is)
    (case l28 => k_is)
    (case c28 => k_is)
    (case k28 => k_is)
    (case a29 => k_is)
    (case l29 => k_is)
    (case c29 => k_is)
    (case k29 => k_is)
    (case a30 => k_is)
    (case l30 => k_is)
    (case c30 => k_is)
    (case k30 => k_is)
    (case a31 => k_is)
    (case l31 => k_is)
    (case c31 => k_is)
    (case k31 => k_is)
    (case a32 => k_is)
    (case l32 => k_is)
    (case c32 => k_is)
    (case k32 => k_is)
    (case a33 => k_is)
    (case l33 => k_is)
    (case c33 => k_is)
    (case k33 => k_is)
    (case a34 => k_is)
    (case l34 => k_is)
    (case c34 => k_is)
    (case k34 => k_is)
    (case zlen => k_is)
    (case zisi => k_is)
    (case zint => k_is)
    (case zbool => k_is)
    (case zlist => k_is)
    (case zenum => k_is)
    (case zset => k_is)
    (case zzip => k_is)
    (case zsorted => k_is)
    (case zrange => k_is)
    (case zrepr => k_is)
    (case zmin => k_is)
    (case zany => k_is)
    (case zsum => k_is)
    (case mM => k_is)
    (case mS => k_is)
    (case mR => k_is)
#print axioms PySem.Challenge.cw_keptsorted_k51_whole_shear_holds



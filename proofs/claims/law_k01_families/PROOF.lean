import PyProof.Rows.All
import Wide.All
import OpenK.AllK
import Wide.FinOn
import HandS.ForMost
import HandS.Strs
import HandS.SortInts
import HandS.Conv
import HandS.Walk
import HandS.IsInst
import HandS.Defaults
import HandS.Wide
import HandS.RaiseMore
import PyProof.ReprRoads
import PyProof.ReprLen
import PySem.Challenge.RW_keptsorted_k01_families
set_option Elab.async false
set_option linter.all false
set_option maxRecDepth 100000
set_option maxHeartbeats 4000000
/-! A layer of my own over the hand layer: repr of data (with the guards told), calls whose promise wants the guards, calls by keywords alone, list(range) with a step, great powers. -/
namespace Kt
open PySem L2 PyProof.Rows

/-! ### promises that want to know that no repr is under way -/
structure FnG (P : Program) (w : World) (K : PySem.W.Frag) (mg : Str → Option Value) (base : Heap) (k : Nat) (f : Addr) (fd : FuncData) (ps : List Str) (sp : Sp) : Prop where
  arity : ∀ vs H Q, sp vs H Q E0 → vs.length = ps.length
  go : ∀ (A : Around) (below : List Env) (s : Shared) (H : Hp) (args : Args) (us : List Value) (vs : List V) (Q : VK), Room k A → A.guards = some [] → Env0 P w K mg base A below s H →
    BindsTo s fd args (ps.zip us) → Vals vs us → sp vs H Q E0 → codeAny (model P w) A (.call (.ref f) args) (CR CX0 below P w H s Q E0) s

theorem FnG.up {P : Program} {w : World} {K : PySem.W.Frag} {mg : Str → Option Value} {base : Heap} {j k : Nat} {f : Addr} {fd : FuncData} {ps : List Str} {sp : Sp} (F : FnG P w K mg base j f fd ps sp) (h : j ≤ k) : FnG P w K mg base k f fd ps sp :=
  ⟨F.arity, fun A below s H args us vs Q hr => F.go A below s H args us vs Q (hr.mono h)⟩

/-- a def's promise, shown where no repr is under way -/
theorem fnG_of {P : Program} {w : World} {K : PySem.W.Frag} {mg : Str → Option Value} {base : Heap} {x qual : Str} {st : Stmt} {f : Addr} {fd : FuncData} {N ps : List Str} {k : Nat} {sp : Sp} (F : Fun K x qual st f fd) (S : FnScope N ps (defScope st))
    (arity : ∀ vs H Q, sp vs H Q E0 → vs.length = ps.length)
    (body : ∀ (cdv : Value) (A : Around) (below : List Env) (s : Shared) (H : Hp) (vs : List V) (Q : VK), Room k (A.deeper (envOfC qual (defScope st) s.heap.objs.size f cdv)) → A.guards = some [] → sp vs H Q E0 →
      ∃ t, PSs (cxOf CX0 P w K mg base N qual (defScope st) f cdv A below s H E0).nox (defBody st) t ∧ t { nx := fun _ H' => Q .non H', rt := Q } (start N vs) H) :
    FnG P w K mg base (k + 1) f fd ps sp := by
  obtain ⟨oc, od, kV, doc, pm, an, cdv, ct, osl, rfl, lk, hcd⟩ := F.ex
  refine ⟨arity, fun A below s H args us vs Q hr hg e0 hb r hsp => ?_⟩
  have hl := arity _ _ _ hsp
  have old : ∀ b o, base.get? b = some o → s.heap.get? b = some o := fun b o e => (e0.bs b o e).1
  have places : ∀ y ∈ ps.zip us, (defScope st).names.lookup y.1 = some .local ∨ ((defScope st).names.lookup y.1 = some .cell ∧ ((cellsFrom (s.heap.objs.size + 1) (defScope st).names []).lookup y.1).isSome = true) := by
    rintro ⟨n, v⟩ hy
    cases S.par n (List.of_mem_zip hy).1 with
    | inl q => exact .inl q
    | inr q => exact .inr ⟨q, PySem.W.cellsFrom_some _ _ _ (.inl q)⟩
  refine codeAny_call_function hr.depth (e0.mod.kin.keeps old _ _ lk) rfl S.co S.gen rfl (PySem.W.codeRec_of (e0.mod.kin.keeps old) hcd) (hb _ _ _ _ ?_)
  refine wpAny_newFunctionEnv_cells S.kind places fun env he s1 y => ?_
  subst he
  refine ⟨(e0.mod.nolimit.keeps old).keeps y.toInCall.keep, codeAny_func ?_⟩
  obtain ⟨t, ht, hq⟩ := body cdv A below s H vs Q (hr.deeper _) hg hsp
  have I : Inv (cxOf CX0 P w K mg base N qual (defScope st) f cdv A below s H E0) [] (start N vs) H s1 := inv_start S hr.hd e0 hl r y
  refine wpAny_mono (ht.nox.run [] s1 (start N vs) H _ I hq) ?_ fun e s' hs => hs
  intro fl s' hs
  have done : ∀ {τ : L2.St} {H' : Hp} {v : V} {u : Value}, Inv (cxOf CX0 P w K mg base N qual (defScope st) f cdv A below s H E0) [] τ H' s' → RelV v u → Q v H' → CE below P w H s Q u s' :=
    fun {τ H' v u} J rv q => ⟨v, H', J.os, J.bare, J.base, J.hok, rv, q⟩
  match fl, hs with
  | .ret u, hs =>
    obtain ⟨v, τ, H', J, rv, q⟩ := hs
    exact done J rv q
  | .next, hs =>
    obtain ⟨τ, H', J, q⟩ := hs
    exact done (v := V.non) (u := Value.none) J rfl q
  | .brk, hs => exact False.elim hs.choose_spec.choose_spec.2
  | .cont, hs => exact False.elim hs.choose_spec.choose_spec.2

section
variable {X : Cx} {k : Nat} {f : Addr} {fd : FuncData} {ps ks : List Str} {sp : Sp} {x : Str} {p pos : Pos} {e : Expr} {es : List Expr} {kws : List Keyword} {t tk : TA} {g : List Value → List Value → List Value} {gV : List V → List V → List V}
/-- a call of such a def -/
theorem pe_callG (F : FnG X.prog X.w X.K X.mg X.base k f fd ps sp) (hr : Room k X.A) (gu : X.A.guards = some []) (gl : Gl X x) (hm : X.mg x = some (.ref f)) (hk : PySem.W.keepIn X.K (.ref f) = true) (hb : Binds X.K fd ps []) (ha : PA X (e :: es) t)
    (hdb : (x == ("__debug__" : Str)) = false := by decide) (he : starEach (e :: es) X.env = (false, eval e X.env) :: starEach es X.env := by rfl) (hpl : (backTo pos (starEach es X.env)).any (·.1) = false := by rfl) :
    PE X (.Call (.Name x p) (e :: es) [] pos) (tCall sp [] E0 t) := by
  refine ⟨fun pins s σ H Q I h => wpAny_Call_Name_kw (ld_glob I gl hm ?_ hdb)⟩
  refine PySem.W.callWith_K (h₀ := X.base) I.ok.mod.kin hk (thn (ha.run pos pins s σ H _ I h) fun us s1 ⟨vs, H1, I1, r, q⟩ => ⟨I1.kIn, ?_⟩) he hpl
  have q' : sp vs H1 Q E0 := by
    have z : sp (vs ++ []) H1 Q E0 := q
    rw [List.append_nil] at z
    exact z
  have hl : us.length = ps.length := r.length.symm.trans (F.arity _ _ _ q')
  have bd : BindsTo s1 fd ⟨us, []⟩ (ps.zip us) := by
    have z := hb s1 us I1.kIn (by rw [List.append_nil]; exact hl)
    rw [List.append_nil] at z
    exact z
  refine wpAny_call (codeAny_mono (F.go X.A X.stack s1 H1 ⟨us, []⟩ us vs Q hr gu I1.env0 bd r q') fun res s2 hq => ?_)
  match res, hq with
  | .ok (.ret u), hq => exact I1.after hq
  | .ok .next, hq => exact False.elim hq
  | .ok .brk, hq => exact False.elim hq
  | .ok .cont, hq => exact False.elim hq
  | .error _, hq => exact False.elim hq
/-- f(k = v, ..), no value by its place -/
theorem pe_callK0 (F : FnOk X.prog X.w X.K X.mg X.base CX0 k f fd ps sp) (hr : Room k X.A) (hg : Gl X x) (hm : X.mg x = some (.ref f)) (hk : PySem.W.keepIn X.K (.ref f) = true) (hb : KBinds X.K fd ps ks g gV)
    (hkw : PK X kws tk) (hall : (backToKw pos (keywordEach kws X.env)).all (·.1.isSome) = true := by rfl) (hks : (backToKw pos (keywordEach kws X.env)).filterMap (·.1) = ks := by rfl) (hdb : (x == ("__debug__" : Str)) = false := by decide)
    (hpl : ((backTo pos (starEach [] X.env)).any (·.1) || (backToKw pos (keywordEach kws X.env)).any (·.1.isNone)) = false := by rfl) :
    PE X (.Call (.Name x p) [] kws pos) (tCallK sp gV E0 tNil tk) := by
  refine ⟨fun pins s σ H Q I h => wpAny_Call_Name_kw (ld_glob I hg hm ?_ hdb)⟩
  refine PySem.W.callWith_KW0 (h₀ := X.base) I.ok.mod.kin hk hall (thn (hkw.run pos pins s σ H _ I h) fun ws s2 ⟨zs, H2, I2, rz, q2⟩ => ⟨I2.kIn, ?_⟩) hpl
  rw [hks]
  exact run_fnk (us := []) F hr hb pass0 I2 .nil rz q2
end

/-! ### repr of data -/
section
variable {X : Cx}
@[irreducible] def rReprD (K : PySem.W.Frag) : List V → Hp → VK → Prop := fun vs H Q => ∃ (a : Addr) (ds : List PyData), vs = [V.ref a] ∧ Dp K H (.ref a) (.list ds) ∧ PyData.showable (.list ds) = true ∧ PyData.hasDict (.list ds) = false ∧ PyData.depth (.list ds) ≤ 60 ∧
  (PyData.shown (.list ds)).length ≤ sizeLine ∧ Q (.str (PyData.shown (.list ds))) H
theorem call_reprD (gu : X.A.guards = some []) (hu : X.A.units + 64 < cLine) : CallR X (.builtin "repr") (rReprD X.K) := by
  intro pins s σ H vs us Q I r h
  unfold rReprD at h
  obtain ⟨a, ds, rfl, hd, h1, h2, h3, h4, q⟩ := h
  rw [Vals.ref1 r]
  obtain ⟨as, rd⟩ := Dp.reads I _ _ _ hd (show RelV (.ref a) (Value.ref a) from rfl)
  refine repr_of_reads' rd h1 (fun z => by rw [h2] at z; cases z) gu (by omega) (fun _ _ e => e) (fun h' u tk keep => ?_) h4
  exact ⟨.str _, H, I.kept (t' := tk) keep, ⟨u, rfl⟩, q⟩
end

/-! ### great powers; list(range(a, b, c)) -/
section
variable {X : Cx}
def CPowW (i j : Int) : Prop := 0 ≤ j ∧ (Builtin.Int.intBits i : Int) * j ≤ 2 ^ 27
theorem op_powW : OpR X (binaryOp .Pow) (rI CPowW fun i j => .int (i ^ j.toNat)) := opI fun _ _ _ _ _ _ _ hc q => PyProof.Rows.pow_int hc.1 hc.2 q

/-- the ints a, a + c, .. (n of them) -/
def stepV (a c : Int) (n : Nat) : List V := (List.range n).map fun i => V.int (a + (i : Nat) * c)
theorem stepV_length (a c : Int) (n : Nat) : (stepV a c n).length = n := by unfold stepV; rw [List.length_map, List.length_range]
def tLstRg3 (ta : TA) : TE := fun σ H Q => ta σ H fun vs H1 => ∃ (a b c : Int) (n : Nat), vs = [.int a, .int b, .int c] ∧ RgC a b c n ∧ n ≤ 1000 ∧ ∀ q, H1 q = none → Q (.ref q) (upd H1 q (.lst (stepV a c n)))
theorem pe_listRg3 {ta : TA} {a b c : Expr} {p p2 pos pos2 : Pos} (hc : X.calm = true) (hg : Gl X "list") (hm : X.mg "list" = none) (hg2 : Gl X "range") (hm2 : X.mg "range" = none) (ha : PA X [a, b, c] ta)
    (hs : starEach [a, b, c] X.env = (false, eval a X.env) :: starEach [b, c] X.env := by rfl) (hpl : (backTo pos2 (starEach [b, c] X.env)).any (·.1) = false := by rfl)
    (na : starEach [(.Call (.Name "range" p2) [a, b, c] [] pos2)] X.env = (false, eval (.Call (.Name "range" p2) [a, b, c] [] pos2) X.env) :: starEach [] X.env := by rfl) :
    PE X (.Call (.Name "list" p) [.Call (.Name "range" p2) [a, b, c] [] pos2] [] pos) (tLstRg3 ta) := by
  refine ⟨fun pins s σ H Q I h => ?_⟩
  refine Call_ (ld_blt I hg hm boot_list (PyProof.Rows.callWith_type1 (args_cons ?_ na) na))
  refine Call_ (ld_blt I hg2 hm2 boot_range (PyProof.Rows.callWith_type1 (thn (ha.run pos2 pins s σ H _ I h) fun us s1 ⟨vs, H1, I1, r1, q1⟩ => ?_) hs hpl))
  obtain ⟨i, j, k, n, rfl, ⟨c0, c1, c2, c3⟩, hn, q⟩ := q1
  cases r1 with
  | cons ra r1 =>
    cases r1 with
    | cons rb r1 =>
      cases r1 with
      | cons rc r1 =>
        cases r1
        obtain ⟨t1, rfl⟩ := ra
        obtain ⟨t2, rfl⟩ := rb
        obtain ⟨t3, rfl⟩ := rc
        refine call_range_3 c0 (args_nil ?_) (.inl (PyProof.noPylong_small c1))
        have I2 := I1.kept (t' := s1.toks) (h' := s1.heap.push { cls := .type "range", data := .fields #[.int i t1, .int j t2, .int k t3] }) fun b o e => Heap.get?_push_of_some _ e
        have z : n ≤ 2 ^ 24 := Nat.le_trans hn (by decide)
        refine call_list_range (n := n) (I2.ok.hd hc) (IsRange.new ..) c2 c3 z fun h' tk acc cap hk e' hi => ?_
        have el : acc.toList.length = n := by rw [Array.length_toList]; exact hi.1
        have rv : Vals (stepV i k n) acc.toList := by
          unfold stepV
          rw [← el]
          refine vals_of_get acc.toList _ fun m u hm => ?_
          obtain ⟨tt, rfl⟩ := hi.2 m u (by rw [← hm, Array.getElem?_toList])
          exact ⟨tt, rfl⟩
        refine ⟨.ref _, _, I2.laid (t' := tk) (o := .lst (stepV i k n)) hk (Nat.le_refl _) ⟨?_, acc.toList, cap, rv, ?_⟩, rfl, q _ (I2.hok.fresh (Nat.le_refl _))⟩
        · rw [stepV_length, sizeLine_eq]
          omega
        · rw [Array.toArray_toList]
          exact e'
end
end Kt

set_option Elab.async false
set_option linter.all false
set_option maxRecDepth 100000
set_option maxHeartbeats 4000000
/-! The mathematics of sorting along chains, and how lists of ints, families and rows lie in the heap. -/
namespace Kt
open PySem L2 PyProof.Rows

/-! ### sorting along chains -/
def le? (a b : Int) : Bool := decide (a ≤ b)
def srt (xs : List Int) : List Int := xs.mergeSort le?
theorem srt_perm (xs : List Int) : (srt xs).Perm xs := List.mergeSort_perm _ _
theorem srt_up (xs : List Int) : (srt xs).Pairwise (· ≤ ·) := by
  have h := List.pairwise_mergeSort (le := le?) (fun a b c h1 h2 => by unfold le? at *; simp at *; omega) (fun a b => by unfold le?; simp; omega) xs
  refine h.imp fun {a b} q => ?_
  unfold le? at q
  simpa using q
theorem srt_of {xs ys : List Int} (p : ys.Perm xs) (s : ys.Pairwise (· ≤ ·)) : ys = srt xs := PySem.W.ksm_same (p.trans (srt_perm xs).symm) s (srt_up xs)
theorem srt_len (xs : List Int) : (srt xs).length = xs.length := (srt_perm xs).length_eq

/-- the value at a place, from 1 -/
def at1 (load : List Int) (p : Int) : Int := load.getD (p - 1).toNat 0
def put1 (r : List Int) (q : Int × Int) : List Int := r.set (q.1 - 1).toNat q.2
def put (r : List Int) (c vs : List Int) : List Int := (c.zip vs).foldl put1 r
def along1 (load r c : List Int) : List Int := put r c (srt (c.map (at1 load)))
def sortAlong (load : List Int) (f : List (List Int)) : List Int := f.foldl (along1 load) load
def afterRow (load : List Int) (r : List (List (List Int))) : List Int := r.foldl sortAlong load
/-- no value of a chain is greater than the next -/
def ascends (load : List Int) (c : List Int) : Bool := (c.zip c.tail).all fun q => decide (at1 load q.1 ≤ at1 load q.2)
def isSorted (load : List Int) (f : List (List Int)) : Bool := f.all (ascends load)

structure Valid (n : Nat) (f : List (List Int)) : Prop where
  nd : f.flatten.Nodup
  rg : ∀ x ∈ f.flatten, 1 ≤ x ∧ x ≤ (n : Int)

theorem put1_len (r : List Int) (q : Int × Int) : (put1 r q).length = r.length := by unfold put1; rw [List.length_set]
theorem fold_put1_len (l : List (Int × Int)) : ∀ r : List Int, (l.foldl put1 r).length = r.length := by
  induction l with
  | nil => intro r; rfl
  | cons q l ih => intro r; rw [List.foldl_cons, ih, put1_len]
theorem put_len (r c vs : List Int) : (put r c vs).length = r.length := fold_put1_len _ _
theorem along1_len (load r c : List Int) : (along1 load r c).length = r.length := put_len _ _ _
theorem fold_along_len (load : List Int) (f : List (List Int)) : ∀ r : List Int, (f.foldl (along1 load) r).length = r.length := by
  induction f with
  | nil => intro r; rfl
  | cons c f ih => intro r; rw [List.foldl_cons, ih, along1_len]
theorem sortAlong_len (load : List Int) (f : List (List Int)) : (sortAlong load f).length = load.length := fold_along_len _ _ _
theorem afterRow_len (r : List (List (List Int))) : ∀ load : List Int, (afterRow load r).length = load.length := by
  induction r with
  | nil => intro load; rfl
  | cons f r ih => intro load; show (afterRow (sortAlong load f) r).length = _; rw [ih, sortAlong_len]

theorem at1_put1_ne {r : List Int} {q : Int × Int} {p : Int} (hp : 1 ≤ p) (hq : 1 ≤ q.1) (h : p ≠ q.1) : at1 (put1 r q) p = at1 r p := by
  unfold at1 put1
  rw [List.getD_eq_getElem?_getD, List.getD_eq_getElem?_getD, List.getElem?_set_ne (by omega)]
theorem at1_put1_self {r : List Int} {q : Int × Int} (hq : 1 ≤ q.1) (hl : q.1 ≤ (r.length : Int)) : at1 (put1 r q) q.1 = q.2 := by
  unfold at1 put1
  rw [List.getD_eq_getElem?_getD, List.getElem?_set_self (by omega)]
  rfl
theorem fold_put1_other {p : Int} (hp : 1 ≤ p) (l : List (Int × Int)) : ∀ r : List Int, (∀ q ∈ l, 1 ≤ q.1 ∧ q.1 ≠ p) → at1 (l.foldl put1 r) p = at1 r p := by
  induction l with
  | nil => intro r _; rfl
  | cons q l ih =>
    intro r h
    obtain ⟨h1, h2⟩ := h q List.mem_cons_self
    rw [List.foldl_cons, ih _ fun x hx => h x (List.mem_cons_of_mem _ hx), at1_put1_ne hp h1 (Ne.symm h2)]
theorem put_other {p : Int} (hp : 1 ≤ p) {r c vs : List Int} (h : ∀ x ∈ c, 1 ≤ x ∧ x ≠ p) : at1 (put r c vs) p = at1 r p :=
  fold_put1_other hp _ _ fun q hq => h q.1 (List.of_mem_zip hq).1
theorem put_own {n : Int} (c : List Int) : ∀ (vs r : List Int), c.Nodup → (∀ x ∈ c, 1 ≤ x ∧ x ≤ n) → n ≤ (r.length : Int) → vs.length = c.length → c.map (at1 (put r c vs)) = vs := by
  induction c with
  | nil =>
    intro vs r _ _ _ hl
    have e : vs = [] := List.eq_nil_of_length_eq_zero (by simpa using hl)
    rw [e]
    rfl
  | cons x c ih =>
    intro vs r nd rg hn hl
    match vs, hl with
    | v :: vs, hl =>
      obtain ⟨nx, nd'⟩ := List.nodup_cons.mp nd
      obtain ⟨x1, x2⟩ := rg x List.mem_cons_self
      have rg' : ∀ y ∈ c, 1 ≤ y ∧ y ≤ n := fun y hy => rg y (List.mem_cons_of_mem _ hy)
      have e : put r (x :: c) (v :: vs) = put (put1 r (x, v)) c vs := rfl
      rw [e, List.map_cons, ih vs _ nd' rg' (by rw [put1_len]; exact hn) (by simpa using hl)]
      congr 1
      rw [put_other x1 fun y hy => ⟨(rg' y hy).1, fun z => nx (z ▸ hy)⟩]
      exact at1_put1_self (q := (x, v)) x1 (by omega)
theorem fold_along_other {load : List Int} {p : Int} (hp : 1 ≤ p) (f : List (List Int)) : ∀ r : List Int, (∀ x ∈ f.flatten, 1 ≤ x ∧ x ≠ p) → at1 (f.foldl (along1 load) r) p = at1 r p := by
  induction f with
  | nil => intro r _; rfl
  | cons c f ih =>
    intro r h
    rw [List.flatten_cons] at h
    rw [List.foldl_cons, ih _ fun x hx => h x (List.mem_append_right _ hx)]
    exact put_other hp fun x hx => h x (List.mem_append_left _ hx)
theorem fold_along_own {load : List Int} {n : Int} (f : List (List Int)) : ∀ r : List Int, f.flatten.Nodup → (∀ x ∈ f.flatten, 1 ≤ x ∧ x ≤ n) → n ≤ (r.length : Int) → ∀ c ∈ f, c.map (at1 (f.foldl (along1 load) r)) = srt (c.map (at1 load)) := by
  induction f with
  | nil => intro r _ _ _ c hc; cases hc
  | cons d f ih =>
    intro r nd rg hn c hc
    rw [List.flatten_cons] at nd rg
    obtain ⟨n1, n2, n3⟩ := List.nodup_append.mp nd
    rw [List.foldl_cons]
    rcases List.mem_cons.mp hc with hc | hc
    · subst hc
      have e : c.map (at1 (f.foldl (along1 load) (along1 load r c))) = c.map (at1 (along1 load r c)) := by
        refine List.map_congr_left fun x hx => ?_
        exact fold_along_other (rg x (List.mem_append_left _ hx)).1 f _ fun y hy => ⟨(rg y (List.mem_append_right _ hy)).1, fun z => n3 x hx y hy z.symm⟩
      rw [e]
      exact put_own c _ r n1 (fun x hx => rg x (List.mem_append_left _ hx)) hn (by rw [srt_len, List.length_map])
    · exact ih _ n2 (fun x hx => rg x (List.mem_append_right _ hx)) (by rw [along1_len]; exact hn) c hc
theorem sortAlong_own {load : List Int} {f : List (List Int)} (v : Valid load.length f) {c : List Int} (hc : c ∈ f) : c.map (at1 (sortAlong load f)) = srt (c.map (at1 load)) :=
  fold_along_own (n := (load.length : Int)) f load v.nd v.rg (Int.le_refl _) c hc
theorem ascends_of_up {load : List Int} (c : List Int) (h : (c.map (at1 load)).Pairwise (· ≤ ·)) : ascends load c = true := by
  unfold ascends
  induction c with
  | nil => rfl
  | cons x c ih =>
    cases c with
    | nil => rfl
    | cons y c =>
      rw [List.map_cons] at h
      obtain ⟨h1, h2⟩ := List.pairwise_cons.mp h
      have e := ih h2
      have z : at1 load x ≤ at1 load y := h1 _ (by rw [List.map_cons]; exact List.mem_cons_self)
      show (((x, y) :: ((y :: c).zip (y :: c).tail)).all _) = true
      rw [List.all_cons, e]
      simpa using z
theorem sorted_after {load : List Int} {f : List (List Int)} (v : Valid load.length f) : isSorted (sortAlong load f) f = true := by
  unfold isSorted
  refine List.all_eq_true.mpr fun c hc => ascends_of_up c ?_
  rw [sortAlong_own v hc]
  exact srt_up _

theorem nodup_le : ∀ (n : Nat) (l : List Int), l.Nodup → (∀ x ∈ l, 1 ≤ x ∧ x ≤ (n : Int)) → l.length ≤ n
  | 0, l, _, h => by
    cases l with
    | nil => exact Nat.le_refl _
    | cons x l =>
      have := h x List.mem_cons_self
      omega
  | n + 1, l, nd, h => by
    have nd' : (l.erase ((n : Int) + 1)).Nodup := nd.erase _
    have e := nodup_le n (l.erase ((n : Int) + 1)) nd' fun x hx => by
      obtain ⟨h1, h2⟩ := nd.mem_erase_iff.mp hx
      have h3 := h x h2
      omega
    have z : l.length ≤ (l.erase ((n : Int) + 1)).length + 1 := by
      rw [List.length_erase]
      split <;> omega
    omega
theorem Valid.len {n : Nat} {f : List (List Int)} (v : Valid n f) : f.flatten.length ≤ n := nodup_le n _ v.nd v.rg
theorem flatten_mem {f : List (List Int)} {c : List Int} {x : Int} (hc : c ∈ f) (hx : x ∈ c) : x ∈ f.flatten := List.mem_flatten.mpr ⟨c, hc, hx⟩

/-! ### turns of loops -/
theorem put_step {r c vs : List Int} {i : Nat} {p v : Int} (hc : c[i]? = some p) (hv : vs[i]? = some v) : put r (c.take (i + 1)) (vs.take (i + 1)) = put1 (put r (c.take i) (vs.take i)) (p, v) := by
  unfold put
  have tz : ∀ j, (c.take j).zip (vs.take j) = (c.zip vs).take j := fun j => by
    rw [List.zip_eq_zipWith, List.zip_eq_zipWith, List.take_zipWith]
  rw [tz, tz]
  have e : (c.zip vs)[i]? = some (p, v) := by rw [List.getElem?_zip_eq_some]; exact ⟨hc, hv⟩
  rw [List.take_add_one, e, Option.toList_some, List.foldl_append]
  rfl
theorem fold_step {α β : Type} {g : β → α → β} {r : β} {l : List α} {i : Nat} {x : α} (h : l[i]? = some x) : (l.take (i + 1)).foldl g r = g ((l.take i).foldl g r) x := by
  rw [List.take_add_one, h, Option.toList_some, List.foldl_append]
  rfl
theorem at1_get {load : List Int} {p : Int} (h1 : 1 ≤ p) (h2 : p ≤ (load.length : Int)) : load[(p - 1).toNat]? = some (at1 load p) := by
  unfold at1
  have h : (p - 1).toNat < load.length := by omega
  rw [List.getD_eq_getElem?_getD, List.getElem?_eq_getElem h]
  rfl

/-! ### in the heap -/
def LI (H : Hp) (a : Addr) (xs : List Int) : Prop := H a = some (.lst (xs.map V.int))
def Refs (H : Hp) (a : Addr) (as : List Addr) : Prop := H a = some (.lst (as.map V.ref))
def Fam (H : Hp) (a : Addr) (f : List (List Int)) : Prop := ∃ as, Refs H a as ∧ Paired (LI H) as f
def RowA (H : Hp) (a : Addr) (r : List (List (List Int))) : Prop := ∃ as, Refs H a as ∧ Paired (Fam H) as r
/-- the law's draws -/
def DrO (n k : Int) (c : Bool) : HO := .lst [.int n, .int k, .bl c]
/-- all stands but d -/
def But (d : Addr) (H H' : Hp) : Prop := ∀ b o, b ≠ d → H b = some o → H' b = some o
theorem But.refl (d : Addr) (H : Hp) : But d H H := fun _ _ _ e => e
theorem But.trans {d : Addr} {H H1 H2 : Hp} (a : But d H H1) (b : But d H1 H2) : But d H H2 := fun c o n e => b c o n (a c o n e)
theorem But.same {d : Addr} {H H' : Hp} (s : Same H H') : But d H H' := fun b o _ e => s b o e
theorem But.upd {d : Addr} {H : Hp} {o : HO} : But d H (upd H d o) := fun b u n e => (upd_ne n).trans e
theorem but_free {d : Addr} {H H' : Hp} (s : But d H H') {p : Addr} (h : H' p = none) (n : p ≠ d) : H p = none := by
  cases q : H p with
  | none => rfl
  | some o =>
    rw [s p o n q] at h
    cases h
theorem same_upd {H : Hp} {p : Addr} {o : HO} (h : H p = none) : Same H (upd H p o) := fun b u e => (upd_ne (ne_of_none e h)).trans e
theorem dr_ne_ints {n k : Int} {c : Bool} {xs : List Int} : DrO n k c ≠ .lst (xs.map V.int) := by
  intro z
  unfold DrO at z
  injection z with z
  match xs, z with
  | [_, _, _], z =>
    rw [List.map_cons, List.map_cons, List.map_cons] at z
    injection z with _ z
    injection z with _ z
    injection z with z _
    cases z
theorem dr_ne_refs {n k : Int} {c : Bool} {as : List Addr} : DrO n k c ≠ .lst (as.map V.ref) := by
  intro z
  unfold DrO at z
  injection z with z
  match as, z with
  | a :: _, z =>
    rw [List.map_cons] at z
    injection z with z _
    cases z
section
variable {H H' : Hp} {d a : Addr} {n k : Int} {c : Bool}
theorem LI.but {xs : List Int} (h : LI H a xs) (hd : H d = some (DrO n k c)) (s : But d H H') : LI H' a xs := s a _ (fun z => dr_ne_ints (Option.some.inj (hd.symm.trans (z ▸ h)))) h
theorem Refs.but {as : List Addr} (h : Refs H a as) (hd : H d = some (DrO n k c)) (s : But d H H') : Refs H' a as := s a _ (fun z => dr_ne_refs (Option.some.inj (hd.symm.trans (z ▸ h)))) h
theorem Fam.but {f : List (List Int)} (h : Fam H a f) (hd : H d = some (DrO n k c)) (s : But d H H') : Fam H' a f := let ⟨as, h1, h2⟩ := h; ⟨as, h1.but hd s, Paired.mapP h2 fun _ _ q => q.but hd s⟩
theorem RowA.but {r : List (List (List Int))} (h : RowA H a r) (hd : H d = some (DrO n k c)) (s : But d H H') : RowA H' a r := let ⟨as, h1, h2⟩ := h; ⟨as, h1.but hd s, Paired.mapP h2 fun _ _ q => q.but hd s⟩
theorem LI.same {xs : List Int} (h : LI H a xs) (s : Same H H') : LI H' a xs := s a _ h
theorem Refs.same {as : List Addr} (h : Refs H a as) (s : Same H H') : Refs H' a as := s a _ h
theorem Fam.same {f : List (List Int)} (h : Fam H a f) (s : Same H H') : Fam H' a f := let ⟨as, h1, h2⟩ := h; ⟨as, h1.same s, Paired.mapP h2 fun _ _ q => q.same s⟩
theorem RowA.same {r : List (List (List Int))} (h : RowA H a r) (s : Same H H') : RowA H' a r := let ⟨as, h1, h2⟩ := h; ⟨as, h1.same s, Paired.mapP h2 fun _ _ q => q.same s⟩
end
theorem pget {α β : Type} {R : α → β → Prop} : ∀ {l : List α} {m : List β} {i : Nat} {x : α}, Paired R l m → l[i]? = some x → ∃ y, m[i]? = some y ∧ R x y
  | _, _, _, _, .nil, e => by simp at e
  | _, _, 0, _, .cons r _, e => by simp at e; subst e; exact ⟨_, rfl, r⟩
  | _, _, i + 1, _, .cons _ t, e => by
    obtain ⟨y, h1, h2⟩ := pget (i := i) t (by simpa using e)
    exact ⟨y, by simpa using h1, h2⟩
theorem map_get {α β : Type} {g : α → β} {l : List α} {i : Nat} {y : β} (h : (l.map g)[i]? = some y) : ∃ x, l[i]? = some x ∧ y = g x := by
  rw [List.getElem?_map] at h
  cases e : l[i]? with
  | none => rw [e] at h; cases h
  | some x => rw [e] at h; exact ⟨x, rfl, (Option.some.inj h).symm⟩
theorem get_map {α β : Type} {g : α → β} {l : List α} {i : Nat} {x : α} (h : l[i]? = some x) : (l.map g)[i]? = some (g x) := by rw [List.getElem?_map, h]; rfl

/-! ### as data -/
def dL (xs : List Int) : PyData := .list (xs.map PyData.int)
def dF (f : List (List Int)) : PyData := .list (f.map dL)
def dR (r : List (List (List Int))) : PyData := .list (r.map dF)
section
variable {K : PySem.W.Frag} {H : Hp}
theorem dp_ints : ∀ xs : List Int, DpAll K H (xs.map V.int) (xs.map PyData.int)
  | [] => .nil
  | x :: xs => .cons (.int x) (dp_ints xs)
theorem LI.dp {a : Addr} {xs : List Int} (h : LI H a xs) : Dp K H (.ref a) (dL xs) := .lst (SqL.of h) (dp_ints xs)
theorem dp_all {α : Type} {R : Addr → α → Prop} {dv : α → PyData} (g : ∀ a x, R a x → Dp K H (.ref a) (dv x)) : ∀ {as : List Addr} {xs : List α}, Paired R as xs → DpAll K H (as.map V.ref) (xs.map dv)
  | _, _, .nil => .nil
  | _, _, .cons r t => .cons (g _ _ r) (dp_all g t)
theorem Fam.dp {a : Addr} {f : List (List Int)} (h : Fam H a f) : Dp K H (.ref a) (dF f) := let ⟨_, h1, h2⟩ := h; .lst (SqL.of h1) (dp_all (fun _ _ q => q.dp) h2)
theorem RowA.dp {a : Addr} {r : List (List (List Int))} (h : RowA H a r) : Dp K H (.ref a) (dR r) := let ⟨_, h1, h2⟩ := h; .lst (SqL.of h1) (dp_all (fun _ _ q => q.dp) h2)
end
end Kt

set_option Elab.async false
set_option linter.all false
set_option maxRecDepth 100000
set_option maxHeartbeats 4000000
/-! Data of a bounded depth and text: for repr and == . -/
namespace Kt
open PySem L2 PyProof.Rows
structure Ok (D m : Nat) (d : PyData) : Prop where
  lay : PyData.canLay0 d = true
  shw : PyData.showable d = true
  nod : PyData.hasDict d = false
  dep : PyData.depth d ≤ D
  len : (PyData.shown d).length ≤ m
theorem Ok.mono {D D' m m' : Nat} {d : PyData} (h : Ok D m d) (h1 : D ≤ D') (h2 : m ≤ m') : Ok D' m' d := ⟨h.lay, h.shw, h.nod, Nat.le_trans h.dep h1, Nat.le_trans h.len h2⟩
theorem ok_all {D m : Nat} : ∀ ds : List PyData, (∀ d ∈ ds, Ok D m d) → PyData.canLayAll0 ds = true ∧ PyData.showableAll ds = true ∧ PyData.hasDictAll ds = false ∧ PyData.depthAll ds ≤ D ∧ ((PyData.shownAll ds).map (·.length)).sum ≤ ds.length * m ∧ (PyData.shownAll ds).length = ds.length
  | [], _ => by simp [PyData.canLayAll0, PyData.showableAll, PyData.hasDictAll, PyData.depthAll, PyData.shownAll]
  | d :: ds, h => by
    have a := h d List.mem_cons_self
    obtain ⟨h1, h2, h3, h4, h5, h6⟩ := ok_all ds fun x hx => h x (List.mem_cons_of_mem _ hx)
    refine ⟨?_, ?_, ?_, ?_, ?_, ?_⟩
    · rw [PyData.canLayAll0, a.lay, h1]; rfl
    · rw [PyData.showableAll, a.shw, h2]; rfl
    · rw [PyData.hasDictAll, a.nod, h3]; rfl
    · rw [PyData.depthAll]
      exact Nat.max_le.mpr ⟨a.dep, h4⟩
    · rw [PyData.shownAll, List.map_cons, List.sum_cons, List.length_cons, Nat.succ_mul]
      have := a.len
      omega
    · rw [PyData.shownAll, List.length_cons, List.length_cons, h6]
theorem ok_list {D m : Nat} {ds : List PyData} (h : ∀ d ∈ ds, Ok D m d) : Ok (D + 1) (ds.length * (m + 2) + 3) (.list ds) := by
  obtain ⟨h1, h2, h3, h4, h5, h6⟩ := ok_all ds h
  refine ⟨?_, ?_, ?_, ?_, ?_⟩
  · rw [PyData.canLay0]; exact h1
  · rw [PyData.showable]; exact h2
  · rw [PyData.hasDict]; exact h3
  · rw [PyData.depth]; omega
  · rw [PyData.shown]
    have := listText_len_le (PyData.shownAll ds)
    rw [h6] at this
    rw [Nat.mul_add]
    omega
def Small (x : Int) : Prop := x.natAbs < 10 ^ 61
theorem ok_int {x : Int} (h : Small x) : Ok 0 62 (.int x) := by
  refine ⟨by rw [PyData.canLay0], ?_, by rw [PyData.hasDict], by rw [PyData.depth]; exact Nat.le_refl _, ?_⟩
  · rw [PyData.showable]
    refine decide_eq_true ?_
    by_cases z : x.natAbs = 0
    · rw [z]; decide
    · refine (Nat.log2_lt z).mpr (Nat.lt_trans h (by decide +kernel))
  · rw [PyData.shown]
    have := int_text_length_le10 (k := 61) (by decide) h
    show (Str.ofString (toString x)).length ≤ 62
    rw [PySem.ofString_length]
    exact this
theorem ok_dL {xs : List Int} {n : Nat} (hl : xs.length ≤ n) (h : ∀ x ∈ xs, Small x) : Ok 1 (n * 64 + 3) (dL xs) := by
  have z := ok_list (D := 0) (m := 62) (ds := xs.map PyData.int) fun d hd => by
    obtain ⟨x, hx, rfl⟩ := List.mem_map.mp hd
    exact ok_int (h x hx)
  refine z.mono (Nat.le_refl _) ?_
  rw [List.length_map]
  have := Nat.mul_le_mul_right 64 hl
  omega
theorem small_of {x : Int} {n : Nat} (h1 : 1 ≤ x) (h2 : x ≤ (n : Int)) (hn : n ≤ 40) : Small x := by
  unfold Small
  have : x.natAbs ≤ 40 := by omega
  exact Nat.lt_of_le_of_lt this (by decide +kernel)
theorem chain_len {n : Nat} {f : List (List Int)} (v : Valid n f) {c : List Int} (hc : c ∈ f) : c.length ≤ n := by
  refine nodup_le n c ?_ fun x hx => v.rg x (flatten_mem hc hx)
  have nd := v.nd
  clear v
  induction f with
  | nil => cases hc
  | cons d f ih =>
    rw [List.flatten_cons] at nd
    obtain ⟨n1, n2, _⟩ := List.nodup_append.mp nd
    rcases List.mem_cons.mp hc with e | e
    · rw [e]; exact n1
    · exact ih e n2
theorem ok_dF {n : Nat} {f : List (List Int)} (v : Valid n f) (hn : n ≤ 40) {m : Nat} (hl : f.length ≤ m) : Ok 2 (m * 2565 + 3) (dF f) := by
  have z := ok_list (D := 1) (m := 2563) (ds := f.map dL) fun d hd => by
    obtain ⟨c, hc, rfl⟩ := List.mem_map.mp hd
    exact ok_dL (n := 40) (Nat.le_trans (chain_len v hc) hn) fun x hx => by
      obtain ⟨h1, h2⟩ := v.rg x (flatten_mem hc hx)
      exact small_of h1 h2 hn
  refine z.mono (Nat.le_refl _) ?_
  rw [List.length_map]
  have := Nat.mul_le_mul_right 2565 hl
  omega
theorem ok_dR {n : Nat} {r : List (List (List Int))} (v : ∀ f ∈ r, Valid n f) (hn : n ≤ 40) (hm : ∀ f ∈ r, f.length ≤ 80) (hl : r.length ≤ 10) : Ok 3 2052063 (dR r) := by
  have z := ok_list (D := 2) (m := 205203) (ds := r.map dF) fun d hd => by
    obtain ⟨f, hf, rfl⟩ := List.mem_map.mp hd
    exact ok_dF (v f hf) hn (hm f hf)
  have e : (r.map dF).length * (205203 + 2) + 3 ≤ 2052063 := by
    rw [List.length_map]
    omega
  exact z.mono (by decide) e
theorem ok_two {D m : Nat} {d e : PyData} (h : Ok D m d) (h' : Ok D m e) : Ok (D + 1) (2 * (m + 2) + 3) (.list [d, e]) := ok_list (ds := [d, e]) fun x hx => by
  rcases List.mem_cons.mp hx with rfl | hx
  · exact h
  · rcases List.mem_cons.mp hx with rfl | hx
    · exact h'
    · cases hx
theorem shaped_of {D m : Nat} {d : PyData} (h : Ok D m d) (hD : D ≤ 60) : SeqAt.shaped d = true := by
  unfold SeqAt.shaped
  rw [h.lay, Bool.true_and]
  exact decide_eq_true (by have := h.dep; omega)
theorem shaped_dL (xs : List Int) : SeqAt.shaped (dL xs) = true := by
  have a : ∀ l : List Int, PyData.canLayAll0 (l.map PyData.int) = true ∧ PyData.depthAll (l.map PyData.int) = 0 := by
    intro l
    induction l with
    | nil => exact ⟨by rw [List.map_nil, PyData.canLayAll0], by rw [List.map_nil, PyData.depthAll]⟩
    | cons x l ih =>
      obtain ⟨h1, h2⟩ := ih
      exact ⟨by rw [List.map_cons, PyData.canLayAll0, h1, PyData.canLay0]; rfl, by rw [List.map_cons, PyData.depthAll, h2, PyData.depth]; rfl⟩
  obtain ⟨h1, h2⟩ := a xs
  unfold SeqAt.shaped dL
  rw [PyData.canLay0, h1, PyData.depth, h2]
  rfl
theorem eqv_dL (xs ys : List Int) : PyData.eqv (dL xs) (dL ys) = decide (xs = ys) := by
  unfold dL
  rw [PyData.eqv]
  induction xs generalizing ys with
  | nil =>
    cases ys with
    | nil => rw [List.map_nil, PyData.eqvAll]; rfl
    | cons y ys => rw [List.map_nil, List.map_cons, PyData.eqvAll]; rfl
  | cons x xs ih =>
    cases ys with
    | nil => rw [List.map_nil, List.map_cons, PyData.eqvAll]; rfl
    | cons y ys =>
      rw [List.map_cons, List.map_cons, PyData.eqvAll, ih, PyData.eqv]
      by_cases h : x = y
      · subst h
        by_cases h2 : xs = ys
        · subst h2; simp
        · simp [h2]
      · simp [h]
theorem seqIndex_of {n : Nat} {i : Int} (h0 : 0 ≤ i) (h1 : i < (n : Int)) : seqIndex? i n = some i.toNat := by
  have h2 : ¬ i < 0 := by omega
  unfold seqIndex?
  simp [h2, h0, h1]
end Kt

set_option Elab.async false
set_option linter.all false
set_option maxRecDepth 100000
set_option maxHeartbeats 4000000
/-! What the laws' draws need: what stands but some, how far the draws went, small tables, popping. -/
namespace Kt
open PySem L2 PyProof.Rows
def ButL (ds : List Addr) (H H' : Hp) : Prop := ∀ b o, b ∉ ds → H b = some o → H' b = some o
theorem ButL.refl (ds : List Addr) (H : Hp) : ButL ds H H := fun _ _ _ e => e
theorem ButL.trans {ds : List Addr} {H H1 H2 : Hp} (a : ButL ds H H1) (b : ButL ds H1 H2) : ButL ds H H2 := fun c o n e => b c o n (a c o n e)
theorem ButL.same {ds : List Addr} {H H' : Hp} (s : Same H H') : ButL ds H H' := fun b o _ e => s b o e
theorem ButL.upd {ds : List Addr} {d : Addr} {H : Hp} {o : HO} (h : d ∈ ds) : ButL ds H (L2.upd H d o) := fun b u n e => (upd_ne (fun z => n (by rw [z]; exact h))).trans e
theorem ButL.new {ds : List Addr} {d : Addr} {H : Hp} {o : HO} (h : H d = none) : ButL ds H (L2.upd H d o) := fun b u n e => (upd_ne (ne_of_none e h)).trans e
theorem ButL.mono {ds es : List Addr} {H H' : Hp} (a : ButL ds H H') (h : ∀ x ∈ ds, x ∈ es) : ButL es H H' := fun b o n e => a b o (fun z => n (h b z)) e
theorem But.list {d : Addr} {H H' : Hp} (a : But d H H') : ButL [d] H H' := fun b o n e => a b o (fun z => n (by simp [z])) e
/-- behind H0, all but d stands; d holds the draws, as many more as told -/
def DrAt (H0 H : Hp) (d : Addr) (c : Bool) (lo hi : Int) : Prop := But d H0 H ∧ ∃ n k, H d = some (DrO n k c) ∧ lo ≤ k ∧ k ≤ hi
theorem DrAt.start {H : Hp} {d : Addr} {c : Bool} {n k : Int} (h : H d = some (DrO n k c)) : DrAt H H d c k k := ⟨But.refl _ _, n, k, h, Int.le_refl _, Int.le_refl _⟩
theorem DrAt.mono {H0 H : Hp} {d : Addr} {c : Bool} {lo lo' hi hi' : Int} (a : DrAt H0 H d c lo hi) (h1 : lo' ≤ lo) (h2 : hi ≤ hi') : DrAt H0 H d c lo' hi' := let ⟨b, n, k, e, x, y⟩ := a; ⟨b, n, k, e, by omega, by omega⟩
/-- a draw -/
theorem But.draw {H0 H : Hp} {d : Addr} {o : HO} (b : But d H0 H) : But d H0 (L2.upd H d o) := b.trans But.upd
/-- a new object -/
theorem But.new {H0 H : Hp} {d p : Addr} {o : HO} (b : But d H0 H) (h : H p = none) : But d H0 (L2.upd H p o) := b.trans (But.same (same_upd h))
/-- what was new is written -/
theorem But.own {H0 H : Hp} {d p : Addr} {o : HO} (b : But d H0 H) (h : H0 p = none) : But d H0 (L2.upd H p o) := fun x u n e => (upd_ne (ne_of_none e h)).trans (b x u n e)

theorem tab3 {x y z : Int} {i : Int} (h0 : 0 ≤ i) (h1 : i < 3) : ∃ m, atI [V.int x, V.int y, V.int z] i = some (.int m) ∧ (m = x ∨ m = y ∨ m = z) := by
  have e : i = 0 ∨ i = 1 ∨ i = 2 := by omega
  rcases e with rfl | rfl | rfl
  · exact ⟨x, rfl, .inl rfl⟩
  · exact ⟨y, rfl, .inr (.inl rfl)⟩
  · exact ⟨z, rfl, .inr (.inr rfl)⟩
theorem tab2 {x y : Int} {i : Int} (h0 : 0 ≤ i) (h1 : i < 2) : ∃ m, atI [V.int x, V.int y] i = some (.int m) ∧ (m = x ∨ m = y) := by
  have e : i = 0 ∨ i = 1 := by omega
  rcases e with rfl | rfl
  · exact ⟨x, rfl, .inl rfl⟩
  · exact ⟨y, rfl, .inr rfl⟩
theorem small_mul {u s : Int} (hu : u.natAbs ≤ 1000003) (hs : s = 1 ∨ s = (10 : Int) ^ (53 : Int).toNat) : Small (u * s) := by
  unfold Small
  rw [Int.natAbs_mul]
  have hs' : s.natAbs ≤ 10 ^ 53 := by
    rcases hs with rfl | rfl
    · decide +kernel
    · decide +kernel
  exact Nat.lt_of_le_of_lt (Nat.mul_le_mul hu hs') (by decide +kernel)
/-- the ints from a on, below b -/
def upto (a b : Int) : List Int := (List.range (b - a).toNat).map fun i => a + (i : Nat)
theorem rgV_upto (a b : Int) : rgV a b = (upto a b).map V.int := by
  unfold rgV upto
  rw [List.map_map]
  rfl
theorem upto_len (a b : Int) : (upto a b).length = (b - a).toNat := by unfold upto; rw [List.length_map, List.length_range]
theorem upto_mem {a b x : Int} (h : x ∈ upto a b) : a ≤ x ∧ x < b := by
  unfold upto at h
  obtain ⟨i, hi, rfl⟩ := List.mem_map.mp h
  rw [List.mem_range] at hi
  omega
theorem upto_nodup (a b : Int) : (upto a b).Nodup := by
  unfold upto
  rw [List.Nodup, List.pairwise_map]
  exact List.pairwise_lt_range.imp fun {i j} h => by omega
theorem pop_perm : ∀ {L : List Int} {i : Nat} {x : Int}, L[i]? = some x → (x :: L.eraseIdx i).Perm L
  | [], _, _, h => by simp at h
  | y :: L, 0, x, h => by
    simp at h
    subst h
    exact .refl _
  | y :: L, i + 1, x, h => by
    rw [List.eraseIdx_cons_succ]
    exact (List.Perm.swap y x _).trans ((pop_perm (L := L) (i := i) (by simpa using h)).cons y)
theorem map_erase : ∀ {L : List Int} {i : Nat}, (L.map V.int).eraseIdx i = (L.eraseIdx i).map V.int
  | [], _ => rfl
  | _ :: _, 0 => rfl
  | y :: L, i + 1 => by
    rw [List.map_cons, List.eraseIdx_cons_succ, List.eraseIdx_cons_succ, List.map_cons, map_erase]
/-- the length of the list that a slot names -/
def lenAt (H : Hp) : Option V → Nat
  | some (.ref a) => match H a with
    | some (.lst xs) => xs.length
    | _ => 0
  | _ => 0
theorem lenAt_of {H : Hp} {a : Addr} {L : List Int} (h : LI H a L) : lenAt H (some (.ref a)) = L.length := by
  have h' : H a = some (.lst (L.map V.int)) := h
  unfold lenAt
  simp only [h', List.length_map]
theorem empty_eqv (L : List Int) : PyData.eqv (dL L) (.list []) = decide (L = []) := eqv_dL L []
theorem dp_empty {K : PySem.W.Frag} {H : Hp} {q : Addr} (h : H q = some (.lst [])) : Dp K H (.ref q) (.list []) := .lst (SqL.of h) .nil
/-- left != [] asked -/
theorem mono_ne {K : PySem.W.Frag} {i : Nat} (σ : L2.St) (H : Hp) (Q Q' : Bool → Hp → Prop) (hq : ∀ b H1, Q b H1 → Q' b H1) (h : tTest (tOp (rNeD K) (tVar i) (tLst tNil)) σ H Q) : tTest (tOp (rNeD K) (tVar i) (tLst tNil)) σ H Q' := by
  obtain ⟨v, e, z, f⟩ := h
  refine ⟨v, e, z, fun p hp => ?_⟩
  obtain ⟨d1, d2, a1, a2, a3, a4, k, ek, q⟩ := f p hp
  exact ⟨d1, d2, a1, a2, a3, a4, k, ek, hq _ _ q⟩
theorem ask_ne {K : PySem.W.Frag} {i : Nat} {σ : L2.St} {H : Hp} {Q : Bool → Hp → Prop} {l : Addr} {L : List Int} (hs : σ[i]? = some (some (.ref l))) (hL : LI H l L) (h : ∀ q, H q = none → Q (!decide (L = [])) (upd H q (.lst []))) :
    tTest (tOp (rNeD K) (tVar i) (tLst tNil)) σ H Q := by
  refine ⟨_, hs, Nat.zero_le _, fun q hq => ?_⟩
  refine ⟨dL L, .list [], (hL.same (same_upd hq)).dp, dp_empty upd_same, shaped_dL L, rfl, ?_⟩
  rw [empty_eqv]
  exact ⟨_, rfl, h q hq⟩
end Kt

set_option Elab.async false
set_option linter.all false
set_option maxRecDepth 100000
set_option maxHeartbeats 4000000
/-! Families of gaps and of stretches are families. -/
namespace Kt
open PySem L2 PyProof.Rows
def stepI (a c : Int) (m : Nat) : List Int := (List.range m).map fun i => a + (i : Nat) * c
theorem stepV_eq (a c : Int) (m : Nat) : stepV a c m = (stepI a c m).map V.int := by
  unfold stepV stepI
  rw [List.map_map]
  rfl
/-- how many of a, a + c, .. lie below b -/
def cnt (a b c : Int) : Nat := (if a < b then (b - a - 1) / c + 1 else 0).toNat
theorem rgC_of {a b c : Int} (ha : -1000 ≤ a) (ha' : a ≤ 1000) (hb : -1000 ≤ b) (hb' : b ≤ 1000) (hc : 1 ≤ c) (hc' : c ≤ 1000) : RgC a b c (cnt a b c) := by
  have e : Builtin.Range.rangeSize a b c = if a < b then (b - a - 1) / c + 1 else 0 := by
    unfold Builtin.Range.rangeSize
    rw [if_pos (show c > 0 by omega)]
  have q0 : a < b → 0 ≤ (b - a - 1) / c := fun h => Int.ediv_nonneg (by omega) (by omega)
  have q1 : a < b → (b - a - 1) / c ≤ b - a - 1 := fun h => Int.ediv_le_self _ (by omega)
  refine ⟨by omega, by omega, ?_, ?_⟩
  · unfold Builtin.Range.small
    rw [e]
    simp only [Builtin.Range.rangeFitsLong, Bool.and_eq_true, Bool.or_eq_true, decide_eq_true_eq, beq_iff_eq, show c > 0 by omega, if_true]
    split
    · rename_i h
      have := q0 h
      have := q1 h
      omega
    · omega
  · rw [e]
    unfold cnt
    split
    · rename_i h
      have := q0 h
      omega
    · rfl
theorem cnt_le {a b c : Int} (hc : 1 ≤ c) : cnt a b c ≤ (b - a).toNat := by
  unfold cnt
  split
  · rename_i h
    have : (b - a - 1) / c ≤ b - a - 1 := Int.ediv_le_self _ (by omega)
    omega
  · exact Nat.zero_le _
theorem step_lt {a b c : Int} (hc : 1 ≤ c) {i : Nat} (hi : i < cnt a b c) : a + (i : Int) * c < b := by
  unfold cnt at hi
  split at hi
  · rename_i h
    have h1 : (i : Int) ≤ (b - a - 1) / c := by omega
    have h2 : (i : Int) * c ≤ b - a - 1 := by
      have := Int.mul_le_mul_of_nonneg_right h1 (show 0 ≤ c by omega)
      have h3 := Int.ediv_mul_le (b - a - 1) (show c ≠ 0 by omega)
      omega
    omega
  · exact absurd hi (Nat.not_lt_zero _)
theorem step_mem {a b c x : Int} (hc : 1 ≤ c) (h : x ∈ stepI a c (cnt a b c)) : a ≤ x ∧ x < b ∧ ∃ i : Nat, x = a + (i : Int) * c := by
  unfold stepI at h
  obtain ⟨i, hi, rfl⟩ := List.mem_map.mp h
  rw [List.mem_range] at hi
  have : 0 ≤ (i : Int) * c := Int.mul_nonneg (by omega) (by omega)
  exact ⟨by omega, step_lt hc hi, i, rfl⟩
theorem step_nodup {a c : Int} (hc : 1 ≤ c) (m : Nat) : (stepI a c m).Nodup := by
  unfold stepI
  rw [List.Nodup, List.pairwise_map]
  refine List.pairwise_lt_range.imp fun {i j} h => ?_
  intro e
  have h1 : (i : Int) * c = (j : Int) * c := by omega
  have h2 : (i : Int) = (j : Int) := Int.eq_of_mul_eq_mul_right (by omega) h1
  omega
/-- the family of a gap -/
def gapFam (n : Nat) (g : Int) : List (List Int) := (List.range g.toNat).map fun i => stepI (1 + (i : Nat)) g (cnt (1 + (i : Nat)) ((n : Int) + 1) g)
theorem valid_gap {n : Nat} {g : Int} (h1 : 1 ≤ g) : Valid n (gapFam n g) := by
  refine ⟨?_, fun x hx => ?_⟩
  · unfold gapFam
    rw [List.Nodup, List.pairwise_flatten]
    refine ⟨fun l hl => ?_, ?_⟩
    · obtain ⟨i, hi, rfl⟩ := List.mem_map.mp hl
      exact step_nodup h1 _
    · rw [List.pairwise_map]
      refine (List.Pairwise.and_mem.mp List.pairwise_lt_range).imp ?_
      rintro i j ⟨hi, hj, hij⟩ x hx y hy rfl
      rw [List.mem_range] at hi hj
      obtain ⟨_, _, p, e1⟩ := step_mem h1 hx
      obtain ⟨_, _, q, e2⟩ := step_mem h1 hy
      have m1 : ((i : Int) + (p : Int) * g) % g = (i : Int) := by rw [Int.add_mul_emod_self_right]; exact Int.emod_eq_of_lt (by omega) (by omega)
      have m2 : ((j : Int) + (q : Int) * g) % g = (j : Int) := by rw [Int.add_mul_emod_self_right]; exact Int.emod_eq_of_lt (by omega) (by omega)
      have e3 : (i : Int) + (p : Int) * g = (j : Int) + (q : Int) * g := by omega
      rw [e3, m2] at m1
      omega
  · obtain ⟨l, hl, hx⟩ := List.mem_flatten.mp hx
    obtain ⟨i, hi, rfl⟩ := List.mem_map.mp hl
    obtain ⟨a, b, _⟩ := step_mem h1 hx
    omega
/-- the stretches of a width -/
def wideFam (n : Nat) (w : Int) : List (List Int) := (List.range (cnt 1 ((n : Int) + 1) w)).map fun i => upto (1 + (i : Nat) * w) ((if 1 + (i : Nat) * w + w - 1 < (n : Int) then 1 + (i : Nat) * w + w - 1 else (n : Int)) + 1)
theorem valid_wide {n : Nat} {w : Int} (h1 : 1 ≤ w) : Valid n (wideFam n w) := by
  refine ⟨?_, fun x hx => ?_⟩
  · unfold wideFam
    rw [List.Nodup, List.pairwise_flatten]
    refine ⟨fun l hl => ?_, ?_⟩
    · obtain ⟨i, hi, rfl⟩ := List.mem_map.mp hl
      exact upto_nodup _ _
    · rw [List.pairwise_map]
      refine List.pairwise_lt_range.imp ?_
      rintro i j hij x hx y hy rfl
      obtain ⟨a1, a2⟩ := upto_mem hx
      obtain ⟨b1, b2⟩ := upto_mem hy
      have h3 : ((i : Int) + 1) * w ≤ (j : Int) * w := Int.mul_le_mul_of_nonneg_right (by omega) (by omega)
      rw [Int.add_mul, Int.one_mul] at h3
      split at a2 <;> omega
  · obtain ⟨l, hl, hx⟩ := List.mem_flatten.mp hx
    obtain ⟨i, hi, rfl⟩ := List.mem_map.mp hl
    obtain ⟨a, b⟩ := upto_mem hx
    have : 0 ≤ (i : Int) * w := Int.mul_nonneg (by omega) (by omega)
    split at b <;> omega
theorem gap_len {n : Nat} {g : Int} : (gapFam n g).length = g.toNat := by unfold gapFam; rw [List.length_map, List.length_range]
theorem wide_len {n : Nat} {w : Int} (h1 : 1 ≤ w) : (wideFam n w).length ≤ n := by
  unfold wideFam
  rw [List.length_map, List.length_range]
  have := cnt_le (a := 1) (b := (n : Int) + 1) h1
  omega
theorem paired_snoc {R : Addr → List Int → Prop} {as : List Addr} {f : List (List Int)} {a : Addr} {c : List Int} (p : Paired R as f) (h : R a c) : Paired R (as ++ [a]) (f ++ [c]) := p.snoc h
end Kt

set_option Elab.async false
set_option linter.all false
set_option maxRecDepth 100000
set_option maxHeartbeats 4000000
/-! The end of a law whose promise wants the guards. -/
namespace Kt
open PySem L2 PyProof.Rows
section
variable {P : Program} {w : World} {K : PySem.W.Frag} {mg mb : Str → Option Value} {k : Nat} {fa a : Addr} {fd : FuncData} {x : Str} {sp : Sp} {s1 : Shared} {vs : List Value} {ns : List Int}
/-- the object of the script -/
def scriptO (vs : List Value) : Obj := { cls := .type "list", data := .seq vs.toArray }
/-- the abstract heap at the entry: at most the script -/
theorem entry_heap (KX : K.In s1.heap) (ha : s1.heap.get? a = some (scriptO vs)) (hi : IntsAre vs ns) (hl : ns.length ≤ sizeLine) :
    ∃ H : Hp, (∀ b o, H b = some o → b = a ∧ o = .frz (scriptO vs) (.lst (ns.map V.int)) ∧ K.lookup a = none) ∧ SqL K H a (ns.map V.int) := by
  have rv := vals_ints hi
  cases hk : K.lookup a with
  | none =>
    refine ⟨fun b => if b = a then some (.frz (scriptO vs) (.lst (ns.map V.int))) else none, ?_, .inl (.inr ⟨scriptO vs, if_pos rfl⟩)⟩
    intro b o h
    have h' : (if b = a then some (HO.frz (scriptO vs) (.lst (ns.map V.int))) else none) = some o := h
    by_cases e : b = a
    · rw [if_pos e] at h'
      exact ⟨e, (Option.some.inj h').symm, rfl⟩
    · rw [if_neg e] at h'
      cases h'
  | some o =>
    have e := (KX a o hk).symm.trans ha
    cases e
    refine ⟨fun _ => none, ?_, .inr ⟨_, vs.toArray, _, hk, rfl, rfl, rfl, by rw [List.size_toArray, hi.length]; exact hl, by simpa using rv⟩⟩
    intro b o h
    have h' : (none : Option HO) = some o := h
    cases h'
theorem law_callG (KX : K.In s1.heap) (hns : s1.heap.Ns mainGlobals mg) (hb : s1.heap.Ns builtinsNs mb) (hbb : ∀ y : Str, y ≠ "__name__" → mb y = bootBuiltins y) (hlim : s1.heap.NoLimit) (hg : s1.gens = #[])
    (ha : s1.heap.get? a = some (scriptO vs)) (hi : IntsAre vs ns) (hl : ns.length ≤ sizeLine) (hr : Room k callerA)
    (F : ∀ base : Heap, K.In base → base.Ns mainGlobals mg → FnG P w K mg base k fa fd [x] sp) (bind : ∀ (s : Shared) (u : Value), BindsTo s fd ⟨[u], []⟩ [(x, u)])
    (ask : ∀ H : Hp, SqL K H a (ns.map V.int) → sp [.ref a] H (fun v _ => v = .bl true) E0) :
    codeAny (model P w) callerA (.call (.ref fa) ⟨[.ref a], []⟩) (fun r s' => r = .ok (.ret (.bool true)) ∧ OldK s1.heap s'.heap ∧ s'.os = s1.os ∧ AllBare s'.gens) s1 := by
  obtain ⟨H, only, hS⟩ := entry_heap KX ha hi hl
  have hok : HOk P w H s1.heap := fun b o h => by
    obtain ⟨rfl, rfl, _⟩ := only b o h
    exact ⟨ha, by rw [List.length_map]; exact hl, vs, 0, vals_ints hi, ha⟩
  have notdict : ∀ {b : Addr} {o : Obj} {es : Array DictEntry} {ep : Nat}, s1.heap.get? b = some o → o.data = .dict es ep → H b = none := fun {b o es ep} e d => by
    cases q : H b with
    | none => rfl
    | some u =>
      obtain ⟨rfl, _, _⟩ := only b u q
      rw [ha] at e
      cases e
      exact nomatch d
  have there : ∀ {b : Addr} {m : Str → Option Value}, s1.heap.Ns b m → (hidT s1.heap H).Ns b m := fun {b m} ⟨o, es, ep, e, d, r⟩ => ⟨o, es, ep, hidT_get e (notdict e d), d, r⟩
  have Kb : K.In (hidT s1.heap H) := fun b o e => hidT_get (KX b o e) (by
    cases q : H b with
    | none => rfl
    | some u =>
      obtain ⟨rfl, _, h⟩ := only b u q
      rw [h] at e
      cases e)
  have lim : (hidT s1.heap H).NoLimit := let ⟨mc, h1, h2⟩ := hlim; ⟨mc, there h1, h2⟩
  have M : Mod K mg (hidT s1.heap H) := ⟨Kb, there hns, ⟨mb, there hb, hbb⟩, lim⟩
  have none_in : ∀ b : Addr, b ∉ frs ([] : List Env) := fun b h => by
    have h' : b ∈ ([] : List Addr) := h
    cases h'
  have e0 : Env0 P w K mg (hidT s1.heap H) callerA [] s1 H := ⟨rfl, M, fun b o e => of_hidT e, Nat.le_of_eq (hidT_size _ _), trivial, fun b h => absurd h (none_in b), hok, .of_eq hg⟩
  have run := (F _ Kb (there hns)).go callerA [] s1 H ⟨[.ref a], []⟩ [.ref a] [.ref a] _ hr rfl e0 (bind s1 (.ref a)) (.cons rfl .nil) (ask H hS)
  refine codeAny_mono run fun r s' h => ?_
  match r, h with
  | .error _, h => exact False.elim h
  | .ok .next, h => exact False.elim h
  | .ok .brk, h => exact False.elim h
  | .ok .cont, h => exact False.elim h
  | .ok (.ret u), h =>
    obtain ⟨v, H', os, bare, un, hok', r', ev⟩ := h
    obtain rfl : v = .bl true := ev
    obtain rfl : u = Value.bool true := r'
    refine ⟨rfl, OldK.of_keep fun b o e => ?_, os, bare⟩
    cases q : H b with
    | none => exact un.keep b o e q (none_in b) (fun z => by cases z)
    | some u =>
      obtain ⟨rfl, rfl, _⟩ := only b u q
      have z := (hok' _ _ (un.frzs _ _ _ q)).1
      rw [ha] at e
      cases e
      exact z
end
/-- the goal that the head leaves -/
theorem walkG {l : PySem.W.OpenLaw} {n k : Nat} {q : Program} {loose : List Str} {XP : (Str → Option Value) → Heap → Prop} {YP : World → Heap → Prop} {d : DefRec} {K : Params → PySem.W.Frag} {sp : PySem.W.Frag → Sp} {x : Str}
    (hn : l.most = some n) (hn2 : n ≤ sizeLine) (hdf : d.params.defaults = []) (hr : Room k callerA) (hY : ∀ (w : World) (h : Heap), YP w h → (K w.params).In h)
    (F : ∀ (w : World) (mg : Str → Option Value) (fa : Addr) (h : Heap), (K w.params).In h → h.Ns mainGlobals mg → mg d.name = some (.ref fa) →
      ∃ fd : FuncData, (∀ (s : Shared) (u : Value), BindsTo s fd ⟨[u], []⟩ [(x, u)]) ∧ ∀ base : Heap, (K w.params).In base → base.Ns mainGlobals mg → FnG l.prog w (K w.params) mg base k fa fd [x] (sp (K w.params)))
    (ask : ∀ (K : PySem.W.Frag) (H : Hp) (a : Addr) (ns : List Int), ns.length ≤ n → SqL K H a (ns.map V.int) → sp K [.ref a] H (fun v _ => v = .bl true) E0) :
    PySem.W.WalkO q loose XP YP l.row.toRowW d [] (fun f vs => PySem.call f vs) := by
  refine Att.attach_call hn hdf fun w s0 s1 mg mb fa o pm cd doc a vs ns G Y ho hd hcd hmg hobj hints hlen hg => ?_
  obtain ⟨fd, hb, hF⟩ := F w mg fa _ (hY w _ Y) G.T.g hmg
  exact law_callG (hY w _ Y) G.T.g G.T.b G.T.builtins G.T.nolimit hg hobj hints (Nat.le_trans hlen hn2) hr hF hb fun H hS => ask _ H a ns hlen hS
end Kt

set_option Elab.async false
set_option linter.all false
set_option maxRecDepth 100000
set_option maxHeartbeats 4000000
namespace K01
open PySem L2 Kt PyProof.Rows
def tp (i : Nat) : Stmt := PySem.Challenge.pw_keptsorted_k01_families.main.body.getD i (.Pass ⟨0, 0, 0, 0⟩)
abbrev sWhole : Stmt := tp 6
abbrev sWithin : Stmt := tp 7
abbrev sChFill : Stmt := tp 8
abbrev sChFam : Stmt := tp 9
abbrev sChRow : Stmt := tp 10
abbrev sFault : Stmt := tp 11
abbrev sSortBy : Stmt := tp 13
abbrev sIsBy : Stmt := tp 14
abbrev sAfterRow : Stmt := tp 15
abbrev sAlong : Stmt := tp 16
abbrev sAsc : Stmt := tp 17
/-- the built-ins stand under their own names -/
structure Nb (mg : Str → Option Value) : Prop where
  len : mg "len" = none
  isi : mg "isinstance" = none
  int : mg "int" = none
  bool : mg "bool" = none
  list : mg "list" = none
  enum : mg "enumerate" = none
  set : mg "set" = none
  zip : mg "zip" = none
  sorted : mg "sorted" = none
  range : mg "range" = none
  repr : mg "repr" = none
  min : mg "min" = none
section
variable {P : Program} {w : World} {K : PySem.W.Frag} {mg : Str → Option Value} {base : Heap}
/-! ### is_whole, is_whole_within -/
def spWhole : Sp := fun vs H Q _ => ∃ i : Int, vs = [.int i] ∧ Q (.bl true) H
theorem scWhole : FnScope ["thing"] ["thing"] (defScope sWhole) := ⟨rfl, rfl, rfl, by decide +kernel, rfl, by decide +kernel, by decide +kernel⟩
theorem ok_whole {f : Addr} {fd : FuncData} (F : Fun K "is_whole" "is_whole" sWhole f fd) (N : Nb mg) : FnOk P w K mg base CX0 1 f fd ["thing"] spWhole := by
  refine F.ok scWhole (fun vs H Q E h => ?_) (fun cdv A outer s H vs Q E hr h => ?_)
  · obtain ⟨i, rfl, _⟩ := h
    rfl
  · obtain ⟨i, rfl, k⟩ := h
    refine ⟨_, pss_one (ps_ret (pe_and (pe_callB call_isi (by rfl) N.isi (by decide +kernel) (pa_cons (pv 0) (pa_cons (pe_bltn (v := .ty "int") (by rfl) N.int (by decide +kernel) rfl) pa_nil)))
      (pe_one (pe_not (pe_callB call_isi (by rfl) N.isi (by decide +kernel) (pa_cons (pv 0) (pa_cons (pe_bltn (v := .ty "bool") (by rfl) N.bool (by decide +kernel) rfl) pa_nil))))))), ?_⟩
    refine ⟨_, rfl, _, _, _, _, _, rfl, .ty "int", .base (.int i), kit_ty (by decide +kernel), true, rfl, iteT ?_⟩
    exact ⟨_, rfl, _, _, _, _, _, rfl, .ty "bool", .base (.int i), kit_ty (by decide +kernel), false, rfl, k⟩
def spWithin : Sp := fun vs H Q _ => ∃ i a b : Int, vs = [.int i, .int a, .int b] ∧ Q (.bl (decide (a ≤ i) && decide (i ≤ b))) H
theorem scWithin : FnScope ["thing", "least", "most"] ["thing", "least", "most"] (defScope sWithin) := ⟨rfl, rfl, rfl, by decide +kernel, rfl, by decide +kernel, by decide +kernel⟩
theorem ok_within {f f1 : Addr} {fd fd1 : FuncData} (F : Fun K "is_whole_within" "is_whole_within" sWithin f fd) (G : FnOk P w K mg base CX0 1 f1 fd1 ["thing"] spWhole) (b1 : Binds K fd1 ["thing"] []) (m1 : mg "is_whole" = some (.ref f1)) (k1 : PySem.W.keepIn K (.ref f1) = true) :
    FnOk P w K mg base CX0 2 f fd ["thing", "least", "most"] spWithin := by
  refine F.ok scWithin (fun vs H Q E h => ?_) (fun cdv A outer s H vs Q E hr h => ?_)
  · obtain ⟨i, a, b, rfl, _⟩ := h
    rfl
  · obtain ⟨i, a, b, rfl, k⟩ := h
    refine ⟨_, pss_one (ps_ret (pe_and (pe_call G hr (by rfl) m1 k1 b1 .nil pass0 (pa_cons (pv 0) pa_nil)) (pe_one (pe_chain op_le op_le (pv 1) (pv 0) (pv 2))))), ?_⟩
    refine ⟨_, rfl, i, rfl, true, rfl, iteT ?_⟩
    refine ⟨_, rfl, _, rfl, _, _, rfl, rfl, _, rfl, ?_⟩
    by_cases h1 : a ≤ i
    · refine ite2 (fun _ => ⟨_, rfl, _, _, rfl, rfl, ?_⟩) fun z => absurd (decide_eq_true h1) z
      rw [decide_eq_true h1, Bool.true_and] at k
      exact k
    · refine ite2 (fun z => absurd (of_decide_eq_true z) h1) fun _ => ?_
      rw [decide_eq_false h1, Bool.false_and] at k
      exact k
end
end K01

set_option Elab.async false
set_option linter.all false
set_option maxRecDepth 100000
set_option maxHeartbeats 4000000
namespace K01
open PySem L2 Kt PyProof.Rows
section
variable {P : Program} {w : World} {K : PySem.W.Frag} {mg : Str → Option Value} {base : Heap}
/-! ### check_filling -/
def spChFill : Sp := fun vs H Q _ => ∃ (a : Addr) (xs : List Int), vs = [.ref a] ∧ LI H a xs ∧ 1 ≤ xs.length ∧ xs.length ≤ 40 ∧ ∀ H', Same H H' → Q .non H'
theorem scChFill : FnScope ["filling", "index", "thing"] ["filling"] (defScope sChFill) := ⟨rfl, rfl, rfl, by decide +kernel, rfl, by decide +kernel, by decide +kernel⟩
theorem ok_chFill {f f1 : Addr} {fd fd1 : FuncData} {tm : Tok} (F : Fun K "check_filling" "check_filling" sChFill f fd) (N : Nb mg) (mm : mg "MOST_PLACES" = some (.int 40 tm)) (G : FnOk P w K mg base CX0 1 f1 fd1 ["thing"] spWhole) (b1 : Binds K fd1 ["thing"] [])
    (m1 : mg "is_whole" = some (.ref f1)) (k1 : PySem.W.keepIn K (.ref f1) = true) : FnOk P w K mg base CX0 2 f fd ["filling"] spChFill := by
  refine F.ok scChFill (fun vs H Q E h => ?_) (fun cdv A outer s H vs Q E hr h => ?_)
  · obtain ⟨a, xs, rfl, _⟩ := h
    rfl
  · obtain ⟨a, xs, rfl, hx, h1, h40, k⟩ := h
    refine ⟨_, pss_cons (ps_if (PW.pt (pw_or (pt_not (pt_val (pe_callB call_isi (by rfl) N.isi (by decide +kernel) (pa_cons (pv 0) (pa_cons (pe_bltn (v := .ty "list") (by rfl) N.list (by decide +kernel) rfl) pa_nil)))))
        (pw_or1 (pt_not (pt_chain op_le op_le pe_int (pe_callB call_len_seq (by rfl) N.len PySem.boot_len (pa_cons (pv 0) pa_nil)) (pe_glob (v := .int 40) rfl mm ⟨_, rfl⟩)))))) (pss_one ps_never) pss_nil)
      (pss_one (ps_for PassesOwn.never rfl (pi_enum (by rfl) N.enum (pa_cons (pv 0) pa_nil)) (pg_tup rfl (pgs_cons (pg_name (i := 1) scChFill.nd rfl (.inl rfl)) (pgs_cons (pg_name (i := 2) scChFill.nd rfl (.inl rfl)) pgs_nil)))
        (pss_one (ps_if (pt_not (pt_val (pe_call G hr (by rfl) m1 k1 b1 .nil pass0 (pa_cons (pv 2) pa_nil)))) (pss_one ps_never) pss_nil)))), ?_⟩
    refine ⟨_, rfl, _, _, _, _, _, rfl, .ty "list", .base (.lst hx), kit_ty (by decide +kernel), true, rfl, iteF ?_⟩
    refine ⟨_, rfl, a, _, rfl, .inl (SqL.of hx), _, _, rfl, rfl, _, rfl, ?_⟩
    have e1 : decide ((1 : Int) ≤ ((xs.map V.int).length : Int)) = true := decide_eq_true (by rw [List.length_map]; omega)
    have e2 : decide (((xs.map V.int).length : Int) ≤ (40 : Int)) = true := decide_eq_true (by rw [List.length_map]; omega)
    rw [e1]
    refine iteT ⟨_, _, rfl, rfl, _, rfl, ?_⟩
    rw [e2]
    refine iteF ?_
    refine ⟨_, rfl, a, _, rfl, SqL.of hx, for_it walk_enum (fun _ σ H' => (∃ x y, σ = [some (.ref a), x, y]) ∧ Same H H') ⟨⟨_, _, rfl⟩, Same.refl H⟩ (fun i σ H' _ q => SqL.of (q.2 _ _ hx)) ?_ (fun σ H' q => k _ q.2)⟩
    rintro i v σ H1 H2 hi ⟨⟨x, y, rfl⟩, sm⟩ ⟨T, u, z, rfl, hT, rfl, hu, hz⟩
    obtain ⟨n, _, rfl⟩ := map_get hz
    refine ⟨T, _, rfl, SqT.of upd_same, rfl, _, _, rfl, _, _, rfl, rfl, ?_⟩
    refine ⟨_, rfl, n, rfl, true, rfl, iteF ?_⟩
    exact ⟨⟨_, _, rfl⟩, sm.trans (same_upd hT)⟩
/-! ### fault_of_family -/
def spFault : Sp := fun vs H Q _ => ∃ (n : Nat) (a : Addr) (fm : List (List Int)), vs = [.int n, .ref a] ∧ Fam H a fm ∧ Valid n fm ∧ n ≤ 40 ∧ ∀ H', Same H H' → Q .non H'
theorem scFault : FnScope ["places", "family", "met", "at", "chain", "index", "thing"] ["places", "family"] (defScope sFault) := ⟨rfl, rfl, rfl, by decide +kernel, rfl, by decide +kernel, by decide +kernel⟩
/-- what was met before the j-th place of the i-th chain -/
def seen (f : List (List Int)) (i : Nat) (c : List Int) (j : Nat) : List Int := (f.take i).flatten ++ c.take j
theorem seen_next {f : List (List Int)} {i : Nat} {c : List Int} (h : f[i]? = some c) : seen f i c c.length = (f.take (i + 1)).flatten := by
  unfold seen
  rw [List.take_length, List.take_add_one, h, Option.toList_some, List.flatten_append]
  simp
theorem seen_step {f : List (List Int)} {i j : Nat} {c : List Int} {x : Int} (h : c[j]? = some x) : seen f i c (j + 1) = seen f i c j ++ [x] := by
  unfold seen
  rw [List.take_add_one, h, Option.toList_some, List.append_assoc]
theorem seen_pre {f : List (List Int)} {i j : Nat} {c : List Int} (h : f[i]? = some c) : ∃ r, f.flatten = seen f i c j ++ r := by
  have e : f = f.take i ++ c :: f.drop (i + 1) := by
    have hi := (List.getElem?_eq_some_iff.mp h)
    obtain ⟨h1, h2⟩ := hi
    rw [← h2, List.getElem_cons_drop, List.take_append_drop]
  refine ⟨c.drop j ++ (f.drop (i + 1)).flatten, ?_⟩
  unfold seen
  conv => lhs; rw [e]
  rw [List.flatten_append, List.flatten_cons, List.append_assoc, ← List.append_assoc (c.take j), List.take_append_drop]
theorem seen_new {f : List (List Int)} {i j : Nat} {c : List Int} {x : Int} (nd : f.flatten.Nodup) (h : f[i]? = some c) (hx : c[j]? = some x) : x ∉ seen f i c j := by
  obtain ⟨r, e⟩ := seen_pre (j := j + 1) h
  rw [seen_step hx] at e
  rw [e] at nd
  obtain ⟨n1, _, _⟩ := List.nodup_append.mp nd
  obtain ⟨_, _, n2⟩ := List.nodup_append.mp n1
  exact fun z => n2 x z x List.mem_cons_self rfl
theorem seen_len {n : Nat} {f : List (List Int)} {i j : Nat} {c : List Int} (v : Valid n f) (h : f[i]? = some c) : (seen f i c j).length ≤ n := by
  obtain ⟨r, e⟩ := seen_pre (j := j) h
  have := v.len
  rw [e, List.length_append] at this
  omega
/-- the set of those met -/
def MetO (w : World) (m : Addr) (l : List Int) : HO := SetO w m (fun k => decide (k ∈ l)) l.length
theorem met_new (w : World) (m : Addr) : SetO w m (fun _ => false) 0 = MetO w m [] := by
  unfold MetO
  congr 1
  all_goals (funext k; simp)
theorem met_add (w : World) (m : Addr) (l : List Int) (x : Int) (h : x ∉ l) : SetO w m (fun j => decide (j ∈ l) || decide (j = x)) (if decide (x ∈ l) = true then l.length else l.length + 1) = MetO w m (l ++ [x]) := by
  unfold MetO
  rw [if_neg (by simpa using h), List.length_append]
  congr 1
  all_goals (funext k; simp)
def SetAt (H0 H : Hp) (w : World) (m : Addr) (l : List Int) : Prop := Same H0 H ∧ H0 m = none ∧ H m = some (MetO w m l)
theorem ok_fault {f f2 : Addr} {fd fd2 : FuncData} (F : Fun K "fault_of_family" "fault_of_family" sFault f fd) (N : Nb mg) (G : FnOk P w K mg base CX0 2 f2 fd2 ["thing", "least", "most"] spWithin) (b2 : Binds K fd2 ["thing", "least", "most"] [])
    (m2 : mg "is_whole_within" = some (.ref f2)) (k2 : PySem.W.keepIn K (.ref f2) = true) : FnOk P w K mg base CX0 3 f fd ["places", "family"] spFault := by
  refine F.ok scFault (fun vs H Q E h => ?_) (fun cdv A outer s H vs Q E hr h => ?_)
  · obtain ⟨n, a, fm, rfl, _⟩ := h
    rfl
  · obtain ⟨n, a, fm, rfl, ⟨as, hf, hp⟩, v, hn, k⟩ := h
    refine ⟨_, pss_cons (ps_if (pt_not (pt_val (pe_callB call_isi (by rfl) N.isi (by decide +kernel) (pa_cons (pv 1) (pa_cons (pe_bltn (v := .ty "list") (by rfl) N.list (by decide +kernel) rfl) pa_nil))))) (pss_one ps_never) pss_nil)
      (pss_cons (ps_set (i := 2) scFault.nd rfl (.inl rfl) (pe_callTy0 cr_set0 (by rfl) N.set (by decide +kernel)))
      (pss_cons (ps_for PassesOwn.never rfl (pi_enum (by rfl) N.enum (pa_cons (pv 1) pa_nil)) (pg_tup rfl (pgs_cons (pg_name (i := 3) scFault.nd rfl (.inl rfl)) (pgs_cons (pg_name (i := 4) scFault.nd rfl (.inl rfl)) pgs_nil)))
        (pss_cons (ps_if (pt_not (pt_val (pe_callB call_isi (by rfl) N.isi (by decide +kernel) (pa_cons (pv 4) (pa_cons (pe_bltn (v := .ty "list") (by rfl) N.list (by decide +kernel) rfl) pa_nil))))) (pss_one ps_never) pss_nil)
        (pss_one (ps_for PassesOwn.never rfl (pi_enum (by rfl) N.enum (pa_cons (pv 4) pa_nil)) (pg_tup rfl (pgs_cons (pg_name (i := 5) scFault.nd rfl (.inl rfl)) (pgs_cons (pg_name (i := 6) scFault.nd rfl (.inl rfl)) pgs_nil)))
          (pss_cons (ps_if (PW.pt (pw_or (pt_not (pt_val (pe_call G hr (by rfl) m2 k2 b2 .nil pass0 (pa_cons (pv 6) (pa_cons pe_int (pa_cons (pv 0) pa_nil)))))) (pw_or1 (pt_cmpR or_sin (pv 6) (pv 2) (by rfl))))) (pss_one ps_never) pss_nil)
          (pss_one (ps_expr (pe_sadd (pv 2) (pa_cons (pv 6) pa_nil)))))))))
      (pss_one (ps_ret pe_non)))), ?_⟩
    refine ⟨_, rfl, _, _, _, _, _, rfl, .ty "list", .base (.lst hf), kit_ty (by decide +kernel), true, rfl, iteF ?_⟩
    refine ⟨rfl, fun m hm => ?_⟩
    refine ⟨_, rfl, a, _, rfl, SqL.of ((upd_ne (ne_of_none hf hm)).trans hf), for_it walk_enum (fun i σ H' => (∃ x y z u, σ = [some (.int n), some (.ref a), some (.ref m), x, y, z, u]) ∧ SetAt H H' w m (fm.take i).flatten) ⟨⟨_, _, _, _, rfl⟩, same_upd hm, hm, ?_⟩ (fun i σ H' _ q => SqL.of (q.2.1 _ _ hf)) ?_ (fun σ H' q => k _ q.2.1)⟩
    · rw [upd_same, met_new]
      rfl
    rintro i v1 σ H1 H2 hi ⟨⟨x, y, z, u, rfl⟩, sm, hm0, hm1⟩ ⟨T, t1, t2, rfl, hT, rfl, e1, e2⟩
    obtain ⟨ca, hca, rfl⟩ := map_get e2
    obtain ⟨c, hc, hL⟩ := pget hp hca
    have s2 : Same H (upd H1 T (.tup [t1, V.ref ca])) := sm.trans (same_upd hT)
    have hL2 := hL.same s2
    have nmT : m ≠ T := ne_of_none hm1 hT
    refine ⟨T, _, rfl, SqT.of upd_same, rfl, _, _, rfl, _, _, rfl, rfl, ?_⟩
    refine ⟨_, rfl, _, _, _, _, _, rfl, .ty "list", .base (.lst hL2), kit_ty (by decide +kernel), true, rfl, iteF ?_⟩
    refine ⟨_, rfl, ca, _, rfl, SqL.of hL2, for_it walk_enum (fun j σ H' => (∃ x y z, σ = [some (.int n), some (.ref a), some (.ref m), x, some (.ref ca), y, z]) ∧ SetAt H H' w m (seen fm i c j)) ⟨⟨_, _, _, rfl⟩, s2, hm0, ?_⟩ (fun j σ H' _ q => SqL.of (hL.same q.2.1)) ?_ ?_⟩
    · rw [upd_ne nmT, hm1]
      unfold seen
      simp
    · rintro j v2 σ H3 H4 hj ⟨⟨x, y, z, rfl⟩, sm3, _, hm3⟩ ⟨T2, t3, t4, rfl, hT2, rfl, e3, e4⟩
      obtain ⟨p, hpj, rfl⟩ := map_get e4
      have nmT2 : m ≠ T2 := ne_of_none hm3 hT2
      obtain ⟨r1, r2⟩ := v.rg p (flatten_mem (List.mem_of_getElem? hc) (List.mem_of_getElem? hpj))
      have new := seen_new v.nd hc hpj
      have hm4 : upd H3 T2 (.tup [t3, V.int p]) m = some (MetO w m (seen fm i c j)) := (upd_ne nmT2).trans hm3
      refine ⟨T2, _, rfl, SqT.of upd_same, rfl, _, _, rfl, _, _, rfl, rfl, ?_⟩
      refine ⟨_, rfl, _, rfl, p, 1, n, rfl, ?_⟩
      have d1 : (decide (1 ≤ p) && decide (p ≤ (n : Int))) = true := by simp [r1, r2]
      rw [d1]
      refine ⟨true, rfl, iteF ?_⟩
      refine ⟨_, rfl, _, rfl, p, m, _, _, rfl, rfl, hm4, _, rfl, ?_⟩
      have d2 : decide (p ∈ seen fm i c j) = false := decide_eq_false new
      rw [d2]
      refine iteF ?_
      refine ⟨_, rfl, ⟨m, _, _, rfl, hm4⟩, _, rfl, m, p, _, _, rfl, rfl, hm4, ?_, ?_⟩
      · have := seen_len (j := j) v hc
        show _ + 1 < 4096
        omega
      · have fin : SetAt H (upd (upd H3 T2 (.tup [t3, V.int p])) m (SetO w m (fun i' => decide (i' ∈ seen fm i c j) || decide (i' = p)) (if decide (p ∈ seen fm i c j) = true then (seen fm i c j).length else (seen fm i c j).length + 1))) w m (seen fm i c (j + 1)) := by
          rw [met_add w m _ p new, ← seen_step hpj]
          refine ⟨fun b o e => ?_, hm0, upd_same⟩
          have nbm : b ≠ m := fun q => by rw [q, hm0] at e; cases e
          rw [upd_ne nbm]
          exact (sm3.trans (same_upd hT2)) b o e
        exact ⟨⟨_, _, _, rfl⟩, fin⟩
    · rintro σ H' ⟨⟨x, y, z, rfl⟩, q⟩
      rw [List.length_map, seen_next hc] at q
      exact ⟨⟨_, _, _, _, rfl⟩, q⟩
end
end K01

set_option Elab.async false
set_option linter.all false
set_option maxRecDepth 100000
set_option maxHeartbeats 4000000
namespace Kt
open PySem L2 PyProof.Rows
theorem tyes {σ : L2.St} {H : Hp} {A B : Hp → Prop} (h : A H) : tYes σ H (fun b H3 => if b = true then A H3 else B H3) := by
  show if true = true then A H else B H
  exact iteT h
theorem ixN_of {n : Nat} {i : Int} (h0 : 0 ≤ i) (h1 : i < (n : Int)) : ixN n i = some i.toNat := by
  unfold ixN
  rw [if_pos h0, if_pos h1]
theorem atI_of {α : Type} {xs : List α} {i : Int} {v : α} (h0 : 0 ≤ i) (h : xs[i.toNat]? = some v) : atI xs i = some v := by
  have := atI_nat h
  rw [Int.toNat_of_nonneg h0] at this
  exact this
/-- a list at r, made behind H0 -/
def RAt (H0 H : Hp) (r : Addr) (xs : List Int) : Prop := Same H0 H ∧ H0 r = none ∧ LI H r xs
theorem same_but {r : Addr} {H0 H1 H2 : Hp} (s : Same H0 H1) (h : H0 r = none) (b : But r H1 H2) : Same H0 H2 := fun c o e => b c o (ne_of_none e h) (s c o e)
theorem li_set {H : Hp} {r : Addr} {xs : List Int} {j : Nat} {v : Int} : LI (upd H r (.lst ((xs.map V.int).set j (V.int v)))) r (xs.set j v) := by
  unfold LI
  rw [upd_same, List.map_set]
theorem li_len {xs : List Int} : (xs.map V.int).length = xs.length := List.length_map _
theorem valid_chain {n : Nat} {f : List (List Int)} (v : Valid n f) {i : Nat} {c : List Int} (h : f[i]? = some c) : ∀ x ∈ c, 1 ≤ x ∧ x ≤ (n : Int) := fun x hx => v.rg x (flatten_mem (List.mem_of_getElem? h) hx)
end Kt
namespace K01
open PySem L2 Kt PyProof.Rows
section
variable {P : Program} {w : World} {K : PySem.W.Frag} {mg : Str → Option Value} {base : Heap}
/-! ### check_family, check_row -/
theorem scChFam : FnScope ["places", "family", "fault", "chain", "index"] ["places", "family"] (defScope sChFam) := ⟨rfl, rfl, rfl, by decide +kernel, rfl, by decide +kernel, by decide +kernel⟩
theorem ok_chFam {f f3 : Addr} {fd fd3 : FuncData} (F : Fun K "check_family" "check_family" sChFam f fd) (G : FnOk P w K mg base CX0 3 f3 fd3 ["places", "family"] spFault) (b3 : Binds K fd3 ["places", "family"] [])
    (m3 : mg "fault_of_family" = some (.ref f3)) (k3 : PySem.W.keepIn K (.ref f3) = true) : FnOk P w K mg base CX0 4 f fd ["places", "family"] spFault := by
  refine F.ok scChFam (fun vs H Q E h => ?_) (fun cdv A outer s H vs Q E hr h => ?_)
  · obtain ⟨n, a, fm, rfl, _⟩ := h
    rfl
  · obtain ⟨n, a, fm, rfl, hf, v, hn, k⟩ := h
    refine ⟨_, pss_cons (ps_set (i := 2) scChFam.nd rfl (.inl rfl) (pe_call G hr (by rfl) m3 k3 b3 .nil pass0 (pa_cons (pv 0) (pa_cons (pv 1) pa_nil))))
      (pss_one (ps_if (pt_cmpR op_notN (pv 2) pe_non (nomark _)) (pss_cons ps_never (pss_one ps_never)) pss_nil)), ?_⟩
    refine ⟨_, rfl, _, rfl, n, a, fm, rfl, hf, v, hn, fun H1 s1 => ?_⟩
    refine ⟨_, rfl, rfl, _, rfl, ?_⟩
    exact iteF (k _ s1)
def spChRow : Sp := fun vs H Q _ => ∃ (n : Nat) (a : Addr) (r : List (List (List Int))), vs = [.int n, .ref a] ∧ RowA H a r ∧ (∀ f ∈ r, Valid n f) ∧ n ≤ 40 ∧ ∀ H', Same H H' → Q .non H'
theorem scChRow : FnScope ["places", "row", "at", "family", "fault", "chain", "index"] ["places", "row"] (defScope sChRow) := ⟨rfl, rfl, rfl, by decide +kernel, rfl, by decide +kernel, by decide +kernel⟩
theorem ok_chRow {f f3 : Addr} {fd fd3 : FuncData} (F : Fun K "check_row" "check_row" sChRow f fd) (N : Nb mg) (G : FnOk P w K mg base CX0 3 f3 fd3 ["places", "family"] spFault) (b3 : Binds K fd3 ["places", "family"] [])
    (m3 : mg "fault_of_family" = some (.ref f3)) (k3 : PySem.W.keepIn K (.ref f3) = true) : FnOk P w K mg base CX0 4 f fd ["places", "row"] spChRow := by
  refine F.ok scChRow (fun vs H Q E h => ?_) (fun cdv A outer s H vs Q E hr h => ?_)
  · obtain ⟨n, a, fm, rfl, _⟩ := h
    rfl
  · obtain ⟨n, a, r, rfl, ⟨as, ha, hp⟩, v, hn, k⟩ := h
    refine ⟨_, pss_cons (ps_if (pt_not (pt_val (pe_callB call_isi (by rfl) N.isi (by decide +kernel) (pa_cons (pv 1) (pa_cons (pe_bltn (v := .ty "list") (by rfl) N.list (by decide +kernel) rfl) pa_nil))))) (pss_one ps_never) pss_nil)
      (pss_one (ps_for PassesOwn.never rfl (pi_enum (by rfl) N.enum (pa_cons (pv 1) pa_nil)) (pg_tup rfl (pgs_cons (pg_name (i := 2) scChRow.nd rfl (.inl rfl)) (pgs_cons (pg_name (i := 3) scChRow.nd rfl (.inl rfl)) pgs_nil)))
        (pss_cons (ps_set (i := 4) scChRow.nd rfl (.inl rfl) (pe_call G hr (by rfl) m3 k3 b3 .nil pass0 (pa_cons (pv 0) (pa_cons (pv 3) pa_nil))))
        (pss_one (ps_if (pt_cmpR op_notN (pv 4) pe_non (nomark _)) (pss_cons ps_never (pss_one ps_never)) pss_nil))))), ?_⟩
    refine ⟨_, rfl, _, _, _, _, _, rfl, .ty "list", .base (.lst ha), kit_ty (by decide +kernel), true, rfl, iteF ?_⟩
    refine ⟨_, rfl, a, _, rfl, SqL.of ha, for_it walk_enum (fun i σ H' => (∃ x y z u t, σ = [some (.int n), some (.ref a), x, y, z, u, t]) ∧ Same H H') ⟨⟨_, _, _, _, _, rfl⟩, Same.refl H⟩ (fun i σ H' _ q => SqL.of (q.2 _ _ ha)) ?_ (fun σ H' q => k _ q.2)⟩
    rintro i v1 σ H1 H2 hi ⟨⟨x, y, z, u, t, rfl⟩, sm⟩ ⟨T, t1, t2, rfl, hT, rfl, e1, e2⟩
    obtain ⟨fa, hfa, rfl⟩ := map_get e2
    obtain ⟨c, hc, hF⟩ := pget hp hfa
    have s2 : Same H (upd H1 T (.tup [t1, V.ref fa])) := sm.trans (same_upd hT)
    refine ⟨T, _, rfl, SqT.of upd_same, rfl, _, _, rfl, _, _, rfl, rfl, ?_⟩
    refine ⟨_, rfl, _, rfl, n, fa, c, rfl, hF.same s2, v c (List.mem_of_getElem? hc), hn, fun H3 s3 => ?_⟩
    refine ⟨_, rfl, rfl, _, rfl, ?_⟩
    exact iteF ⟨⟨_, _, _, _, _, rfl⟩, s2.trans s3⟩
/-! ### sorted_along, ascends_along -/
def spAlong : Sp := fun vs H Q _ => ∃ (a b : Addr) (xs : List Int) (fm : List (List Int)), vs = [.ref a, .ref b] ∧ LI H a xs ∧ Fam H b fm ∧ Valid xs.length fm ∧ xs.length ≤ 40 ∧
  ∀ H' p, Same H H' → H p = none → LI H' p (sortAlong xs fm) → Q (.ref p) H'
theorem scAlong : FnScope ["filling", "family", "result", "chain", "place", "values", "value"] ["filling", "family"] (defScope sAlong) := ⟨rfl, rfl, rfl, by decide +kernel, rfl, by decide +kernel, by decide +kernel⟩
theorem ok_along {f : Addr} {fd : FuncData} (F : Fun K "sorted_along" "sorted_along" sAlong f fd) (N : Nb mg) : FnOk P w K mg base CX0 1 f fd ["filling", "family"] spAlong := by
  refine F.ok scAlong (fun vs H Q E h => ?_) (fun cdv A outer s H vs Q E hr h => ?_)
  · obtain ⟨a, b, xs, fm, rfl, _⟩ := h
    rfl
  · obtain ⟨a, b, xs, fm, rfl, hx, ⟨as, hb, hp⟩, v, hn, k⟩ := h
    refine ⟨_, pss_cons (ps_set (i := 2) scAlong.nd rfl (.inl rfl) (pe_callTy call_list_of (by rfl) N.list (by decide +kernel) (pa_cons (pv 0) pa_nil)))
      (pss_cons (ps_for PassesOwn.never rfl (pi_list (pv 1)) (pg_name (i := 3) scAlong.nd rfl (.inl rfl))
        (pss_cons (ps_set (i := 5) scAlong.nd rfl (.inl rfl) (pe_callB cr_sortedI (by rfl) N.sorted (by decide +kernel) (pa_cons
          (pe_lc (own := [("place", 4)]) (g := gName 4) (tt := tYes) rfl scAlong.nd (pi_list (pv 3)) (blkOk_by (N := ["filling", "family", "result", "chain", "place", "values", "value"]) (sc := defScope sAlong) (by decide +kernel))
            (fun _ _ _ _ _ => pg_name (i := 4) scAlong.nd rfl (Or.inl rfl)) (fun _ _ _ _ _ => pts_nil) (fun _ _ _ _ _ => pe_ix (show IxR _ (rIxL K) from ix_list) (pv 0) (pe_op op_sub (pv 4) pe_int) (fun _ _ => rfl))) pa_nil)))
        (pss_one (ps_for PassesOwn.never rfl (pi_zip (by rfl) N.zip (pa_cons (pv 3) (pa_cons (pv 5) pa_nil))) (pg_tup rfl (pgs_cons (pg_name (i := 4) scAlong.nd rfl (.inl rfl)) (pgs_cons (pg_name (i := 6) scAlong.nd rfl (.inl rfl)) pgs_nil)))
          (pss_one (ps_asg (pv 6) (pg_sub (pv 2) (pe_op op_sub (pv 4) pe_int) set_list)))))))
      (pss_one (ps_ret (pv 2)))), ?_⟩
    refine ⟨_, rfl, a, _, rfl, .inl (SqL.of hx), fun r hr0 => ?_⟩
    refine ⟨_, rfl, b, rfl, ⟨_, SqL.of ((upd_ne (ne_of_none hb hr0)).trans hb)⟩, for_it walk_list (fun i σ H' => (∃ x y z u, σ = [some (.ref a), some (.ref b), some (.ref r), x, y, z, u]) ∧ RAt H H' r ((fm.take i).foldl (along1 xs) xs))
      ⟨⟨_, _, _, _, rfl⟩, same_upd hr0, hr0, upd_same⟩ (fun i σ H' _ q => SqL.of (q.2.1 _ _ hb)) ?_ ?_⟩
    · rintro i v1 σ H1 H2 hi ⟨⟨x, y, z, u, rfl⟩, sm, _, hR⟩ ⟨rfl, e2⟩
      obtain ⟨ca, hca, rfl⟩ := map_get e2
      obtain ⟨c, hc, hL⟩ := pget hp hca
      have vc := valid_chain v hc
      have hL1 := hL.same sm
      have hx1 := hx.same sm
      -- the comprehension
      refine ⟨_, rfl, ca, rfl, ⟨_, SqL.of hL1⟩, fun D hD => lc_it (walk_list (xs := c.map V.int)) (fun j H' => H' = upd H2 D (.lst (((c.take j).map (at1 xs)).map V.int))) rfl (fun j H' _ q => ?_) ?_ ?_⟩
      · rw [q]
        exact SqL.of ((upd_ne (ne_of_none hL1 hD)).trans hL1)
      · rintro j y H4 H5 hj rfl ⟨rfl, ej⟩
        obtain ⟨p, hpj, rfl⟩ := map_get ej
        obtain ⟨p1, p2⟩ := vc p (List.mem_of_getElem? hpj)
        refine ⟨rfl, tyes ?_⟩
        refine ⟨_, rfl, _, rfl, _, _, rfl, rfl, a, _, _, _, rfl, rfl, SqL.of ((upd_ne (ne_of_none hx1 hD)).trans hx1), atI_of (by omega) (get_map (at1_get p1 p2)), _, upd_same, ?_, ?_⟩
        · rw [List.length_map, List.length_map]
          have := List.length_take_le j c
          have hl := v.len
          have h2 : (c.take j).length ≤ 40 := by
            have h3 : c.length ≤ fm.flatten.length := by
              obtain ⟨rr, er⟩ := seen_pre (j := c.length) hc
              rw [er]
              unfold seen
              rw [List.length_append, List.length_append, List.length_take]
              omega
            rw [List.length_take]
            omega
          rw [sizeLine_eq]
          omega
        · rw [upd_upd, List.take_add_one, hpj, Option.toList_some, List.map_append, List.map_append]
          rfl
      · rintro H' rfl
        refine ⟨D, c.map (at1 xs), rfl, SqL.of ?_, fun ns va perm up hva => ?_⟩
        · rw [upd_same, List.length_map, List.take_length]
        · have hns : ns = srt (c.map (at1 xs)) := srt_of perm up
          rw [List.length_map, List.take_length] at hva ⊢
          have hrD : H2 r ≠ none := by rw [hR]; exact fun z => nomatch z
          have nrD : r ≠ D := ne_of_none hR hD
          have hR4 : LI (upd H2 D (.lst ((c.map (at1 xs)).map V.int))) r ((fm.take i).foldl (along1 xs) xs) := (upd_ne nrD).trans hR
          have nrv : r ≠ va := ne_of_none hR4 hva
          generalize hH4 : upd (upd H2 D (.lst ((c.map (at1 xs)).map V.int))) va (.lst (ns.map V.int)) = H4
          have s4 : Same H2 H4 := by rw [← hH4]; exact (same_upd hD).trans (same_upd hva)
          have hv4 : LI H4 va ns := by rw [← hH4]; exact upd_same
          have hL4 := hL1.same s4
          have hR5 : LI H4 r ((fm.take i).foldl (along1 xs) xs) := hR.same s4
          have len : ns.length = c.length := by rw [hns, srt_len, List.length_map]
          refine ⟨_, rfl, _, rfl, ca, va, _, _, rfl, SqL.of hL4, SqL.of hv4, for_it (walk_zip (n := c.length) (by rw [List.length_map, List.length_map]; omega))
            (fun j σ H' => (∃ y z, σ = [some (.ref a), some (.ref b), some (.ref r), some (.ref ca), y, some (.ref va), z]) ∧ But r H4 H' ∧ LI H' r (put ((fm.take i).foldl (along1 xs) xs) (c.take j) (ns.take j))) ⟨⟨_, _, rfl⟩, But.refl _ _, hR5⟩
            (fun j σ H' _ q => ⟨SqL.of (q.2.1 _ _ (ne_of_none (hL.same (Same.refl H)) ‹H r = none›) hL4), SqL.of (q.2.1 _ _ (Ne.symm nrv) hv4)⟩) ?_ ?_⟩
          · rintro j v2 σ H5 H6 hj ⟨⟨y, z, rfl⟩, b5, hR6⟩ ⟨T, t1, t2, rfl, hT, rfl, e3, e4⟩
            obtain ⟨p, hpj, rfl⟩ := map_get e3
            obtain ⟨q, hqj, rfl⟩ := map_get e4
            obtain ⟨p1, p2⟩ := vc p (List.mem_of_getElem? hpj)
            have nrT : r ≠ T := ne_of_none hR6 hT
            refine ⟨T, _, rfl, SqT.of upd_same, rfl, _, _, rfl, _, _, rfl, rfl, ?_⟩
            refine ⟨_, rfl, _, rfl, _, rfl, _, _, rfl, rfl, r, _, _, (p - 1).toNat, rfl, rfl, (upd_ne nrT).trans hR6, ixN_of (by omega) ?_, ?_⟩
            · rw [List.length_map, put_len, fold_along_len]
              omega
            · refine ⟨⟨_, _, rfl⟩, fun bb o hb' e => ?_, ?_⟩
              · rw [upd_ne hb']
                exact (same_upd hT) _ _ (b5 bb o hb' e)
              · rw [put_step hpj hqj]
                exact li_set
          · rintro σ H' ⟨⟨y, z, rfl⟩, b5, hR6⟩
            rw [List.take_length, ← len, List.take_length] at hR6
            refine ⟨⟨_, _, _, _, rfl⟩, same_but (sm.trans s4) ‹H r = none› b5, ‹H r = none›, ?_⟩
            rw [fold_step hc]
            show LI H' r (put _ c (srt _))
            rw [← hns]
            exact hR6
    · rintro σ H' ⟨⟨x, y, z, u, rfl⟩, sm, hr1, hR⟩
      have el : (as.map V.ref).length = fm.length := by rw [List.length_map]; exact hp.length
      rw [el, List.take_length] at hR
      exact ⟨_, rfl, k _ _ sm hr1 hR⟩
end
end K01

set_option Elab.async false
set_option linter.all false
set_option maxRecDepth 100000
set_option maxHeartbeats 4000000
namespace Kt
open PySem L2 PyProof.Rows
theorem cut_tail (xs : List Int) : cutV (xs.map V.int) (some 1) none = xs.tail.map V.int := by
  unfold cutV
  have e1 : HT.sIx (xs.map V.int).length 0 (some 1) = min 1 xs.length := by
    have := HT.sIx_nat (xs.map V.int).length 0 1
    rw [List.length_map] at this
    rw [List.length_map]
    exact this
  have e2 : HT.sIx (xs.map V.int).length (xs.map V.int).length none = xs.length := by
    rw [List.length_map]
    rfl
  rw [e1, e2]
  cases xs with
  | nil => rfl
  | cons x xs =>
    have z : min 1 (x :: xs).length = 1 := by rw [List.length_cons]; omega
    rw [z, List.map_cons, List.drop_succ_cons, List.drop_zero, List.take_of_length_le (by rw [List.length_map, List.length_cons]; omega)]
    rfl
/-- the i-th pair of neighbours -/
theorem pair_at {c : List Int} {i : Nat} {p q : Int} (hp : c[i]? = some p) (hq : c.tail[i]? = some q) : (c.zip c.tail)[i]? = some (p, q) := by
  rw [List.getElem?_zip_eq_some]
  exact ⟨hp, hq⟩
theorem all_step {α : Type} {g : α → Bool} {l : List α} {i : Nat} {x : α} (h : l[i]? = some x) : (l.take (i + 1)).all g = ((l.take i).all g && g x) := by
  rw [List.take_add_one, h, Option.toList_some, List.all_append]
  simp
theorem all_false {α : Type} {g : α → Bool} {l : List α} {x : α} (h : x ∈ l) (hx : g x = false) : l.all g = false := by
  cases e : l.all g with
  | false => rfl
  | true => rw [List.all_eq_true.mp e x h] at hx; cases hx
theorem tail_mem {c : List Int} {i : Nat} {q : Int} (h : c.tail[i]? = some q) : q ∈ c := List.mem_of_mem_tail (List.mem_of_getElem? h)
end Kt
namespace K01
open PySem L2 Kt PyProof.Rows
section
variable {P : Program} {w : World} {K : PySem.W.Frag} {mg : Str → Option Value} {base : Heap}
def spAsc : Sp := fun vs H Q _ => ∃ (a b : Addr) (xs : List Int) (fm : List (List Int)), vs = [.ref a, .ref b] ∧ LI H a xs ∧ Fam H b fm ∧ Valid xs.length fm ∧ ∀ H', Same H H' → Q (.bl (isSorted xs fm)) H'
theorem scAsc : FnScope ["filling", "family", "chain", "place", "following"] ["filling", "family"] (defScope sAsc) := ⟨rfl, rfl, rfl, by decide +kernel, rfl, by decide +kernel, by decide +kernel⟩
theorem ok_asc {f : Addr} {fd : FuncData} (F : Fun K "ascends_along" "ascends_along" sAsc f fd) (N : Nb mg) : FnOk P w K mg base CX0 1 f fd ["filling", "family"] spAsc := by
  refine F.ok scAsc (fun vs H Q E h => ?_) (fun cdv A outer s H vs Q E hr h => ?_)
  · obtain ⟨a, b, xs, fm, rfl, _⟩ := h
    rfl
  · obtain ⟨a, b, xs, fm, rfl, hx, ⟨as, hb, hp⟩, v, k⟩ := h
    refine ⟨_, pss_cons (ps_for PassesOwn.never rfl (pi_list (pv 1)) (pg_name (i := 2) scAsc.nd rfl (.inl rfl))
        (pss_one (ps_for PassesOwn.never rfl (pi_zip (by rfl) N.zip (pa_cons (pv 2) (pa_cons (pe_slice sl_list (pv 2) (po_some pe_int) po_none) pa_nil))) (pg_tup rfl (pgs_cons (pg_name (i := 3) scAsc.nd rfl (.inl rfl)) (pgs_cons (pg_name (i := 4) scAsc.nd rfl (.inl rfl)) pgs_nil)))
          (pss_one (ps_if (pt_cmpR op_gt (pe_ix ix_list (pv 0) (pe_op op_sub (pv 3) pe_int) (fun _ _ => rfl)) (pe_ix ix_list (pv 0) (pe_op op_sub (pv 4) pe_int) (fun _ _ => rfl)) (nomark _)) (pss_one (ps_ret pe_bl)) pss_nil)))))
      (pss_one (ps_ret pe_bl)), ?_⟩
    refine ⟨_, rfl, b, rfl, ⟨_, SqL.of hb⟩, for_it walk_list (fun i σ H' => (∃ x y z, σ = [some (.ref a), some (.ref b), x, y, z]) ∧ Same H H' ∧ (fm.take i).all (ascends xs) = true)
      ⟨⟨_, _, _, rfl⟩, Same.refl H, rfl⟩ (fun i σ H' _ q => SqL.of (q.2.1 _ _ hb)) ?_ ?_⟩
    · rintro i v1 σ H1 H2 hi ⟨⟨x, y, z, rfl⟩, sm, al⟩ ⟨rfl, e2⟩
      obtain ⟨ca, hca, rfl⟩ := map_get e2
      obtain ⟨c, hc, hL⟩ := pget hp hca
      have vc := valid_chain v hc
      have hL1 := hL.same sm
      refine ⟨_, rfl, _, rfl, _, rfl, ca, _, rfl, SqL.of hL1, fun t ht => ?_⟩
      rw [cut_tail]
      have s3 : Same H (upd H2 t (.lst (c.tail.map V.int))) := sm.trans (same_upd ht)
      have hT : LI (upd H2 t (.lst (c.tail.map V.int))) t c.tail := upd_same
      have hL3 := hL.same s3
      refine ⟨ca, t, _, _, rfl, SqL.of hL3, SqL.of hT, for_it (walk_zip rfl) (fun j σ H' => (∃ y z, σ = [some (.ref a), some (.ref b), some (.ref ca), y, z]) ∧ Same H H' ∧ LI H' t c.tail ∧ ((c.zip c.tail).take j).all (fun q => decide (at1 xs q.1 ≤ at1 xs q.2)) = true)
        ⟨⟨_, _, rfl⟩, s3, hT, rfl⟩ (fun j σ H' _ q => ⟨SqL.of (hL.same q.2.1), SqL.of q.2.2.1⟩) ?_ ?_⟩
      · rintro j v2 σ H4 H5 hj ⟨⟨y, z, rfl⟩, s4, hT4, al2⟩ ⟨T, t1, t2, rfl, hTn, rfl, e3, e4⟩
        obtain ⟨p, hpj, rfl⟩ := map_get e3
        obtain ⟨q, hqj, rfl⟩ := map_get e4
        obtain ⟨p1, p2⟩ := vc p (List.mem_of_getElem? hpj)
        obtain ⟨q1, q2⟩ := vc q (tail_mem hqj)
        have s5 : Same H (upd H4 T (.tup [V.int p, V.int q])) := s4.trans (same_upd hTn)
        have hx5 := hx.same s5
        have hpq := pair_at hpj hqj
        refine ⟨T, _, rfl, SqT.of upd_same, rfl, _, _, rfl, _, _, rfl, rfl, ?_⟩
        refine ⟨_, rfl, _, rfl, _, _, rfl, rfl, a, _, _, _, rfl, rfl, SqL.of hx5, atI_of (by omega) (get_map (at1_get p1 p2)), ?_⟩
        refine ⟨_, rfl, _, rfl, _, _, rfl, rfl, a, _, _, _, rfl, rfl, SqL.of hx5, atI_of (by omega) (get_map (at1_get q1 q2)), ?_⟩
        refine ⟨_, _, rfl, rfl, _, rfl, ?_⟩
        refine ite2 (fun bad => ?_) (fun ok => ?_)
        · have e : isSorted xs fm = false := by
            refine all_false (List.mem_of_getElem? hc) (all_false (List.mem_of_getElem? hpq) ?_)
            have := of_decide_eq_true bad
            exact decide_eq_false (by show ¬ (at1 xs p ≤ at1 xs q); omega)
          have kk := k _ s5
          rw [e] at kk
          exact kk
        · refine ⟨⟨_, _, rfl⟩, s5, hT4.same (same_upd hTn), ?_⟩
          rw [all_step hpq, al2, Bool.true_and]
          have : ¬ (at1 xs q < at1 xs p) := fun z => ok (decide_eq_true z)
          exact decide_eq_true (by show at1 xs p ≤ at1 xs q; omega)
      · rintro σ H' ⟨⟨y, z, rfl⟩, s4, hT4, al2⟩
        refine ⟨⟨_, _, _, rfl⟩, s4, ?_⟩
        rw [all_step hc, al, Bool.true_and]
        have e : (c.zip c.tail).take (min (c.map V.int).length (c.tail.map V.int).length) = c.zip c.tail := by
          rw [List.length_map, List.length_map]
          exact List.take_of_length_le (by rw [List.length_zip]; omega)
        rw [e] at al2
        exact al2
    · rintro σ H' ⟨⟨x, y, z, rfl⟩, sm, al⟩
      have el : (as.map V.ref).length = fm.length := by rw [List.length_map]; exact hp.length
      rw [el, List.take_length] at al
      have e : isSorted xs fm = true := al
      have kk := k _ sm
      rw [e] at kk
      exact kk
/-! ### sort_by, is_sorted_by, after_row -/
def spSortBy : Sp := fun vs H Q _ => ∃ (a b : Addr) (xs : List Int) (fm : List (List Int)), vs = [.ref a, .ref b] ∧ LI H a xs ∧ Fam H b fm ∧ Valid xs.length fm ∧ 1 ≤ xs.length ∧ xs.length ≤ 40 ∧
  ∀ H' p, Same H H' → H p = none → LI H' p (sortAlong xs fm) → Q (.ref p) H'
def spIsBy : Sp := fun vs H Q _ => ∃ (a b : Addr) (xs : List Int) (fm : List (List Int)), vs = [.ref a, .ref b] ∧ LI H a xs ∧ Fam H b fm ∧ Valid xs.length fm ∧ 1 ≤ xs.length ∧ xs.length ≤ 40 ∧
  ∀ H', Same H H' → Q (.bl (isSorted xs fm)) H'
def spAfter : Sp := fun vs H Q _ => ∃ (a b : Addr) (xs : List Int) (r : List (List (List Int))), vs = [.ref a, .ref b] ∧ LI H a xs ∧ RowA H b r ∧ (∀ f ∈ r, Valid xs.length f) ∧ 1 ≤ xs.length ∧ xs.length ≤ 40 ∧
  ∀ H' p, Same H H' → H p = none → LI H' p (afterRow xs r) → Q (.ref p) H'
theorem scSortBy : FnScope ["filling", "family"] ["filling", "family"] (defScope sSortBy) := ⟨rfl, rfl, rfl, by decide +kernel, rfl, by decide +kernel, by decide +kernel⟩
theorem scIsBy : FnScope ["filling", "family"] ["filling", "family"] (defScope sIsBy) := ⟨rfl, rfl, rfl, by decide +kernel, rfl, by decide +kernel, by decide +kernel⟩
theorem scAfter : FnScope ["filling", "row", "result", "family"] ["filling", "row"] (defScope sAfterRow) := ⟨rfl, rfl, rfl, by decide +kernel, rfl, by decide +kernel, by decide +kernel⟩
variable {f c1 c2 c3 c4 c5 : Addr} {fd d1 d2 d3 d4 d5 : FuncData}
theorem ok_sortBy (F : Fun K "sort_by" "sort_by" sSortBy f fd) (N : Nb mg) (G1 : FnOk P w K mg base CX0 2 c1 d1 ["filling"] spChFill) (b1 : Binds K d1 ["filling"] []) (m1 : mg "check_filling" = some (.ref c1)) (k1 : PySem.W.keepIn K (.ref c1) = true)
    (G2 : FnOk P w K mg base CX0 4 c2 d2 ["places", "family"] spFault) (b2 : Binds K d2 ["places", "family"] []) (m2 : mg "check_family" = some (.ref c2)) (k2 : PySem.W.keepIn K (.ref c2) = true)
    (G3 : FnOk P w K mg base CX0 1 c3 d3 ["filling", "family"] spAlong) (b3 : Binds K d3 ["filling", "family"] []) (m3 : mg "sorted_along" = some (.ref c3)) (k3 : PySem.W.keepIn K (.ref c3) = true) :
    FnOk P w K mg base CX0 5 f fd ["filling", "family"] spSortBy := by
  refine F.ok scSortBy (fun vs H Q E h => ?_) (fun cdv A outer s H vs Q E hr h => ?_)
  · obtain ⟨a, b, xs, fm, rfl, _⟩ := h
    rfl
  · obtain ⟨a, b, xs, fm, rfl, hx, hf, v, h1, h40, k⟩ := h
    refine ⟨_, pss_cons (ps_expr (pe_call G1 (hr.mono (by decide)) (by rfl) m1 k1 b1 .nil pass0 (pa_cons (pv 0) pa_nil)))
      (pss_cons (ps_expr (pe_call G2 hr (by rfl) m2 k2 b2 .nil pass0 (pa_cons (pe_callB call_len_seq (by rfl) N.len PySem.boot_len (pa_cons (pv 0) pa_nil)) (pa_cons (pv 1) pa_nil))))
      (pss_one (ps_ret (pe_call G3 (hr.mono (by decide)) (by rfl) m3 k3 b3 .nil pass0 (pa_cons (pv 0) (pa_cons (pv 1) pa_nil)))))), ?_⟩
    refine ⟨_, rfl, a, xs, rfl, hx, h1, h40, fun H1 s1 => ?_⟩
    refine ⟨_, rfl, a, _, rfl, .inl (SqL.of (hx.same s1)), _, rfl, ?_⟩
    rw [li_len]
    refine ⟨xs.length, b, fm, rfl, hf.same s1, v, h40, fun H2 s2 => ?_⟩
    have s12 := s1.trans s2
    refine ⟨_, rfl, _, rfl, a, b, xs, fm, rfl, hx.same s12, hf.same s12, v, h40, fun H3 p s3 hp hL => ?_⟩
    exact k H3 p (s12.trans s3) (s12.free hp) hL
theorem ok_isBy (F : Fun K "is_sorted_by" "is_sorted_by" sIsBy f fd) (N : Nb mg) (G1 : FnOk P w K mg base CX0 2 c1 d1 ["filling"] spChFill) (b1 : Binds K d1 ["filling"] []) (m1 : mg "check_filling" = some (.ref c1)) (k1 : PySem.W.keepIn K (.ref c1) = true)
    (G2 : FnOk P w K mg base CX0 4 c2 d2 ["places", "family"] spFault) (b2 : Binds K d2 ["places", "family"] []) (m2 : mg "check_family" = some (.ref c2)) (k2 : PySem.W.keepIn K (.ref c2) = true)
    (G3 : FnOk P w K mg base CX0 1 c3 d3 ["filling", "family"] spAsc) (b3 : Binds K d3 ["filling", "family"] []) (m3 : mg "ascends_along" = some (.ref c3)) (k3 : PySem.W.keepIn K (.ref c3) = true) :
    FnOk P w K mg base CX0 5 f fd ["filling", "family"] spIsBy := by
  refine F.ok scIsBy (fun vs H Q E h => ?_) (fun cdv A outer s H vs Q E hr h => ?_)
  · obtain ⟨a, b, xs, fm, rfl, _⟩ := h
    rfl
  · obtain ⟨a, b, xs, fm, rfl, hx, hf, v, h1, h40, k⟩ := h
    refine ⟨_, pss_cons (ps_expr (pe_call G1 (hr.mono (by decide)) (by rfl) m1 k1 b1 .nil pass0 (pa_cons (pv 0) pa_nil)))
      (pss_cons (ps_expr (pe_call G2 hr (by rfl) m2 k2 b2 .nil pass0 (pa_cons (pe_callB call_len_seq (by rfl) N.len PySem.boot_len (pa_cons (pv 0) pa_nil)) (pa_cons (pv 1) pa_nil))))
      (pss_one (ps_ret (pe_call G3 (hr.mono (by decide)) (by rfl) m3 k3 b3 .nil pass0 (pa_cons (pv 0) (pa_cons (pv 1) pa_nil)))))), ?_⟩
    refine ⟨_, rfl, a, xs, rfl, hx, h1, h40, fun H1 s1 => ?_⟩
    refine ⟨_, rfl, a, _, rfl, .inl (SqL.of (hx.same s1)), _, rfl, ?_⟩
    rw [li_len]
    refine ⟨xs.length, b, fm, rfl, hf.same s1, v, h40, fun H2 s2 => ?_⟩
    have s12 := s1.trans s2
    exact ⟨_, rfl, _, rfl, a, b, xs, fm, rfl, hx.same s12, hf.same s12, v, fun H3 s3 => k H3 (s12.trans s3)⟩
theorem ok_after (F : Fun K "after_row" "after_row" sAfterRow f fd) (N : Nb mg) (G1 : FnOk P w K mg base CX0 2 c1 d1 ["filling"] spChFill) (b1 : Binds K d1 ["filling"] []) (m1 : mg "check_filling" = some (.ref c1)) (k1 : PySem.W.keepIn K (.ref c1) = true)
    (G2 : FnOk P w K mg base CX0 4 c2 d2 ["places", "row"] spChRow) (b2 : Binds K d2 ["places", "row"] []) (m2 : mg "check_row" = some (.ref c2)) (k2 : PySem.W.keepIn K (.ref c2) = true)
    (G3 : FnOk P w K mg base CX0 1 c3 d3 ["filling", "family"] spAlong) (b3 : Binds K d3 ["filling", "family"] []) (m3 : mg "sorted_along" = some (.ref c3)) (k3 : PySem.W.keepIn K (.ref c3) = true) :
    FnOk P w K mg base CX0 5 f fd ["filling", "row"] spAfter := by
  refine F.ok scAfter (fun vs H Q E h => ?_) (fun cdv A outer s H vs Q E hr h => ?_)
  · obtain ⟨a, b, xs, fm, rfl, _⟩ := h
    rfl
  · obtain ⟨a, b, xs, r, rfl, hx, hf, v, h1, h40, k⟩ := h
    refine ⟨_, pss_cons (ps_expr (pe_call G1 (hr.mono (by decide)) (by rfl) m1 k1 b1 .nil pass0 (pa_cons (pv 0) pa_nil)))
      (pss_cons (ps_expr (pe_call G2 hr (by rfl) m2 k2 b2 .nil pass0 (pa_cons (pe_callB call_len_seq (by rfl) N.len PySem.boot_len (pa_cons (pv 0) pa_nil)) (pa_cons (pv 1) pa_nil))))
      (pss_cons (ps_set (i := 2) scAfter.nd rfl (.inl rfl) (pe_callTy call_list_of (by rfl) N.list (by decide +kernel) (pa_cons (pv 0) pa_nil)))
      (pss_cons (ps_for PassesOwn.never rfl (pi_list (pv 1)) (pg_name (i := 3) scAfter.nd rfl (.inl rfl))
        (pss_one (ps_set (i := 2) scAfter.nd rfl (.inl rfl) (pe_call G3 (hr.mono (by decide)) (by rfl) m3 k3 b3 .nil pass0 (pa_cons (pv 2) (pa_cons (pv 3) pa_nil))))))
      (pss_one (ps_ret (pv 2)))))), ?_⟩
    refine ⟨_, rfl, a, xs, rfl, hx, h1, h40, fun H1 s1 => ?_⟩
    refine ⟨_, rfl, a, _, rfl, .inl (SqL.of (hx.same s1)), _, rfl, ?_⟩
    rw [li_len]
    refine ⟨xs.length, b, r, rfl, hf.same s1, v, h40, fun H2 s2 => ?_⟩
    have s12 := s1.trans s2
    refine ⟨_, rfl, a, _, rfl, .inl (SqL.of (hx.same s12)), fun q hq => ?_⟩
    obtain ⟨as, hb, hp⟩ := id hf
    have s3 := s12.trans (same_upd (o := .lst (xs.map V.int)) hq)
    refine ⟨_, rfl, b, rfl, ⟨_, SqL.of (hb.same s3)⟩, for_it walk_list (fun i σ H' => ∃ q' x, σ = [some (.ref a), some (.ref b), some (.ref q'), x] ∧ RAt H H' q' (afterRow xs (r.take i))) ⟨q, _, rfl, s3, s12.free hq, upd_same⟩
      (fun i σ H' _ ⟨_, _, _, q⟩ => SqL.of (hb.same q.1)) ?_ ?_⟩
    · rintro i v1 σ H4 H5 hi ⟨q', x, rfl, s4, hq0, hL⟩ ⟨rfl, e2⟩
      obtain ⟨fa, hfa, rfl⟩ := map_get e2
      obtain ⟨g, hg, hF⟩ := pget hp hfa
      have el : (afterRow xs (r.take i)).length = xs.length := afterRow_len _ _
      refine ⟨_, rfl, _, rfl, q', fa, _, g, rfl, hL, hF.same s4, by rw [el]; exact v g (List.mem_of_getElem? hg), by rw [el]; exact h40, fun H6 p s6 hp6 hL6 => ?_⟩
      refine ⟨p, _, rfl, s4.trans s6, s4.free hp6, ?_⟩
      have := fold_step (g := sortAlong) (r := xs) hg
      unfold afterRow at hL6 ⊢
      rw [this]
      exact hL6
    · rintro σ H' ⟨q', x, rfl, s4, hq0, hL⟩
      have el : (as.map V.ref).length = r.length := by rw [List.length_map]; exact hp.length
      rw [el, List.take_length] at hL
      exact ⟨_, rfl, k _ _ s4 hq0 hL⟩
end
end K01

set_option Elab.async false
set_option linter.all false
set_option maxRecDepth 100000
set_option maxHeartbeats 4000000
namespace K01
open PySem L2 Kt PyProof.Rows
abbrev sLDraws : Stmt := tp 19
abbrev sLNext : Stmt := tp 20
abbrev sLFamily : Stmt := tp 21
abbrev sLLoad : Stmt := tp 22
abbrev sLSorted : Stmt := tp 23
abbrev sLAfter : Stmt := tp 24
abbrev sLIs : Stmt := tp 25
abbrev sLRight : Stmt := tp 26
abbrev sLRowRight : Stmt := tp 27
abbrev sLaw : Stmt := tp 28
section
variable {P : Program} {w : World} {K : PySem.W.Frag} {mg : Str → Option Value} {base : Heap}
theorem scLSorted : FnScope ["load", "chains", "told", "chain", "spot", "value", "one"] ["load", "chains"] (defScope sLSorted) := ⟨rfl, rfl, rfl, by decide +kernel, rfl, by decide +kernel, by decide +kernel⟩
theorem ok_lsorted {f : Addr} {fd : FuncData} (F : Fun K "_law_sorted" "_law_sorted" sLSorted f fd) (N : Nb mg) : FnOk P w K mg base CX0 1 f fd ["load", "chains"] spAlong := by
  refine F.ok scLSorted (fun vs H Q E h => ?_) (fun cdv A outer s H vs Q E hr h => ?_)
  · obtain ⟨a, b, xs, fm, rfl, _⟩ := h
    rfl
  · obtain ⟨a, b, xs, fm, rfl, hx, ⟨as, hb, hp⟩, v, hn, k⟩ := h
    refine ⟨_, pss_cons (ps_set (i := 2) scLSorted.nd rfl (.inl rfl) (pe_callTy call_list_of (by rfl) N.list (by decide +kernel) (pa_cons (pv 0) pa_nil)))
      (pss_cons (ps_for PassesOwn.never rfl (pi_list (pv 1)) (pg_name (i := 3) scLSorted.nd rfl (.inl rfl))
        (pss_one (ps_for PassesOwn.never rfl (pi_zip (by rfl) N.zip (pa_cons (pv 3) (pa_cons (pe_callB cr_sortedI (by rfl) N.sorted (by decide +kernel) (pa_cons
          (pe_lc (own := [("one", 6)]) (g := gName 6) (tt := tYes) rfl scLSorted.nd (pi_list (pv 3)) (blkOk_by (N := ["load", "chains", "told", "chain", "spot", "value", "one"]) (sc := defScope sLSorted) (by decide +kernel))
            (fun _ _ _ _ _ => pg_name (i := 6) scLSorted.nd rfl (Or.inl rfl)) (fun _ _ _ _ _ => pts_nil) (fun _ _ _ _ _ => pe_ix (show IxR _ (rIxL K) from ix_list) (pv 0) (pe_op op_sub (pv 6) pe_int) (fun _ _ => rfl))) pa_nil)) pa_nil)))
          (pg_tup rfl (pgs_cons (pg_name (i := 4) scLSorted.nd rfl (.inl rfl)) (pgs_cons (pg_name (i := 5) scLSorted.nd rfl (.inl rfl)) pgs_nil)))
          (pss_one (ps_asg (pv 5) (pg_sub (pv 2) (pe_op op_sub (pv 4) pe_int) set_list))))))
      (pss_one (ps_ret (pv 2)))), ?_⟩
    refine ⟨_, rfl, a, _, rfl, .inl (SqL.of hx), fun r hr0 => ?_⟩
    refine ⟨_, rfl, b, rfl, ⟨_, SqL.of ((upd_ne (ne_of_none hb hr0)).trans hb)⟩, for_it walk_list (fun i σ H' => (∃ x y z u, σ = [some (.ref a), some (.ref b), some (.ref r), x, y, z, u]) ∧ RAt H H' r ((fm.take i).foldl (along1 xs) xs))
      ⟨⟨_, _, _, _, rfl⟩, same_upd hr0, hr0, upd_same⟩ (fun i σ H' _ q => SqL.of (q.2.1 _ _ hb)) ?_ ?_⟩
    · rintro i v1 σ H1 H2 hi ⟨⟨x, y, z, u, rfl⟩, sm, _, hR⟩ ⟨rfl, e2⟩
      obtain ⟨ca, hca, rfl⟩ := map_get e2
      obtain ⟨c, hc, hL⟩ := pget hp hca
      have vc := valid_chain v hc
      have hL1 := hL.same sm
      have hx1 := hx.same sm
      refine ⟨_, rfl, _, rfl, ca, rfl, ⟨_, SqL.of hL1⟩, fun D hD => lc_it (walk_list (xs := c.map V.int)) (fun j H' => H' = upd H2 D (.lst (((c.take j).map (at1 xs)).map V.int))) rfl (fun j H' _ q => ?_) ?_ ?_⟩
      · rw [q]
        exact SqL.of ((upd_ne (ne_of_none hL1 hD)).trans hL1)
      · rintro j y H4 H5 hj rfl ⟨rfl, ej⟩
        obtain ⟨p, hpj, rfl⟩ := map_get ej
        obtain ⟨p1, p2⟩ := vc p (List.mem_of_getElem? hpj)
        refine ⟨rfl, tyes ?_⟩
        refine ⟨_, rfl, _, rfl, _, _, rfl, rfl, a, _, _, _, rfl, rfl, SqL.of ((upd_ne (ne_of_none hx1 hD)).trans hx1), atI_of (by omega) (get_map (at1_get p1 p2)), _, upd_same, ?_, ?_⟩
        · rw [List.length_map, List.length_map, List.length_take, sizeLine_eq]
          have := chain_len v (List.mem_of_getElem? hc)
          omega
        · rw [upd_upd, List.take_add_one, hpj, Option.toList_some, List.map_append, List.map_append]
          rfl
      · rintro H' rfl
        refine ⟨D, c.map (at1 xs), rfl, SqL.of ?_, fun ns va perm up hva => ?_⟩
        · rw [upd_same, List.length_map, List.take_length]
        · have hns : ns = srt (c.map (at1 xs)) := srt_of perm up
          rw [List.length_map, List.take_length] at hva ⊢
          have nrD : r ≠ D := ne_of_none hR hD
          have hR4 : LI (upd H2 D (.lst ((c.map (at1 xs)).map V.int))) r ((fm.take i).foldl (along1 xs) xs) := (upd_ne nrD).trans hR
          have nrv : r ≠ va := ne_of_none hR4 hva
          generalize hH4 : upd (upd H2 D (.lst ((c.map (at1 xs)).map V.int))) va (.lst (ns.map V.int)) = H4
          have s4 : Same H2 H4 := by rw [← hH4]; exact (same_upd hD).trans (same_upd hva)
          have hv4 : LI H4 va ns := by rw [← hH4]; exact upd_same
          have hL4 := hL1.same s4
          have hR5 : LI H4 r ((fm.take i).foldl (along1 xs) xs) := hR.same s4
          have len : ns.length = c.length := by rw [hns, srt_len, List.length_map]
          refine ⟨ca, va, _, _, rfl, SqL.of hL4, SqL.of hv4, for_it (walk_zip (n := c.length) (by rw [List.length_map, List.length_map]; omega))
            (fun j σ H' => (∃ y z t, σ = [some (.ref a), some (.ref b), some (.ref r), some (.ref ca), y, z, t]) ∧ But r H4 H' ∧ LI H' r (put ((fm.take i).foldl (along1 xs) xs) (c.take j) (ns.take j))) ⟨⟨_, _, _, rfl⟩, But.refl _ _, hR5⟩
            (fun j σ H' _ q => ⟨SqL.of (q.2.1 _ _ (ne_of_none (hL.same (Same.refl H)) ‹H r = none›) hL4), SqL.of (q.2.1 _ _ (Ne.symm nrv) hv4)⟩) ?_ ?_⟩
          · rintro j v2 σ H5 H6 hj ⟨⟨y, z, t, rfl⟩, b5, hR6⟩ ⟨T, t1, t2, rfl, hT, rfl, e3, e4⟩
            obtain ⟨p, hpj, rfl⟩ := map_get e3
            obtain ⟨q, hqj, rfl⟩ := map_get e4
            obtain ⟨p1, p2⟩ := vc p (List.mem_of_getElem? hpj)
            have nrT : r ≠ T := ne_of_none hR6 hT
            refine ⟨T, _, rfl, SqT.of upd_same, rfl, _, _, rfl, _, _, rfl, rfl, ?_⟩
            refine ⟨_, rfl, _, rfl, _, rfl, _, _, rfl, rfl, r, _, _, (p - 1).toNat, rfl, rfl, (upd_ne nrT).trans hR6, ixN_of (by omega) ?_, ?_⟩
            · rw [List.length_map, put_len, fold_along_len]
              omega
            · refine ⟨⟨_, _, _, rfl⟩, fun bb o hb' e => ?_, ?_⟩
              · rw [upd_ne hb']
                exact (same_upd hT) _ _ (b5 bb o hb' e)
              · rw [put_step hpj hqj]
                exact li_set
          · rintro σ H' ⟨⟨y, z, t, rfl⟩, b5, hR6⟩
            rw [List.take_length, ← len, List.take_length] at hR6
            refine ⟨⟨_, _, _, _, rfl⟩, same_but (sm.trans s4) ‹H r = none› b5, ‹H r = none›, ?_⟩
            rw [fold_step hc]
            show LI H' r (put _ c (srt _))
            rw [← hns]
            exact hR6
    · rintro σ H' ⟨⟨x, y, z, u, rfl⟩, sm, hr1, hR⟩
      have el : (as.map V.ref).length = fm.length := by rw [List.length_map]; exact hp.length
      rw [el, List.take_length] at hR
      exact ⟨_, rfl, k _ _ sm hr1 hR⟩
def spLAfter : Sp := fun vs H Q _ => ∃ (a b : Addr) (xs : List Int) (r : List (List (List Int))), vs = [.ref a, .ref b] ∧ LI H a xs ∧ RowA H b r ∧ (∀ f ∈ r, Valid xs.length f) ∧ xs.length ≤ 40 ∧
  ∀ H' p, Same H H' → H p = none → LI H' p (afterRow xs r) → Q (.ref p) H'
theorem scLAfter : FnScope ["load", "line", "told", "chains"] ["load", "line"] (defScope sLAfter) := ⟨rfl, rfl, rfl, by decide +kernel, rfl, by decide +kernel, by decide +kernel⟩
theorem ok_lafter {f c3 : Addr} {fd d3 : FuncData} (F : Fun K "_law_after" "_law_after" sLAfter f fd) (N : Nb mg)
    (G3 : FnOk P w K mg base CX0 1 c3 d3 ["load", "chains"] spAlong) (b3 : Binds K d3 ["load", "chains"] []) (m3 : mg "_law_sorted" = some (.ref c3)) (k3 : PySem.W.keepIn K (.ref c3) = true) :
    FnOk P w K mg base CX0 2 f fd ["load", "line"] spLAfter := by
  refine F.ok scLAfter (fun vs H Q E h => ?_) (fun cdv A outer s H vs Q E hr h => ?_)
  · obtain ⟨a, b, xs, fm, rfl, _⟩ := h
    rfl
  · obtain ⟨a, b, xs, r, rfl, hx, hf, v, h40, k⟩ := h
    refine ⟨_, pss_cons (ps_set (i := 2) scLAfter.nd rfl (.inl rfl) (pe_callTy call_list_of (by rfl) N.list (by decide +kernel) (pa_cons (pv 0) pa_nil)))
      (pss_cons (ps_for PassesOwn.never rfl (pi_list (pv 1)) (pg_name (i := 3) scLAfter.nd rfl (.inl rfl))
        (pss_one (ps_set (i := 2) scLAfter.nd rfl (.inl rfl) (pe_call G3 hr (by rfl) m3 k3 b3 .nil pass0 (pa_cons (pv 2) (pa_cons (pv 3) pa_nil))))))
      (pss_one (ps_ret (pv 2)))), ?_⟩
    refine ⟨_, rfl, a, _, rfl, .inl (SqL.of hx), fun q hq => ?_⟩
    obtain ⟨as, hb, hp⟩ := id hf
    have s3 := same_upd (o := .lst (xs.map V.int)) hq
    refine ⟨_, rfl, b, rfl, ⟨_, SqL.of (hb.same s3)⟩, for_it walk_list (fun i σ H' => ∃ q' x, σ = [some (.ref a), some (.ref b), some (.ref q'), x] ∧ RAt H H' q' (afterRow xs (r.take i))) ⟨q, _, rfl, s3, hq, upd_same⟩
      (fun i σ H' _ ⟨_, _, _, q⟩ => SqL.of (hb.same q.1)) ?_ ?_⟩
    · rintro i v1 σ H4 H5 hi ⟨q', x, rfl, s4, hq0, hL⟩ ⟨rfl, e2⟩
      obtain ⟨fa, hfa, rfl⟩ := map_get e2
      obtain ⟨g, hg, hF⟩ := pget hp hfa
      have el : (afterRow xs (r.take i)).length = xs.length := afterRow_len _ _
      refine ⟨_, rfl, _, rfl, q', fa, _, g, rfl, hL, hF.same s4, by rw [el]; exact v g (List.mem_of_getElem? hg), by rw [el]; exact h40, fun H6 p s6 hp6 hL6 => ?_⟩
      refine ⟨p, _, rfl, s4.trans s6, s4.free hp6, ?_⟩
      have := fold_step (g := sortAlong) (r := xs) hg
      unfold afterRow at hL6 ⊢
      rw [this]
      exact hL6
    · rintro σ H' ⟨q', x, rfl, s4, hq0, hL⟩
      have el : (as.map V.ref).length = r.length := by rw [List.length_map]; exact hp.length
      rw [el, List.take_length] at hL
      exact ⟨_, rfl, k _ _ s4 hq0 hL⟩
theorem scLIs : FnScope ["load", "chains", "chain", "one", "two"] ["load", "chains"] (defScope sLIs) := ⟨rfl, rfl, rfl, by decide +kernel, rfl, by decide +kernel, by decide +kernel⟩
theorem ok_lis {f : Addr} {fd : FuncData} (F : Fun K "_law_is" "_law_is" sLIs f fd) (N : Nb mg) : FnOk P w K mg base CX0 1 f fd ["load", "chains"] spAsc := by
  refine F.ok scLIs (fun vs H Q E h => ?_) (fun cdv A outer s H vs Q E hr h => ?_)
  · obtain ⟨a, b, xs, fm, rfl, _⟩ := h
    rfl
  · obtain ⟨a, b, xs, fm, rfl, hx, ⟨as, hb, hp⟩, v, k⟩ := h
    refine ⟨_, pss_cons (ps_for PassesOwn.never rfl (pi_list (pv 1)) (pg_name (i := 2) scLIs.nd rfl (.inl rfl))
        (pss_one (ps_for PassesOwn.never rfl (pi_zip (by rfl) N.zip (pa_cons (pv 2) (pa_cons (pe_slice sl_list (pv 2) (po_some pe_int) po_none) pa_nil))) (pg_tup rfl (pgs_cons (pg_name (i := 3) scLIs.nd rfl (.inl rfl)) (pgs_cons (pg_name (i := 4) scLIs.nd rfl (.inl rfl)) pgs_nil)))
          (pss_one (ps_if (pt_cmpR op_gt (pe_ix ix_list (pv 0) (pe_op op_sub (pv 3) pe_int) (fun _ _ => rfl)) (pe_ix ix_list (pv 0) (pe_op op_sub (pv 4) pe_int) (fun _ _ => rfl)) (nomark _)) (pss_one (ps_ret pe_bl)) pss_nil)))))
      (pss_one (ps_ret pe_bl)), ?_⟩
    refine ⟨_, rfl, b, rfl, ⟨_, SqL.of hb⟩, for_it walk_list (fun i σ H' => (∃ x y z, σ = [some (.ref a), some (.ref b), x, y, z]) ∧ Same H H' ∧ (fm.take i).all (ascends xs) = true)
      ⟨⟨_, _, _, rfl⟩, Same.refl H, rfl⟩ (fun i σ H' _ q => SqL.of (q.2.1 _ _ hb)) ?_ ?_⟩
    · rintro i v1 σ H1 H2 hi ⟨⟨x, y, z, rfl⟩, sm, al⟩ ⟨rfl, e2⟩
      obtain ⟨ca, hca, rfl⟩ := map_get e2
      obtain ⟨c, hc, hL⟩ := pget hp hca
      have vc := valid_chain v hc
      have hL1 := hL.same sm
      refine ⟨_, rfl, _, rfl, _, rfl, ca, _, rfl, SqL.of hL1, fun t ht => ?_⟩
      rw [cut_tail]
      have s3 : Same H (upd H2 t (.lst (c.tail.map V.int))) := sm.trans (same_upd ht)
      have hT : LI (upd H2 t (.lst (c.tail.map V.int))) t c.tail := upd_same
      have hL3 := hL.same s3
      refine ⟨ca, t, _, _, rfl, SqL.of hL3, SqL.of hT, for_it (walk_zip rfl) (fun j σ H' => (∃ y z, σ = [some (.ref a), some (.ref b), some (.ref ca), y, z]) ∧ Same H H' ∧ LI H' t c.tail ∧ ((c.zip c.tail).take j).all (fun q => decide (at1 xs q.1 ≤ at1 xs q.2)) = true)
        ⟨⟨_, _, rfl⟩, s3, hT, rfl⟩ (fun j σ H' _ q => ⟨SqL.of (hL.same q.2.1), SqL.of q.2.2.1⟩) ?_ ?_⟩
      · rintro j v2 σ H4 H5 hj ⟨⟨y, z, rfl⟩, s4, hT4, al2⟩ ⟨T, t1, t2, rfl, hTn, rfl, e3, e4⟩
        obtain ⟨p, hpj, rfl⟩ := map_get e3
        obtain ⟨q, hqj, rfl⟩ := map_get e4
        obtain ⟨p1, p2⟩ := vc p (List.mem_of_getElem? hpj)
        obtain ⟨q1, q2⟩ := vc q (tail_mem hqj)
        have s5 : Same H (upd H4 T (.tup [V.int p, V.int q])) := s4.trans (same_upd hTn)
        have hx5 := hx.same s5
        have hpq := pair_at hpj hqj
        refine ⟨T, _, rfl, SqT.of upd_same, rfl, _, _, rfl, _, _, rfl, rfl, ?_⟩
        refine ⟨_, rfl, _, rfl, _, _, rfl, rfl, a, _, _, _, rfl, rfl, SqL.of hx5, atI_of (by omega) (get_map (at1_get p1 p2)), ?_⟩
        refine ⟨_, rfl, _, rfl, _, _, rfl, rfl, a, _, _, _, rfl, rfl, SqL.of hx5, atI_of (by omega) (get_map (at1_get q1 q2)), ?_⟩
        refine ⟨_, _, rfl, rfl, _, rfl, ?_⟩
        refine ite2 (fun bad => ?_) (fun ok => ?_)
        · have e : isSorted xs fm = false := by
            refine all_false (List.mem_of_getElem? hc) (all_false (List.mem_of_getElem? hpq) ?_)
            have := of_decide_eq_true bad
            exact decide_eq_false (by show ¬ (at1 xs p ≤ at1 xs q); omega)
          have kk := k _ s5
          rw [e] at kk
          exact kk
        · refine ⟨⟨_, _, rfl⟩, s5, hT4.same (same_upd hTn), ?_⟩
          rw [all_step hpq, al2, Bool.true_and]
          have : ¬ (at1 xs q < at1 xs p) := fun z => ok (decide_eq_true z)
          exact decide_eq_true (by show at1 xs p ≤ at1 xs q; omega)
      · rintro σ H' ⟨⟨y, z, rfl⟩, s4, hT4, al2⟩
        refine ⟨⟨_, _, _, rfl⟩, s4, ?_⟩
        rw [all_step hc, al, Bool.true_and]
        have e : (c.zip c.tail).take (min (c.map V.int).length (c.tail.map V.int).length) = c.zip c.tail := by
          rw [List.length_map, List.length_map]
          exact List.take_of_length_le (by rw [List.length_zip]; omega)
        rw [e] at al2
        exact al2
    · rintro σ H' ⟨⟨x, y, z, rfl⟩, sm, al⟩
      have el : (as.map V.ref).length = fm.length := by rw [List.length_map]; exact hp.length
      rw [el, List.take_length] at al
      have e : isSorted xs fm = true := al
      have kk := k _ sm
      rw [e] at kk
      exact kk
/-! ### the draws -/
theorem bigpos : (0 : Int) < (((10 : Int) ^ (60 : Int).toNat) ^ (60 : Int).toNat) ^ (4 : Int).toNat := Int.pow_pos (Int.pow_pos (Int.pow_pos (by decide)))
def spLDraws : Sp := fun vs H Q _ => ∃ c : Int, vs = [.int c] ∧ ∀ p n (b : Bool), H p = none → Q (.ref p) (upd H p (DrO n 0 b))
theorem scLDraws : FnScope ["cell"] ["cell"] (defScope sLDraws) := ⟨rfl, rfl, rfl, by decide +kernel, rfl, by decide +kernel, by decide +kernel⟩
theorem ok_ldraws {f : Addr} {fd : FuncData} (F : Fun K "_law_draws" "_law_draws" sLDraws f fd) (N : Nb mg) : FnOk P w K mg base CX0 1 f fd ["cell"] spLDraws := by
  refine F.ok scLDraws (fun vs H Q E h => ?_) (fun cdv A outer s H vs Q E hr h => ?_)
  · obtain ⟨c, rfl, _⟩ := h
    rfl
  · obtain ⟨c, rfl, k⟩ := h
    refine ⟨_, pss_one (ps_ret (pe_lst (pa_cons (pe_op op_mod (pe_callTy call_int1 (by rfl) N.int (by decide +kernel) (pa_cons (pv 0) pa_nil)) (pe_op op_powW (pe_op op_powW (pe_op op_pow pe_int pe_int) pe_int) pe_int))
      (pa_cons pe_int (pa_cons (pe_cmpR op_ge (pv 0) (pe_op op_pow pe_int pe_int) (nomark _)) pa_nil))))), ?_⟩
    refine ⟨_, rfl, .inl ⟨_, rfl, ?_⟩⟩
    refine ⟨_, _, rfl, rfl, ⟨by decide, by decide, by decide⟩, ?_⟩
    refine ⟨_, _, rfl, rfl, ⟨by decide, by decide +kernel⟩, ?_⟩
    refine ⟨_, _, rfl, rfl, ⟨by decide, by decide +kernel⟩, ?_⟩
    refine ⟨_, _, rfl, rfl, bigpos, ?_⟩
    refine ⟨_, rfl, _, _, rfl, rfl, ⟨by decide, by decide, by decide⟩, _, _, rfl, rfl, ?_⟩
    exact ⟨by show 3 ≤ sizeLine; decide, fun p hp => k p _ _ hp⟩
def spLNext : Sp := fun vs H Q _ => ∃ (d : Addr) (n k : Int) (c : Bool), vs = [.ref d] ∧ H d = some (DrO n k c) ∧ 0 ≤ k ∧ k < 1000000000 ∧ ∀ r n', 0 ≤ r → Q (.int r) (upd H d (DrO n' (k + 1) c))
theorem scLNext : FnScope ["draws", "k", "drawn"] ["draws"] (defScope sLNext) := ⟨rfl, rfl, rfl, by decide +kernel, rfl, by decide +kernel, by decide +kernel⟩
theorem at3_0 {x y z : V} : atI [x, y, z] 0 = some x := rfl
theorem at3_1 {x y z : V} : atI [x, y, z] 1 = some y := rfl
theorem at3_2 {x y z : V} : atI [x, y, z] 2 = some z := rfl
theorem ok_lnext {f : Addr} {fd : FuncData} (F : Fun K "_law_next" "_law_next" sLNext f fd) (N : Nb mg) : FnOk P w K mg base CX0 1 f fd ["draws"] spLNext := by
  refine F.ok scLNext (fun vs H Q E h => ?_) (fun cdv A outer s H vs Q E hr h => ?_)
  · obtain ⟨d, n, k, c, rfl, _⟩ := h
    rfl
  · obtain ⟨d, n, k, c, rfl, hd, k0, k1, q⟩ := h
    refine ⟨_, pss_cons (ps_asg (pe_op op_add (pe_ix ix_list (pv 0) pe_int (fun _ _ => rfl)) pe_int) (pg_sub (pv 0) pe_int set_list))
      (pss_cons (ps_set (i := 1) scLNext.nd rfl (.inl rfl) (pe_ix ix_list (pv 0) pe_int (fun _ _ => rfl)))
      (pss_cons (ps_if (pt_val (pe_ix ix_list (pv 0) pe_int (fun _ _ => rfl)))
        (pss_cons (ps_set (i := 2) scLNext.nd rfl (.inl rfl) (pe_op op_mod (pe_callTy call_int1 (by rfl) N.int (by decide +kernel) (pa_cons (pe_ix ix_list (pv 0) pe_int (fun _ _ => rfl)) pa_nil)) (pe_op op_pow pe_int pe_int)))
        (pss_cons (ps_asg (pe_op op_fdiv (pe_ix ix_list (pv 0) pe_int (fun _ _ => rfl)) (pe_op op_pow pe_int pe_int)) (pg_sub (pv 0) pe_int set_list))
        (pss_one (ps_ret (pv 2))))) pss_nil)
      (pss_cons (ps_set (i := 2) scLNext.nd rfl (.inl rfl) (pe_op op_mod (pe_callTy call_int1 (by rfl) N.int (by decide +kernel) (pa_cons
          (pe_op op_mul (pe_op op_add (pe_op op_add (pe_op op_mod (pe_callTy call_int1 (by rfl) N.int (by decide +kernel) (pa_cons (pe_ix ix_list (pv 0) pe_int (fun _ _ => rfl)) pa_nil)) pe_int)
            (pe_op op_mul (pe_op op_mul (pv 1) (pv 1)) pe_int)) (pv 1)) pe_int) pa_nil)) pe_int))
      (pss_cons (ps_set (i := 2) scLNext.nd rfl (.inl rfl) (pe_op op_mod (pe_callTy call_int1 (by rfl) N.int (by decide +kernel) (pa_cons (pe_op op_mul (pv 2) (pv 2)) pa_nil)) pe_int))
      (pss_one (ps_ret (pe_op op_fdiv (pe_op op_mod (pe_callTy call_int1 (by rfl) N.int (by decide +kernel) (pa_cons (pe_op op_mul (pv 2) (pe_op op_add (pv 2) pe_int)) pa_nil)) pe_int) pe_int))))))), ?_⟩
    refine ⟨_, rfl, d, _, _, _, rfl, rfl, SqL.of hd, at3_1, _, _, rfl, rfl, ?_⟩
    refine ⟨_, rfl, d, _, _, 1, rfl, rfl, hd, rfl, ?_⟩
    have hd1 : upd H d (DrO n (k + 1) c) d = some (DrO n (k + 1) c) := upd_same
    refine ⟨_, rfl, d, _, _, _, rfl, rfl, SqL.of hd1, at3_1, ?_⟩
    refine ⟨_, rfl, d, _, _, _, rfl, rfl, SqL.of hd1, at3_2, _, rfl, ?_⟩
    refine ite2 (fun _ => ?_) (fun _ => ?_)
    · refine ⟨_, rfl, d, _, _, _, rfl, rfl, SqL.of hd1, at3_0, .inl ⟨_, rfl, ?_⟩⟩
      refine ⟨_, _, rfl, rfl, ⟨by decide, by decide, by decide⟩, _, _, rfl, rfl, (by show (0 : Int) < (10 : Int) ^ (6 : Int).toNat; decide), ?_⟩
      refine ⟨_, rfl, d, _, _, _, rfl, rfl, SqL.of hd1, at3_0, ?_⟩
      refine ⟨_, _, rfl, rfl, ⟨by decide, by decide, by decide⟩, _, _, rfl, rfl, ⟨by decide, by decide⟩, ?_⟩
      refine ⟨_, rfl, d, _, _, 0, rfl, rfl, hd1, rfl, ?_⟩
      refine ⟨_, rfl, ?_⟩
      have fin := q (n % 1000000) (n / 1000000) (by omega)
      have e : upd (upd H d (DrO n (k + 1) c)) d (.lst (([V.int n, V.int (k + 1), V.bl c] : List V).set 0 (V.int (n / 1000000)))) = upd H d (DrO (n / 1000000) (k + 1) c) := upd_upd
      rw [← e] at fin
      exact fin
    · have kk : -(2 ^ 64) < k + 1 ∧ k + 1 < 2 ^ 64 := ⟨by omega, by omega⟩
      refine ⟨_, rfl, d, _, _, _, rfl, rfl, SqL.of hd1, at3_0, .inl ⟨_, rfl, ?_⟩⟩
      refine ⟨_, _, rfl, rfl, (by show (0 : Int) < 1000003; decide), ?_⟩
      refine ⟨_, rfl, _, rfl, _, _, rfl, rfl, .inl kk, ?_⟩
      refine ⟨_, _, rfl, rfl, .inr ⟨by decide, by decide⟩, ?_⟩
      refine ⟨_, _, rfl, rfl, ?_⟩
      refine ⟨_, rfl, _, _, rfl, rfl, ?_⟩
      refine ⟨_, _, rfl, rfl, .inr ⟨by decide, by decide⟩, .inl ⟨_, rfl, ?_⟩⟩
      refine ⟨_, _, rfl, rfl, (by show (0 : Int) < 2147483629; decide), ?_⟩
      have bnd : ∀ z : Int, 0 ≤ z % 2147483629 ∧ z % 2147483629 < 2147483629 := fun z => by omega
      have bnd2 : ∀ z : Int, 0 ≤ z % 2147483587 ∧ z % 2147483587 < 2147483587 := fun z => by omega
      have low : ∀ z : Int, 0 ≤ z → z < 2147483629 → -(2 ^ 64) < z ∧ z < 2 ^ 64 := fun z h1 h2 => ⟨by omega, by omega⟩
      refine ⟨_, rfl, _, rfl, _, _, rfl, rfl, .inl (low _ (bnd _).1 (bnd _).2), .inl ⟨_, rfl, ?_⟩⟩
      refine ⟨_, _, rfl, rfl, (by show (0 : Int) < 2147483587; decide), ?_⟩
      refine ⟨_, rfl, _, rfl, _, _, rfl, rfl, ?_⟩
      refine ⟨_, _, rfl, rfl, .inl (low _ (bnd2 _).1 (Int.lt_trans (bnd2 _).2 (by decide))), .inl ⟨_, rfl, ?_⟩⟩
      refine ⟨_, _, rfl, rfl, (by show (0 : Int) < 2147483579; decide), ?_⟩
      refine ⟨_, _, rfl, rfl, ⟨by decide, by decide⟩, ?_⟩
      exact q _ _ (by omega)
end
end K01

set_option Elab.async false
set_option linter.all false
set_option maxRecDepth 100000
set_option maxHeartbeats 4000000
namespace K01
open PySem L2 Kt PyProof.Rows
section
variable {P : Program} {w : World} {K : PySem.W.Frag} {mg : Str → Option Value} {base : Heap}
def spLLoad : Sp := fun vs H Q _ => ∃ (d : Addr) (n : Nat) (m k : Int) (c : Bool), vs = [.ref d, .int n] ∧ 1 ≤ n ∧ n ≤ 40 ∧ H d = some (DrO m k c) ∧ 0 ≤ k ∧ k < 900000000 ∧
  ∀ H' p xs, DrAt H H' d c k (k + 200) → H p = none → LI H' p xs → xs.length = n → (∀ x ∈ xs, Small x) → Q (.ref p) H'
theorem scLLoad : FnScope ["draws", "many", "kind", "scale", "left", "told", "turn"] ["draws", "many"] (defScope sLLoad) := ⟨rfl, rfl, rfl, by decide +kernel, rfl, by decide +kernel, by decide +kernel⟩
theorem ok_lload {f g : Addr} {fd gd : FuncData} (F : Fun K "_law_load" "_law_load" sLLoad f fd) (N : Nb mg) (G : FnOk P w K mg base CX0 1 g gd ["draws"] spLNext) (b1 : Binds K gd ["draws"] []) (m1 : mg "_law_next" = some (.ref g)) (k1 : PySem.W.keepIn K (.ref g) = true) :
    FnOk P w K mg base CX0 2 f fd ["draws", "many"] spLLoad := by
  refine F.ok scLLoad (fun vs H Q E h => ?_) (fun cdv A outer s H vs Q E hr h => ?_)
  · obtain ⟨d, n, m, k, c, rfl, _⟩ := h
    rfl
  · obtain ⟨d, n, m, k, c, rfl, n1, n40, hd, k0, kb, q⟩ := h
    have I := fun (X : Cx) => @call_int1 X
    refine ⟨_, pss_cons (ps_set (i := 2) scLLoad.nd rfl (.inr rfl) (pe_op op_mod (pe_callTy call_int1 (by rfl) N.int (by decide +kernel) (pa_cons (pe_call G hr (by rfl) m1 k1 b1 .nil pass0 (pa_cons (pv 0) pa_nil)) pa_nil)) pe_int))
      (pss_cons (ps_if (pt_cmpR op_gt (pv 2) pe_int (nomark _))
        (pss_cons (ps_set (i := 3) scLLoad.nd rfl (.inr rfl) (pe_ix ix_list (pe_lst (pa_cons pe_int (pa_cons pe_int (pa_cons (pe_op op_pow pe_int pe_int) pa_nil)))) (pe_op op_mod (pe_callTy call_int1 (by rfl) N.int (by decide +kernel) (pa_cons (pe_call G hr (by rfl) m1 k1 b1 .nil pass0 (pa_cons (pv 0) pa_nil)) pa_nil)) pe_int) (fun _ _ => rfl)))
        (pss_one (ps_ret (pe_lc (own := [("turn", 6)]) (g := gName 6) (tt := tYes) rfl scLLoad.nd (pi_range1 (by rfl) N.range (pa_cons (pv 1) pa_nil)) (blkOk_by (N := ["draws", "many", "kind", "scale", "left", "told", "turn"]) (sc := defScope sLLoad) (by decide +kernel))
          (fun _ _ _ _ _ => pg_name (i := 6) scLLoad.nd rfl (Or.inl rfl)) (fun _ _ _ _ _ => pts_nil)
          (fun _ _ _ _ _ => pe_op op_mul (pe_op op_sub (pe_op op_mod (pe_callTy (show CallR _ (.type "int") (fun xs H Q => (∃ i, xs = [.int i] ∧ Q (.int i) H) ∨ ∃ k, xs = [.bl k] ∧ Q (.int (if k then 1 else 0)) H) from call_int1) (by rfl) N.int (by decide +kernel) (pa_cons (pe_call G hr (by rfl) m1 k1 b1 .nil pass0 (pa_cons (pv 0) pa_nil)) pa_nil))
              (pe_ix (show IxR _ (rIxL K) from ix_list) (pe_lst (pa_cons pe_int (pa_cons pe_int (pa_cons (pe_op op_pow pe_int pe_int) pa_nil)))) (pe_op op_sub (pv 2) pe_int) (fun _ _ => rfl))) (pv 2)) (pv 3)))))) pss_nil)
      (pss_cons (ps_set (i := 4) scLLoad.nd rfl (.inl rfl) (pe_listRg rfl (by rfl) N.list (prg_2 (by rfl) N.range pe_int (pe_op op_add (pv 1) pe_int))))
      (pss_cons (ps_set (i := 5) scLLoad.nd rfl (.inl rfl) (pe_lst pa_nil))
      (pss_cons (ps_while PassesOwn.never (pt_cmpR (op_neD hr.units) (pv 4) (pe_lst pa_nil) (nomark _))
        (pss_one (ps_expr (pe_bm PySem.F.plainAttrs_list PySem.F.slot_list_append PySem.F.type_list_append mt_append (pv 5) (pa_cons
          (pe_bm PySem.F.plainAttrs_list PySem.F.slot_list_pop PySem.F.type_list_pop mt_popAt (pv 4) (pa_cons (pe_op op_mod (pe_callTy call_int1 (by rfl) N.int (by decide +kernel) (pa_cons (pe_call G hr (by rfl) m1 k1 b1 .nil pass0 (pa_cons (pv 0) pa_nil)) pa_nil))
            (pe_callB call_len_seq (by rfl) N.len PySem.boot_len (pa_cons (pv 4) pa_nil))) pa_nil)) pa_nil)))))
      (pss_one (ps_ret (pv 5))))))), ?_⟩
    refine ⟨_, rfl, d, m, k, c, rfl, hd, k0, by omega, fun r1 m1' hr1 => .inl ⟨_, rfl, ?_⟩⟩
    refine ⟨_, _, rfl, rfl, (by show (0 : Int) < 4; decide), ?_⟩
    have B1 : But d H (upd H d (DrO m1' (k + 1) c)) := But.upd
    have e1 : upd H d (DrO m1' (k + 1) c) d = some (DrO m1' (k + 1) c) := upd_same
    generalize upd H d (DrO m1' (k + 1) c) = H1 at B1 e1 ⊢
    have kd0 : 0 ≤ r1 % 4 := by omega
    have kd4 : r1 % 4 < 4 := by omega
    refine ⟨_, rfl, _, _, rfl, rfl, _, rfl, ?_⟩
    refine ite2 (fun pos => ?_) (fun npos => ?_)
    · have kd1 : 1 ≤ (r1 % 4) := by
        have := of_decide_eq_true pos
        omega
      refine ⟨_, _, rfl, rfl, ⟨by decide, by decide, by decide⟩, by show 3 ≤ sizeLine; decide, fun t ht => ?_⟩
      have B2 := B1.new (o := .lst [V.int 1, V.int 1, V.int ((10 : Int) ^ (53 : Int).toNat)]) ht
      have e2 := (upd_ne (o := .lst [V.int 1, V.int 1, V.int ((10 : Int) ^ (53 : Int).toNat)]) (ne_of_none e1 ht)).trans e1
      have t2 : upd H1 t (.lst [V.int 1, V.int 1, V.int ((10 : Int) ^ (53 : Int).toNat)]) t = some (.lst [V.int 1, V.int 1, V.int ((10 : Int) ^ (53 : Int).toNat)]) := upd_same
      have ntd : t ≠ d := (ne_of_none e1 ht).symm
      generalize upd H1 t (.lst [V.int 1, V.int 1, V.int ((10 : Int) ^ (53 : Int).toNat)]) = H2 at B2 e2 t2
      refine ⟨_, rfl, d, m1', k + 1, c, rfl, e2, by omega, by omega, fun r2 m2 hr2 => .inl ⟨_, rfl, ?_⟩⟩
      refine ⟨_, _, rfl, rfl, (by show (0 : Int) < 3; decide), ?_⟩
      have B3 : But d H (upd H2 d (DrO m2 (k + 1 + 1) c)) := B2.draw
      have e3 : upd H2 d (DrO m2 (k + 1 + 1) c) d = some (DrO m2 (k + 1 + 1) c) := upd_same
      have t3 := (upd_ne (o := DrO m2 (k + 1 + 1) c) ntd).trans t2
      generalize upd H2 d (DrO m2 (k + 1 + 1) c) = H3 at B3 e3 t3
      obtain ⟨sc, hsc, hsc2⟩ := tab3 (x := 1) (y := 1) (z := (10 : Int) ^ (53 : Int).toNat) (i := r2 % 3) (by omega) (by omega)
      have hsc3 : sc = 1 ∨ sc = (10 : Int) ^ (53 : Int).toNat := by
        rcases hsc2 with h | h | h
        · exact .inl h
        · exact .inl h
        · exact .inr h
      refine ⟨_, _, _, _, rfl, rfl, SqL.of t3, hsc, ?_⟩
      refine ⟨_, rfl, n, rfl, by omega, by omega, fun D hD => lc_it (walk_range (lo := 0) (n := (n : Int).toNat)) (fun i H' => ∃ xs, LI H' D xs ∧ xs.length = i ∧ (∀ x ∈ xs, Small x) ∧ DrAt H H' d c k (k + 2 + i)) ?_ (fun _ _ _ _ => True.intro) ?_ ?_⟩
      · have ndD : d ≠ D := ne_of_none e3 hD
        exact ⟨[], upd_same, rfl, fun x hx => (by cases hx), B3.new hD, m2, k + 1 + 1, (upd_ne ndD).trans e3, by omega, by omega⟩
      · rintro i v H4 H5 hi ⟨xs, hL, hlen, hsm, B4, m4, k4, e4, l4, u4⟩ ⟨rfl, rfl⟩
        have hi40 : i < 40 := by omega
        have nDd : D ≠ d := (ne_of_none e3 hD).symm
        refine ⟨rfl, tyes ?_⟩
        refine ⟨_, rfl, d, m4, k4, c, rfl, e4, by omega, by omega, fun r3 m5 hr3 => .inl ⟨_, rfl, ?_⟩⟩
        refine ⟨_, _, rfl, rfl, ⟨by decide, by decide, by decide⟩, by show 3 ≤ sizeLine; decide, fun u hu => ?_⟩
        have B5 : But d H (upd H5 d (DrO m5 (k4 + 1) c)) := B4.draw
        have hD5 := (upd_ne (o := DrO m5 (k4 + 1) c) nDd).trans hL
        have e5 : upd H5 d (DrO m5 (k4 + 1) c) d = some (DrO m5 (k4 + 1) c) := upd_same
        generalize upd H5 d (DrO m5 (k4 + 1) c) = H6 at B5 hD5 e5 hu
        have B6 := B5.new (o := .lst [V.int 2, V.int 4, V.int ((10 : Int) ^ (6 : Int).toNat)]) hu
        have hD6 := (upd_ne (o := .lst [V.int 2, V.int 4, V.int ((10 : Int) ^ (6 : Int).toNat)]) (ne_of_none hD5 hu)).trans hD5
        have e6 := (upd_ne (o := .lst [V.int 2, V.int 4, V.int ((10 : Int) ^ (6 : Int).toNat)]) (ne_of_none e5 hu)).trans e5
        have u6 : upd H6 u (.lst [V.int 2, V.int 4, V.int ((10 : Int) ^ (6 : Int).toNat)]) u = some (.lst [V.int 2, V.int 4, V.int ((10 : Int) ^ (6 : Int).toNat)]) := upd_same
        generalize upd H6 u (.lst [V.int 2, V.int 4, V.int ((10 : Int) ^ (6 : Int).toNat)]) = H7 at B6 hD6 e6 u6
        obtain ⟨md, hmd, hmd2⟩ := tab3 (x := 2) (y := 4) (z := (10 : Int) ^ (6 : Int).toNat) (i := (r1 % 4) - 1) (by omega) (by omega)
        have e10 : (10 : Int) ^ (6 : Int).toNat = 1000000 := by decide
        rw [e10] at hmd2
        have md0 : 0 < md := by omega
        have md1 : md ≤ 1000000 := by omega
        refine ⟨_, rfl, _, _, rfl, rfl, _, _, _, _, rfl, rfl, SqL.of u6, hmd, ?_⟩
        refine ⟨_, _, rfl, rfl, md0, ?_⟩
        have b1 : 0 ≤ r3 % md := Int.emod_nonneg _ (by omega)
        have b2 : r3 % md < md := Int.emod_lt_of_pos _ md0
        refine ⟨_, rfl, _, _, rfl, rfl, ?_⟩
        refine ⟨_, rfl, _, _, rfl, rfl, .inl ⟨by omega, by omega⟩, ?_⟩
        refine ⟨_, hD6, by rw [List.length_map, hlen, sizeLine_eq]; omega, ?_⟩
        refine ⟨xs ++ [(r3 % md - (r1 % 4)) * sc], ?_, by rw [List.length_append, hlen]; rfl, fun x hx => ?_, B6.own ?_, m5, k4 + 1, (upd_ne nDd.symm).trans e6, by omega, by omega⟩
        · unfold LI
          rw [upd_same, List.map_append]
          rfl
        · rcases List.mem_append.mp hx with hx | hx
          · exact hsm x hx
          · rw [List.mem_singleton.mp hx]
            exact small_mul (by omega) hsc3
        · exact but_free B3 hD nDd
      · rintro H' ⟨xs, hL, hlen, hsm, B4, m4, k4, e4, l4, u4⟩
        exact q H' D xs ⟨B4, m4, k4, e4, by omega, by omega⟩ (but_free B3 hD (ne_of_none e3 hD).symm) hL (by omega) hsm
    · have npos' : (r1 % 4) = 0 := by
        have : ¬ (0 < (r1 % 4)) := fun z => npos (decide_eq_true z)
        omega
      refine ⟨_, rfl, _, _, rfl, rfl, _, _, rfl, rfl, RgOk.of_le (by decide) (by omega) (by decide) (by omega), fun l hl => ?_⟩
      rw [rgV_upto]
      have hlen0 : (upto 1 ((n : Int) + 1)).length = n := by rw [upto_len]; omega
      have ndl : d ≠ l := ne_of_none e1 hl
      refine ⟨Nat.zero_le _, fun t ht => ?_⟩
      have hl0 : H l = none := but_free B1 hl ndl.symm
      have B2 := B1.new (o := .lst ((upto 1 ((n : Int) + 1)).map V.int)) hl
      have e2 := (upd_ne (o := .lst ((upto 1 ((n : Int) + 1)).map V.int)) ndl).trans e1
      have l2 : LI (upd H1 l (.lst ((upto 1 ((n : Int) + 1)).map V.int))) l (upto 1 ((n : Int) + 1)) := upd_same
      generalize upd H1 l (.lst ((upto 1 ((n : Int) + 1)).map V.int)) = H2 at B2 e2 l2 ht ⊢
      have ndt : d ≠ t := ne_of_none e2 ht
      have nlt : l ≠ t := ne_of_none l2 ht
      have ht0 : H t = none := but_free B2 ht ndt.symm
      refine while_by (fun σ H' => ∃ (L T : List Int) (z : Option V) (y : Option V), σ = [some (.ref d), some (.int n), some (.int (r1 % 4)), y, some (.ref l), some (.ref t), z] ∧ LI H' l L ∧ LI H' t T ∧ T.length + L.length = n ∧
          (∀ x ∈ L, Small x) ∧ (∀ x ∈ T, Small x) ∧ DrAt H H' d c k (k + 2 + (T.length : Int))) (fun σ H' => lenAt H' (σ.getD 4 none)) ?_ ?_ mono_ne
      · refine ⟨_, [], _, _, rfl, (upd_ne nlt).trans l2, upd_same, by rw [hlen0]; simp, fun x hx => ?_, fun x hx => (by cases hx), B2.new ht, m1', k + 1, (upd_ne ndt).trans e2, by omega, by omega⟩
        obtain ⟨h1, h2⟩ := upto_mem hx
        exact small_of (n := n) h1 (by omega) n40
      · rintro σ H' ⟨L, T, z, y, rfl, hL, hT, hlen, hsL, hsT, B4, m4, k4, e4, l4, u4⟩
        refine ask_ne rfl hL fun q' hq' => ?_
        have ndq : d ≠ q' := ne_of_none e4 hq'
        have B5 := B4.new (o := .lst []) hq'
        have e5 := (upd_ne (o := .lst []) ndq).trans e4
        have L5 := hL.same (same_upd (o := .lst []) hq')
        have T5 := hT.same (same_upd (o := .lst []) hq')
        generalize upd H' q' (.lst []) = H5 at B5 e5 L5 T5 ⊢
        by_cases hLe : L = []
        · rw [decide_eq_true hLe]
          refine iteF ?_
          have hTn : T.length = n := by
            rw [hLe] at hlen
            simpa using hlen
          exact ⟨_, rfl, q H5 t T ⟨B5, m4, k4, e5, by omega, by omega⟩ ht0 T5 hTn hsT⟩
        · rw [decide_eq_false hLe]
          refine iteT ?_
          have Lpos : 0 < L.length := List.length_pos_iff.mpr hLe
          refine ⟨_, rfl, .inl ⟨rfl, _, .inl (.inl T5)⟩, _, rfl, .inl ⟨rfl, _, .inl (.inl L5)⟩, ?_⟩
          refine ⟨_, rfl, d, m4, k4, c, rfl, e5, by omega, by omega, fun r6 m6 hr6 => .inl ⟨_, rfl, ?_⟩⟩
          have B6 : But d H (upd H5 d (DrO m6 (k4 + 1) c)) := B5.draw
          have e6 : upd H5 d (DrO m6 (k4 + 1) c) d = some (DrO m6 (k4 + 1) c) := upd_same
          have L6 : LI (upd H5 d (DrO m6 (k4 + 1) c)) l L := (upd_ne ndl.symm).trans L5
          have T6 : LI (upd H5 d (DrO m6 (k4 + 1) c)) t T := (upd_ne ndt.symm).trans T5
          generalize upd H5 d (DrO m6 (k4 + 1) c) = H6 at B6 e6 L6 T6 ⊢
          refine ⟨_, rfl, l, _, rfl, .inl (SqL.of L6), ?_⟩
          rw [li_len]
          have Lp : (0 : Int) < (L.length : Int) := by omega
          refine ⟨_, _, rfl, rfl, Lp, ?_⟩
          have i0 : 0 ≤ r6 % (L.length : Int) := Int.emod_nonneg _ (by omega)
          have i1 : r6 % (L.length : Int) < (L.length : Int) := Int.emod_lt_of_pos _ Lp
          have hix : (r6 % (L.length : Int)).toNat < L.length := by omega
          obtain ⟨x, hx⟩ : ∃ x, L[(r6 % (L.length : Int)).toNat]? = some x := ⟨_, List.getElem?_eq_getElem hix⟩
          refine ⟨l, _, (r6 % (L.length : Int)), (r6 % (L.length : Int)).toNat, V.int x, rfl, rfl, L6, by omega, by omega, by rw [List.length_map]; exact Kt.seqIndex_of i0 i1, get_map hx, ?_⟩
          rw [map_erase]
          have nlt' : t ≠ l := nlt.symm
          refine ⟨t, _, V.int x, rfl, rfl, (upd_ne nlt').trans T6, by rw [List.length_map, sizeLine_eq]; omega, ?_⟩
          have pm := pop_perm hx
          have hl' : (L.eraseIdx (r6 % (L.length : Int)).toNat).length + 1 = L.length := by
            have := pm.length_eq
            simpa using this
          have T7 : LI (upd (upd H6 l (.lst ((L.eraseIdx (r6 % (L.length : Int)).toNat).map V.int))) t (.lst (T.map V.int ++ [V.int x]))) t (T ++ [x]) := by
            unfold LI
            rw [upd_same, List.map_append]
            rfl
          have L7 : LI (upd (upd H6 l (.lst ((L.eraseIdx (r6 % (L.length : Int)).toNat).map V.int))) t (.lst (T.map V.int ++ [V.int x]))) l (L.eraseIdx (r6 % (L.length : Int)).toNat) := (upd_ne nlt).trans upd_same
          refine ⟨⟨_, _, _, _, rfl, L7, T7, ?_, fun x' hx' => hsL x' (pm.mem_iff.mp (List.mem_cons_of_mem _ hx')), fun x' hx' => ?_, (B6.own hl0).own ht0, m6, k4 + 1, (upd_ne ndt).trans ((upd_ne ndl).trans e6), by omega, ?_⟩, ?_⟩
          · rw [List.length_append, List.length_singleton]
            omega
          · rcases List.mem_append.mp hx' with h | h
            · exact hsT x' h
            · rw [List.mem_singleton.mp h]
              exact hsL x (List.mem_of_getElem? hx)
          · rw [List.length_append, List.length_singleton]
            omega
          · show lenAt _ (some (.ref l)) < lenAt _ (some (.ref l))
            rw [lenAt_of L7, lenAt_of hL]
            omega
end
end K01

set_option Elab.async false
set_option linter.all false
set_option maxRecDepth 100000
set_option maxHeartbeats 8000000
namespace K01
open PySem L2 Kt PyProof.Rows
section
variable {P : Program} {w : World} {K : PySem.W.Frag} {mg : Str → Option Value} {base : Heap}
/-- a family whose chains are new behind H0 -/
def FamN (H0 H : Hp) (a : Addr) (f : List (List Int)) : Prop := ∃ as, Refs H a as ∧ Paired (LI H) as f ∧ ∀ x ∈ as, H0 x = none
theorem FamN.fam {H0 H : Hp} {a : Addr} {f : List (List Int)} (h : FamN H0 H a f) : Fam H a f := let ⟨as, h1, h2, _⟩ := h; ⟨as, h1, h2⟩
def spLFam : Sp := fun vs H Q _ => ∃ (d : Addr) (n : Nat) (m k : Int) (c : Bool), vs = [.ref d, .int n] ∧ 1 ≤ n ∧ n ≤ 40 ∧ H d = some (DrO m k c) ∧ 0 ≤ k ∧ k < 900000000 ∧
  ∀ H' p fm, DrAt H H' d c k (k + 3000) → H p = none → FamN H H' p fm → Valid n fm → fm.length ≤ 40 → Q (.ref p) H'
theorem scLFam : FnScope ["draws", "many", "kind", "pick", "gap", "wide", "left", "told", "chain", "turn", "start"] ["draws", "many"] (defScope sLFamily) := ⟨rfl, rfl, rfl, by decide +kernel, rfl, by decide +kernel, by decide +kernel⟩
theorem paired_upd {H : Hp} {D : Addr} {o : HO} {as : List Addr} {f : List (List Int)} (p : Paired (LI H) as f) (h : ∀ a ∈ as, a ≠ D) : Paired (LI (upd H D o)) as f := by
  induction p with
  | nil => exact .nil
  | cons r t ih => exact .cons ((upd_ne (h _ List.mem_cons_self)).trans r) (ih fun a ha => h a (List.mem_cons_of_mem _ ha))
theorem paired_keep {H H' : Hp} {ds : List Addr} {as : List Addr} {f : List (List Int)} (p : Paired (LI H) as f) (b : ButL ds H H') (h : ∀ a ∈ as, a ∉ ds) : Paired (LI H') as f := by
  induction p with
  | nil => exact .nil
  | cons r t ih => exact .cons (b _ _ (h _ List.mem_cons_self) r) (ih fun a ha => h a (List.mem_cons_of_mem _ ha))
theorem paired_there {H : Hp} {as : List Addr} {f : List (List Int)} (p : Paired (LI H) as f) {D : Addr} (h : H D = none) : ∀ a ∈ as, a ≠ D := by
  induction p with
  | nil => intro a ha; cases ha
  | cons r t ih =>
    intro a ha
    rcases List.mem_cons.mp ha with rfl | ha
    · exact ne_of_none r h
    · exact ih a ha
theorem refs_snoc {H : Hp} {D : Addr} {as : List Addr} {l : Addr} : Refs (upd H D (.lst (as.map V.ref ++ [V.ref l]))) D (as ++ [l]) := by
  unfold Refs
  rw [upd_same, List.map_append]
  rfl
theorem refs_li {H : Hp} {a : Addr} {as : List Addr} {xs : List Int} (h : Refs H a as) (h' : LI H a xs) : as = [] ∧ xs = [] := by
  have e : (HO.lst (as.map V.ref)) = .lst (xs.map V.int) := Option.some.inj (h.symm.trans h')
  injection e with e
  cases as with
  | nil =>
    cases xs with
    | nil => exact ⟨rfl, rfl⟩
    | cons x xs => cases e
  | cons y as =>
    cases xs with
    | nil => cases e
    | cons x xs =>
      rw [List.map_cons, List.map_cons] at e
      injection e with e _
      cases e
theorem paired_ne_dr {H : Hp} {d : Addr} {n k : Int} {c : Bool} {as : List Addr} {f : List (List Int)} (p : Paired (LI H) as f) (h : H d = some (DrO n k c)) : ∀ a ∈ as, a ≠ d := by
  induction p with
  | nil => intro a ha; cases ha
  | cons r t ih =>
    intro a ha
    rcases List.mem_cons.mp ha with rfl | ha
    · exact fun z => dr_ne_ints (Option.some.inj (h.symm.trans (z ▸ r)))
    · exact ih a ha
/-- ints apart, within 1 .. n -/
def Good (n : Nat) (l : List Int) : Prop := l.Nodup ∧ ∀ x ∈ l, 1 ≤ x ∧ x ≤ (n : Int)
theorem Good.perm {n : Nat} {l m : List Int} (h : Good n l) (p : m.Perm l) : Good n m := ⟨p.nodup_iff.mpr h.1, fun x hx => h.2 x (p.mem_iff.mp hx)⟩
theorem Good.sub {n : Nat} {l m : List Int} (h : Good n l) (p : m.Sublist l) : Good n m := ⟨h.1.sublist p, fun x hx => h.2 x (p.mem hx)⟩
theorem good_upto (n : Nat) : Good n (upto 1 ((n : Int) + 1)) := ⟨upto_nodup _ _, fun x hx => by
  obtain ⟨h1, h2⟩ := upto_mem hx
  omega⟩
theorem flat_snoc (T : List (List Int)) (C : List Int) : (T ++ [C]).flatten = T.flatten ++ C := by simp
theorem op_eq_ne {a b : Int} (h : ¬ (decide (V.int a = V.int b) = true)) : a ≠ b := fun z => h (decide_eq_true (by rw [z]))
theorem ok_lfam {f g : Addr} {fd gd : FuncData} (F : Fun K "_law_family" "_law_family" sLFamily f fd) (N : Nb mg) (G : FnOk P w K mg base CX0 1 g gd ["draws"] spLNext) (b1 : Binds K gd ["draws"] []) (m1 : mg "_law_next" = some (.ref g)) (k1 : PySem.W.keepIn K (.ref g) = true) :
    FnOk P w K mg base CX0 2 f fd ["draws", "many"] spLFam := by
  refine F.ok scLFam (fun vs H Q E h => ?_) (fun cdv A outer s H vs Q E hr h => ?_)
  · obtain ⟨d, n, m, k, c, rfl, _⟩ := h
    rfl
  · obtain ⟨d, n, m, k, c, rfl, n1, n40, hd, k0, kb, q⟩ := h
    refine ⟨_, pss_cons (ps_set (i := 2) scLFam.nd rfl (.inl rfl) (pe_op op_mod (pe_callTy call_int1 (by rfl) N.int (by decide +kernel) (pa_cons (pe_call G hr (by rfl) m1 k1 b1 .nil pass0 (pa_cons (pv 0) pa_nil)) pa_nil)) pe_int))
      (pss_cons (ps_set (i := 3) scLFam.nd rfl (.inl rfl) (pe_callTy call_int1 (by rfl) N.int (by decide +kernel) (pa_cons (pe_call G hr (by rfl) m1 k1 b1 .nil pass0 (pa_cons (pv 0) pa_nil)) pa_nil)))
      (pss_cons (ps_if (pt_cmpR op_eq (pv 2) pe_int (nomark _))
        (pss_cons (ps_set (i := 4) scLFam.nd rfl (.inr rfl) (pe_op op_add pe_int (pe_op op_mod (pv 3) (pv 1))))
        (pss_one (ps_ret (pe_lc (own := [("start", 10)]) (g := gName 10) (tt := tYes) rfl scLFam.nd (pi_range2 (by rfl) N.range (pa_cons pe_int (pa_cons (pe_op op_add (pv 4) pe_int) pa_nil)))
          (blkOk_by (N := ["draws", "many", "kind", "pick", "gap", "wide", "left", "told", "chain", "turn", "start"]) (sc := defScope sLFamily) (by decide +kernel))
          (fun _ _ _ _ _ => pg_name (i := 10) scLFam.nd rfl (Or.inl rfl)) (fun _ _ _ _ _ => pts_nil)
          (fun _ _ _ _ _ => pe_listRg3 rfl (by rfl) N.list (by rfl) N.range (pa_cons (pv 10) (pa_cons (pe_op op_add (pv 1) pe_int) (pa_cons (pv 4) pa_nil)))))))) pss_nil)
      (pss_cons (ps_if (pt_cmpR op_eq (pv 2) pe_int (nomark _))
        (pss_cons (ps_set (i := 5) scLFam.nd rfl (.inr rfl) (pe_op op_add pe_int (pe_op op_mod (pv 3) (pv 1))))
        (pss_one (ps_ret (pe_lc (own := [("start", 10)]) (g := gName 10) (tt := tYes) rfl scLFam.nd (pi_range3 (by rfl) N.range (pa_cons pe_int (pa_cons (pe_op op_add (pv 1) pe_int) (pa_cons (pv 5) pa_nil))))
          (blkOk_by (N := ["draws", "many", "kind", "pick", "gap", "wide", "left", "told", "chain", "turn", "start"]) (sc := defScope sLFamily) (by decide +kernel))
          (fun _ _ _ _ _ => pg_name (i := 10) scLFam.nd rfl (Or.inl rfl)) (fun _ _ _ _ _ => pts_nil)
          (fun _ _ _ _ _ => pe_listRg rfl (by rfl) N.list (prg_2 (by rfl) N.range (pv 10) (pe_op op_add (pe_callB (call_min2 rfl) (by rfl) N.min (by decide +kernel) (pa_cons (pv 1) (pa_cons (pe_op op_sub (pe_op op_add (pv 10) (pv 5)) pe_int) pa_nil))) pe_int))))))) pss_nil)
      (pss_cons (ps_set (i := 6) scLFam.nd rfl (.inl rfl) (pe_listRg rfl (by rfl) N.list (prg_2 (by rfl) N.range pe_int (pe_op op_add (pv 1) pe_int))))
      (pss_cons (ps_set (i := 7) scLFam.nd rfl (.inl rfl) (pe_lst pa_nil))
      (pss_cons (ps_while PassesOwn.never (pt_cmpR (op_neD hr.units) (pv 6) (pe_lst pa_nil) (nomark _))
        (pss_cons (ps_set (i := 8) scLFam.nd rfl (.inl rfl) (pe_lst pa_nil))
        (pss_cons (ps_for PassesOwn.never rfl (pi_range1 (by rfl) N.range (pa_cons (pe_op op_add pe_int (pe_op op_mod (pe_callTy call_int1 (by rfl) N.int (by decide +kernel) (pa_cons (pe_call G hr (by rfl) m1 k1 b1 .nil pass0 (pa_cons (pv 0) pa_nil)) pa_nil))
            (pe_ix ix_list (pe_lst (pa_cons pe_int (pa_cons (pv 1) pa_nil))) (pe_op op_sub (pv 2) pe_int) (fun _ _ => rfl)))) pa_nil)) (pg_name (i := 9) scLFam.nd rfl (.inl rfl))
          (pss_one (ps_if (pt_cmpR (op_neD hr.units) (pv 6) (pe_lst pa_nil) (nomark _))
            (pss_one (ps_expr (pe_bm PySem.F.plainAttrs_list PySem.F.slot_list_append PySem.F.type_list_append mt_append (pv 8) (pa_cons
              (pe_bm PySem.F.plainAttrs_list PySem.F.slot_list_pop PySem.F.type_list_pop mt_popAt (pv 6) (pa_cons (pe_op op_mod (pe_callTy call_int1 (by rfl) N.int (by decide +kernel) (pa_cons (pe_call G hr (by rfl) m1 k1 b1 .nil pass0 (pa_cons (pv 0) pa_nil)) pa_nil))
                (pe_callB call_len_seq (by rfl) N.len PySem.boot_len (pa_cons (pv 6) pa_nil))) pa_nil)) pa_nil)))) pss_nil)))
        (pss_cons (ps_expr (pe_bm PySem.F.plainAttrs_list PySem.F.slot_list_append PySem.F.type_list_append mt_append (pv 7) (pa_cons (pv 8) pa_nil)))
        (pss_one (ps_if (PW.pt (pw_and (pt_cmpR op_eq (pe_op op_mod (pe_callTy call_int1 (by rfl) N.int (by decide +kernel) (pa_cons (pe_call G hr (by rfl) m1 k1 b1 .nil pass0 (pa_cons (pv 0) pa_nil)) pa_nil)) pe_int) pe_int (nomark _))
            (pw_and1 (pt_cmpR (op_neD hr.units) (pv 6) (pe_lst pa_nil) (nomark _)))))
          (pss_one (ps_expr (pe_bm PySem.F.plainAttrs_list PySem.F.slot_list_pop PySem.F.type_list_pop mt_popAt (pv 6) (pa_cons (pe_op op_mod (pe_callTy call_int1 (by rfl) N.int (by decide +kernel) (pa_cons (pe_call G hr (by rfl) m1 k1 b1 .nil pass0 (pa_cons (pv 0) pa_nil)) pa_nil))
                (pe_callB call_len_seq (by rfl) N.len PySem.boot_len (pa_cons (pv 6) pa_nil))) pa_nil)))) pss_nil))))))
      (pss_one (ps_ret (pv 7))))))))), ?_⟩
    refine ⟨_, rfl, d, m, k, c, rfl, hd, k0, by omega, fun r1 m1' hr1 => .inl ⟨_, rfl, ?_⟩⟩
    refine ⟨_, _, rfl, rfl, (by show (0 : Int) < 4; decide), ?_⟩
    have B1 : But d H (upd H d (DrO m1' (k + 1) c)) := But.upd
    have e1 : upd H d (DrO m1' (k + 1) c) d = some (DrO m1' (k + 1) c) := upd_same
    generalize upd H d (DrO m1' (k + 1) c) = H1 at B1 e1 ⊢
    refine ⟨_, rfl, d, m1', k + 1, c, rfl, e1, by omega, by omega, fun r2 m2 hr2 => .inl ⟨_, rfl, ?_⟩⟩
    have B2 : But d H (upd H1 d (DrO m2 (k + 1 + 1) c)) := B1.draw
    have e2 : upd H1 d (DrO m2 (k + 1 + 1) c) d = some (DrO m2 (k + 1 + 1) c) := upd_same
    generalize upd H1 d (DrO m2 (k + 1 + 1) c) = H2 at B2 e2 ⊢
    have kd0 : 0 ≤ r1 % 4 := by omega
    have kd4 : r1 % 4 < 4 := by omega
    have np : (0 : Int) < (n : Int) := by omega
    have g0 : 0 ≤ r2 % (n : Int) := Int.emod_nonneg _ (by omega)
    have g1 : r2 % (n : Int) < (n : Int) := Int.emod_lt_of_pos _ np
    refine ⟨_, rfl, rfl, _, rfl, ?_⟩
    refine ite2 (fun _ => ?_) (fun nz => ?_)
    · -- gaps
      refine ⟨_, rfl, _, rfl, _, _, rfl, rfl, np, _, _, rfl, rfl, ?_⟩
      refine ⟨_, rfl, _, _, rfl, rfl, _, _, rfl, ⟨by decide, by decide, by omega, by omega⟩, fun D hD => lc_it (walk_range (lo := 1)) (fun i H' => ∃ as, Refs H' D as ∧ Paired (LI H') as ((gapFam n (1 + r2 % (n : Int))).take i) ∧ (∀ a ∈ as, a ≠ D ∧ H a = none) ∧ But d H H' ∧ H' d = some (DrO m2 (k + 1 + 1) c)) ?_ (fun _ _ _ _ => True.intro) ?_ ?_⟩
      · exact ⟨[], upd_same, .nil, fun a ha => (by cases ha), B2.new hD, (upd_ne (ne_of_none e2 hD)).trans e2⟩
      · rintro i v H4 H5 hi ⟨as, hR, hp, hne, B4, e4⟩ ⟨rfl, rfl⟩
        refine ⟨rfl, tyes ?_⟩
        have hi' : i < (1 + r2 % (n : Int)).toNat := by omega
        refine ⟨_, rfl, _, rfl, _, _, rfl, rfl, _, rfl, _, _, _, _, rfl, rgC_of (by omega) (by omega) (by omega) (by omega) (by omega) (by omega), ?_, fun l hl => ?_⟩
        · have := cnt_le (a := 1 + (i : Int)) (b := (n : Int) + 1) (c := 1 + r2 % (n : Int)) (by omega)
          omega
        · rw [stepV_eq]
          have nDl : D ≠ l := ne_of_none hR hl
          refine ⟨_, (upd_ne nDl).trans hR, ?_, as ++ [l], refs_snoc, ?_, ?_, (B4.new hl).own (but_free B2 hD (ne_of_none e2 hD).symm), ?_⟩
          · rw [List.length_map, hp.length, List.length_take, gap_len, sizeLine_eq]
            omega
          · have eg : (gapFam n (1 + r2 % (n : Int)))[i]? = some (stepI (1 + (i : Nat)) (1 + r2 % (n : Int)) (cnt (1 + (i : Nat)) ((n : Int) + 1) (1 + r2 % (n : Int)))) := by
              unfold gapFam
              rw [List.getElem?_map, List.getElem?_range hi']
              rfl
            rw [List.take_add_one, eg, Option.toList_some]
            refine Paired.snoc (paired_upd (paired_upd hp (paired_there hp hl)) fun a ha => (hne a ha).1) ?_
            exact (upd_ne nDl.symm).trans upd_same
          · intro a ha
            rcases List.mem_append.mp ha with h | h
            · exact hne a h
            · rw [List.mem_singleton.mp h]
              exact ⟨nDl.symm, but_free B4 hl (ne_of_none e4 hl).symm⟩
          · rw [upd_ne (ne_of_none e2 hD), upd_ne (ne_of_none e4 hl)]
            exact e4
      · rintro H' ⟨as, hR, hp, hne, B4, e4⟩
        have el : (gapFam n (1 + r2 % (n : Int))).take (1 + r2 % (n : Int) + 1 - 1).toNat = gapFam n (1 + r2 % (n : Int)) := List.take_of_length_le (by rw [gap_len]; omega)
        rw [el] at hp
        exact q H' D _ ⟨B4, m2, k + 1 + 1, e4, by omega, by omega⟩ (but_free B2 hD (ne_of_none e2 hD).symm) ⟨as, hR, hp, fun a ha => (hne a ha).2⟩ (valid_gap (by omega)) (by rw [gap_len]; omega)
    · refine ⟨_, rfl, rfl, _, rfl, ?_⟩
      refine ite2 (fun _ => ?_) (fun no => ?_)
      · -- stretches
        refine ⟨_, rfl, _, rfl, _, _, rfl, rfl, np, _, _, rfl, rfl, ?_⟩
        refine ⟨_, rfl, _, _, rfl, rfl, _, rfl, _, _, _, _, rfl, rgC_of (by omega) (by omega) (by omega) (by omega) (by omega) (by omega), fun D hD => lc_it walk_rangeC (fun i H' => ∃ as, Refs H' D as ∧ Paired (LI H') as ((wideFam n (1 + r2 % (n : Int))).take i) ∧ (∀ a ∈ as, a ≠ D ∧ H a = none) ∧ But d H H' ∧ H' d = some (DrO m2 (k + 1 + 1) c)) ?_ (fun _ _ _ _ => True.intro) ?_ ?_⟩
        · exact ⟨[], upd_same, .nil, fun a ha => (by cases ha), B2.new hD, (upd_ne (ne_of_none e2 hD)).trans e2⟩
        · rintro i v H4 H5 hi ⟨as, hR, hp, hne, B4, e4⟩ ⟨rfl, rfl⟩
          refine ⟨rfl, tyes ?_⟩
          have hs := step_lt (a := 1) (b := (n : Int) + 1) (c := 1 + r2 % (n : Int)) (by omega) hi
          have hs0 : 0 ≤ (i : Int) * (1 + r2 % (n : Int)) := Int.mul_nonneg (by omega) (by omega)
          refine ⟨_, rfl, _, rfl, _, rfl, _, rfl, _, _, rfl, rfl, _, _, rfl, rfl, _, _, rfl, ?_⟩
          refine ⟨_, _, rfl, rfl, _, _, rfl, rfl, RgOk.of_le (by omega) ?_ (by omega) ?_, fun l hl => ?_⟩
          · split <;> omega
          · split <;> omega
          · rw [rgV_upto]
            have nDl : D ≠ l := ne_of_none hR hl
            refine ⟨_, (upd_ne nDl).trans hR, ?_, as ++ [l], refs_snoc, ?_, ?_, (B4.new hl).own (but_free B2 hD (ne_of_none e2 hD).symm), ?_⟩
            · have := wide_len (n := n) (w := 1 + r2 % (n : Int)) (by omega)
              rw [List.length_map, hp.length, List.length_take, sizeLine_eq]
              omega
            · have eg : (wideFam n (1 + r2 % (n : Int)))[i]? = some (upto (1 + (i : Nat) * (1 + r2 % (n : Int))) ((if 1 + (i : Nat) * (1 + r2 % (n : Int)) + (1 + r2 % (n : Int)) - 1 < (n : Int) then 1 + (i : Nat) * (1 + r2 % (n : Int)) + (1 + r2 % (n : Int)) - 1 else (n : Int)) + 1)) := by
                unfold wideFam
                rw [List.getElem?_map, List.getElem?_range hi]
                rfl
              rw [List.take_add_one, eg, Option.toList_some]
              refine Paired.snoc (paired_upd (paired_upd hp (paired_there hp hl)) fun a ha => (hne a ha).1) ?_
              exact (upd_ne nDl.symm).trans upd_same
            · intro a ha
              rcases List.mem_append.mp ha with h | h
              · exact hne a h
              · rw [List.mem_singleton.mp h]
                exact ⟨nDl.symm, but_free B4 hl (ne_of_none e4 hl).symm⟩
            · rw [upd_ne (ne_of_none e2 hD), upd_ne (ne_of_none e4 hl)]
              exact e4
        · rintro H' ⟨as, hR, hp, hne, B4, e4⟩
          have wl := wide_len (n := n) (w := 1 + r2 % (n : Int)) (by omega)
          have el : (wideFam n (1 + r2 % (n : Int))).take (cnt 1 ((n : Int) + 1) (1 + r2 % (n : Int))) = wideFam n (1 + r2 % (n : Int)) := List.take_of_length_le (by unfold wideFam; rw [List.length_map, List.length_range]; exact Nat.le_refl _)
          rw [el] at hp
          exact q H' D _ ⟨B4, m2, k + 1 + 1, e4, by omega, by omega⟩ (but_free B2 hD (ne_of_none e2 hD).symm) ⟨as, hR, hp, fun a ha => (hne a ha).2⟩ (valid_wide (by omega)) (by omega)
      · -- mixed ones
        have kd2 : 2 ≤ r1 % 4 := by
          have a1 := op_eq_ne nz
          have a2 := op_eq_ne no
          omega
        refine ⟨_, rfl, _, _, rfl, rfl, _, _, rfl, rfl, RgOk.of_le (by decide) (by omega) (by decide) (by omega), fun l hl => ?_⟩
        rw [rgV_upto]
        have hlen0 : (upto 1 ((n : Int) + 1)).length = n := by rw [upto_len]; omega
        have ndl : d ≠ l := ne_of_none e2 hl
        refine ⟨Nat.zero_le _, fun t ht => ?_⟩
        have hl0 : H l = none := but_free B2 hl ndl.symm
        have B3 := B2.new (o := .lst ((upto 1 ((n : Int) + 1)).map V.int)) hl
        have e3 := (upd_ne (o := .lst ((upto 1 ((n : Int) + 1)).map V.int)) ndl).trans e2
        have l3 : LI (upd H2 l (.lst ((upto 1 ((n : Int) + 1)).map V.int))) l (upto 1 ((n : Int) + 1)) := upd_same
        generalize upd H2 l (.lst ((upto 1 ((n : Int) + 1)).map V.int)) = H3 at B3 e3 l3 ht ⊢
        have ndt : d ≠ t := ne_of_none e3 ht
        have nlt : l ≠ t := ne_of_none l3 ht
        have ht0 : H t = none := but_free B3 ht ndt.symm
        refine while_by (fun σ H' => ∃ (L : List Int) (T : List (List Int)) (as : List Addr) (y4 y5 y8 y9 y10 : Option V), σ = [some (.ref d), some (.int n), some (.int (r1 % 4)), some (.int r2), y4, y5, some (.ref l), some (.ref t), y8, y9, y10] ∧
            LI H' l L ∧ Refs H' t as ∧ Paired (LI H') as T ∧ (∀ a ∈ as, a ≠ l ∧ a ≠ t ∧ H a = none) ∧ Good n (T.flatten ++ L) ∧ T.length + L.length ≤ n ∧ DrAt H H' d c k (k + 2 + 50 * ((n : Int) - (L.length : Int)))) (fun σ H' => lenAt H' (σ.getD 6 none)) ?_ ?_ mono_ne
        · exact ⟨_, [], [], _, _, _, _, _, rfl, (upd_ne nlt).trans l3, upd_same, .nil, fun a ha => (by cases ha), good_upto n, by rw [hlen0]; simp, B3.new ht, m2, k + 1 + 1, (upd_ne ndt).trans e3, by omega, by rw [hlen0]; omega⟩
        · rintro σ H' ⟨L, T, as, y4, y5, y8, y9, y10, rfl, hL, hT, hp, hne, gd, hlen, B4, m4, k4, e4, l4, u4⟩
          refine ask_ne rfl hL fun q' hq' => ?_
          have B5 := B4.new (o := .lst []) hq'
          have e5 := (upd_ne (o := .lst []) (ne_of_none e4 hq')).trans e4
          have L5 := hL.same (same_upd (o := .lst []) hq')
          have T5 := hT.same (same_upd (o := .lst []) hq')
          have p5 : Paired (LI (upd H' q' (.lst []))) as T := paired_upd hp (paired_there hp hq')
          generalize upd H' q' (.lst []) = H5 at B5 e5 L5 T5 p5 ⊢
          by_cases hLe : L = []
          · rw [decide_eq_true hLe]
            refine iteF ?_
            rw [hLe, List.append_nil] at gd
            rw [hLe] at hlen u4
            have hlen' : T.length ≤ n := hlen
            have u4' : k4 ≤ k + 2 + 50 * ((n : Int) - 0) := u4
            exact ⟨_, rfl, q H5 t T ⟨B5, m4, k4, e5, by omega, by omega⟩ ht0 ⟨as, T5, p5, fun a ha => (hne a ha).2.2⟩ ⟨gd.1, gd.2⟩ (by omega)⟩
          · rw [decide_eq_false hLe]
            refine iteT ?_
            have Lpos : 0 < L.length := List.length_pos_iff.mpr hLe
            refine ⟨Nat.zero_le _, fun ch hch => ?_⟩
            have ndc : d ≠ ch := ne_of_none e5 hch
            have nlc : l ≠ ch := ne_of_none L5 hch
            have ntc : t ≠ ch := ne_of_none T5 hch
            have hch0 : H ch = none := but_free B5 hch ndc.symm
            have nac := paired_there p5 hch
            have B6 := B5.new (o := .lst []) hch
            have e6 := (upd_ne (o := .lst []) ndc).trans e5
            have L6 : LI (upd H5 ch (.lst [])) l L := (upd_ne nlc).trans L5
            have T6 : Refs (upd H5 ch (.lst [])) t as := (upd_ne ntc).trans T5
            have c6 : LI (upd H5 ch (.lst [])) ch [] := upd_same
            have p6 : Paired (LI (upd H5 ch (.lst []))) as T := paired_upd p5 nac
            generalize upd H5 ch (.lst []) = H6 at B6 e6 L6 T6 c6 p6 ⊢
            refine ⟨_, rfl, d, m4, k4, c, rfl, e6, by omega, by omega, fun r3 m5 hr3 => .inl ⟨_, rfl, ?_⟩⟩
            have B7 : But d H (upd H6 d (DrO m5 (k4 + 1) c)) := B6.draw
            have e7 : upd H6 d (DrO m5 (k4 + 1) c) d = some (DrO m5 (k4 + 1) c) := upd_same
            have L7 : LI (upd H6 d (DrO m5 (k4 + 1) c)) l L := (upd_ne ndl.symm).trans L6
            have T7 : Refs (upd H6 d (DrO m5 (k4 + 1) c)) t as := (upd_ne ndt.symm).trans T6
            have c7 : LI (upd H6 d (DrO m5 (k4 + 1) c)) ch [] := (upd_ne ndc.symm).trans c6
            have p7 : Paired (LI (upd H6 d (DrO m5 (k4 + 1) c))) as T := paired_upd p6 (paired_ne_dr p6 e6)
            generalize upd H6 d (DrO m5 (k4 + 1) c) = H7 at B7 e7 L7 T7 c7 p7 ⊢
            refine ⟨_, rfl, by show 2 ≤ sizeLine; decide, fun u hu => ?_⟩
            have B8 := B7.new (o := .lst [V.int 3, V.int n]) hu
            have e8 := (upd_ne (o := .lst [V.int 3, V.int n]) (ne_of_none e7 hu)).trans e7
            have L8 := L7.same (same_upd (o := .lst [V.int 3, V.int n]) hu)
            have T8 := T7.same (same_upd (o := .lst [V.int 3, V.int n]) hu)
            have c8 := c7.same (same_upd (o := .lst [V.int 3, V.int n]) hu)
            have p8 : Paired (LI (upd H7 u (.lst [V.int 3, V.int n]))) as T := paired_upd p7 (paired_there p7 hu)
            have u8 : upd H7 u (.lst [V.int 3, V.int n]) u = some (.lst [V.int 3, V.int n]) := upd_same
            generalize upd H7 u (.lst [V.int 3, V.int n]) = H8 at B8 e8 L8 T8 c8 p8 u8 ⊢
            obtain ⟨md, hmd, hmd2⟩ := tab2 (x := 3) (y := (n : Int)) (i := r1 % 4 - 2) (by omega) (by omega)
            have md0 : 0 < md := by omega
            have md1 : md ≤ 40 := by omega
            refine ⟨_, rfl, _, _, rfl, rfl, _, _, _, _, rfl, rfl, SqL.of u8, hmd, ?_⟩
            refine ⟨_, _, rfl, rfl, md0, ?_⟩
            have b1 : 0 ≤ r3 % md := Int.emod_nonneg _ (by omega)
            have b2 : r3 % md < md := Int.emod_lt_of_pos _ md0
            refine ⟨_, _, rfl, rfl, _, rfl, by omega, by omega, ?_⟩
            refine for_it walk_range (fun i σ H' => ∃ (C L' : List Int) (z9 : Option V), σ = [some (.ref d), some (.int n), some (.int (r1 % 4)), some (.int r2), y4, y5, some (.ref l), some (.ref t), some (.ref ch), z9, y10] ∧
              LI H' l L' ∧ LI H' ch C ∧ ButL [d, l, ch] H8 H' ∧ But d H H' ∧ (C ++ L').Perm L ∧ (1 ≤ i → L'.length < L.length) ∧ ∃ n k', H' d = some (DrO n k' c) ∧ k ≤ k' ∧ k' ≤ k4 + 1 + (i : Int)) ?_ (fun _ _ _ _ _ => True.intro) ?_ ?_
            · exact ⟨[], L, _, rfl, L8, c8, ButL.refl _ _, B8, .refl _, fun z => absurd z (by decide), m5, k4 + 1, e8, by omega, by omega⟩
            · rintro i v σ H9 H9' hi ⟨C, L', z9, rfl, L9, c9, BL9, B9, pm, hlt, m9, k9, e9, l9, u9⟩ ⟨rfl, rfl⟩
              have hi40 : i < 41 := by omega
              refine ask_ne rfl L9 fun q2 hq2 => ?_
              have Ba := B9.new (o := .lst []) hq2
              have ea := (upd_ne (o := .lst []) (ne_of_none e9 hq2)).trans e9
              have La := L9.same (same_upd (o := .lst []) hq2)
              have ca := c9.same (same_upd (o := .lst []) hq2)
              have BLa := BL9.trans (ButL.new (ds := [d, l, ch]) (o := .lst []) hq2)
              generalize upd H9' q2 (.lst []) = Ha at Ba ea La ca BLa ⊢
              by_cases hLe' : L' = []
              · rw [decide_eq_true hLe']
                refine iteF ?_
                exact ⟨C, L', _, rfl, La, ca, BLa, Ba, pm, fun _ => by rw [hLe']; exact Lpos, m9, k9, ea, by omega, by omega⟩
              · rw [decide_eq_false hLe']
                refine iteT ?_
                have Lp' : 0 < L'.length := List.length_pos_iff.mpr hLe'
                have Ln : L'.length ≤ n := by
                  have h1 := pm.length_eq
                  rw [List.length_append] at h1
                  omega
                refine ⟨_, rfl, .inl ⟨rfl, _, .inl (.inl ca)⟩, _, rfl, .inl ⟨rfl, _, .inl (.inl La)⟩, ?_⟩
                refine ⟨_, rfl, d, m9, k9, c, rfl, ea, by omega, by omega, fun r6 m6 hr6 => .inl ⟨_, rfl, ?_⟩⟩
                have Bb : But d H (upd Ha d (DrO m6 (k9 + 1) c)) := Ba.draw
                have eb : upd Ha d (DrO m6 (k9 + 1) c) d = some (DrO m6 (k9 + 1) c) := upd_same
                have Lb : LI (upd Ha d (DrO m6 (k9 + 1) c)) l L' := (upd_ne ndl.symm).trans La
                have cb : LI (upd Ha d (DrO m6 (k9 + 1) c)) ch C := (upd_ne ndc.symm).trans ca
                have BLb := BLa.trans (ButL.upd (ds := [d, l, ch]) (d := d) (o := DrO m6 (k9 + 1) c) (by simp))
                generalize upd Ha d (DrO m6 (k9 + 1) c) = Hb at Bb eb Lb cb BLb ⊢
                refine ⟨_, rfl, l, _, rfl, .inl (SqL.of Lb), ?_⟩
                rw [li_len]
                have Lp : (0 : Int) < (L'.length : Int) := by omega
                refine ⟨_, _, rfl, rfl, Lp, ?_⟩
                have i0 : 0 ≤ r6 % (L'.length : Int) := Int.emod_nonneg _ (by omega)
                have i1 : r6 % (L'.length : Int) < (L'.length : Int) := Int.emod_lt_of_pos _ Lp
                have hix : (r6 % (L'.length : Int)).toNat < L'.length := by omega
                obtain ⟨x, hx⟩ : ∃ x, L'[(r6 % (L'.length : Int)).toNat]? = some x := ⟨_, List.getElem?_eq_getElem hix⟩
                refine ⟨l, _, r6 % (L'.length : Int), (r6 % (L'.length : Int)).toNat, V.int x, rfl, rfl, Lb, by omega, by omega, by rw [List.length_map]; exact Kt.seqIndex_of i0 i1, get_map hx, ?_⟩
                rw [map_erase]
                have pmx := pop_perm hx
                have hl' : (L'.eraseIdx (r6 % (L'.length : Int)).toNat).length + 1 = L'.length := by
                  have := pmx.length_eq
                  simpa using this
                have hC : C.length ≤ n := by
                  have h1 := pm.length_eq
                  rw [List.length_append] at h1
                  omega
                refine ⟨ch, _, V.int x, rfl, rfl, (upd_ne nlc.symm).trans cb, by rw [List.length_map, sizeLine_eq]; omega, ?_⟩
                refine ⟨C ++ [x], L'.eraseIdx (r6 % (L'.length : Int)).toNat, _, rfl, (upd_ne nlc).trans upd_same, ?_, (BLb.trans (ButL.upd (by simp))).trans (ButL.upd (by simp)), (Bb.own hl0).own hch0, ?_, fun _ => ?_, m6, k9 + 1, (upd_ne ndc).trans ((upd_ne ndl).trans eb), by omega, by omega⟩
                · unfold LI
                  rw [upd_same, List.map_append]
                  rfl
                · refine List.Perm.trans ?_ pm
                  rw [List.append_assoc]
                  exact List.Perm.append_left C pmx
                · have h1 := pm.length_eq
                  rw [List.length_append] at h1
                  omega
            · rintro σ H9 ⟨C, L', z9, rfl, L9, c9, BL9, B9, pm, hlt, m9, k9, e9, l9, u9⟩
              have lt' := hlt (by omega)
              have u9' : k9 ≤ k4 + 1 + 41 := by omega
              have hC : C.length ≤ n := by
                have h1 := pm.length_eq
                rw [List.length_append] at h1
                omega
              have nd8 := paired_ne_dr p8 e8
              have p9 : Paired (LI H9) as T := paired_keep p8 BL9 fun a ha => by
                have h1 := (hne a ha).1
                have h2 := nac a ha
                have h3 := nd8 a ha
                simp [h1, h2, h3]
              have T9 : Refs H9 t as := BL9 _ _ (by simp [ndt.symm, nlt.symm, ntc]) T8
              refine ⟨_, rfl, .inl ⟨rfl, _, .inl (.inl T9)⟩, _, rfl, t, _, V.ref ch, rfl, rfl, T9, ?_, ?_⟩
              · rw [List.length_map, hp.length, sizeLine_eq]
                omega
              · have Bc := B9.own (o := .lst (as.map V.ref ++ [V.ref ch])) ht0
                have ec := (upd_ne (o := .lst (as.map V.ref ++ [V.ref ch])) ndt).trans e9
                have Lc : LI (upd H9 t (.lst (as.map V.ref ++ [V.ref ch]))) l L' := (upd_ne nlt).trans L9
                have Tc : Refs (upd H9 t (.lst (as.map V.ref ++ [V.ref ch]))) t (as ++ [ch]) := refs_snoc
                have pc : Paired (LI (upd H9 t (.lst (as.map V.ref ++ [V.ref ch])))) (as ++ [ch]) (T ++ [C]) := Paired.snoc (paired_upd p9 fun a ha => (hne a ha).2.1) ((upd_ne ntc.symm).trans c9)
                have nec : ∀ a ∈ as ++ [ch], a ≠ l ∧ a ≠ t ∧ H a = none := fun a ha => by
                  rcases List.mem_append.mp ha with h | h
                  · exact hne a h
                  · rw [List.mem_singleton.mp h]
                    exact ⟨nlc.symm, ntc.symm, hch0⟩
                have gc : Good n ((T ++ [C]).flatten ++ L') := by
                  rw [flat_snoc, List.append_assoc]
                  exact gd.perm (List.Perm.append_left T.flatten pm)
                generalize upd H9 t (.lst (as.map V.ref ++ [V.ref ch])) = Hc at Bc ec Lc Tc pc ⊢
                refine ⟨_, rfl, d, m9, k9, c, rfl, ec, by omega, by omega, fun r7 m7 hr7 => .inl ⟨_, rfl, ?_⟩⟩
                have Bd : But d H (upd Hc d (DrO m7 (k9 + 1) c)) := Bc.draw
                have ed : upd Hc d (DrO m7 (k9 + 1) c) d = some (DrO m7 (k9 + 1) c) := upd_same
                have Ld : LI (upd Hc d (DrO m7 (k9 + 1) c)) l L' := (upd_ne ndl.symm).trans Lc
                have Td : Refs (upd Hc d (DrO m7 (k9 + 1) c)) t (as ++ [ch]) := (upd_ne ndt.symm).trans Tc
                have pd : Paired (LI (upd Hc d (DrO m7 (k9 + 1) c))) (as ++ [ch]) (T ++ [C]) := paired_upd pc (paired_ne_dr pc ec)
                generalize upd Hc d (DrO m7 (k9 + 1) c) = Hd at Bd ed Ld Td pd ⊢
                refine ⟨_, _, rfl, rfl, (by show (0 : Int) < 5; decide), rfl, _, rfl, ?_⟩
                have tl : (T ++ [C]).length = T.length + 1 := by rw [List.length_append, List.length_singleton]
                refine ite2 (fun _ => ?_) (fun _ => ?_)
                · refine ask_ne rfl Ld fun q3 hq3 => ?_
                  have Be := Bd.new (o := .lst []) hq3
                  have ee := (upd_ne (o := .lst []) (ne_of_none ed hq3)).trans ed
                  have Le := Ld.same (same_upd (o := .lst []) hq3)
                  have Te := Td.same (same_upd (o := .lst []) hq3)
                  have pe : Paired (LI (upd Hd q3 (.lst []))) (as ++ [ch]) (T ++ [C]) := paired_upd pd (paired_there pd hq3)
                  generalize upd Hd q3 (.lst []) = He at Be ee Le Te pe ⊢
                  by_cases hLe' : L' = []
                  · rw [decide_eq_true hLe']
                    refine iteF ?_
                    refine ⟨⟨L', T ++ [C], as ++ [ch], _, _, _, _, _, rfl, Le, Te, pe, nec, gc, by omega, Be, m7, k9 + 1, ee, by omega, by omega⟩, ?_⟩
                    show lenAt _ (some (.ref l)) < lenAt _ (some (.ref l))
                    rw [lenAt_of Le, lenAt_of hL]
                    exact lt'
                  · rw [decide_eq_false hLe']
                    refine iteT ?_
                    have Lp' : 0 < L'.length := List.length_pos_iff.mpr hLe'
                    refine ⟨_, rfl, .inl ⟨rfl, _, .inl (.inl Le)⟩, ?_⟩
                    refine ⟨_, rfl, d, m7, k9 + 1, c, rfl, ee, by omega, by omega, fun r8 m8 hr8 => .inl ⟨_, rfl, ?_⟩⟩
                    have Bf : But d H (upd He d (DrO m8 (k9 + 1 + 1) c)) := Be.draw
                    have ef : upd He d (DrO m8 (k9 + 1 + 1) c) d = some (DrO m8 (k9 + 1 + 1) c) := upd_same
                    have Lf : LI (upd He d (DrO m8 (k9 + 1 + 1) c)) l L' := (upd_ne ndl.symm).trans Le
                    have Tf : Refs (upd He d (DrO m8 (k9 + 1 + 1) c)) t (as ++ [ch]) := (upd_ne ndt.symm).trans Te
                    have pf : Paired (LI (upd He d (DrO m8 (k9 + 1 + 1) c))) (as ++ [ch]) (T ++ [C]) := paired_upd pe (paired_ne_dr pe ee)
                    generalize upd He d (DrO m8 (k9 + 1 + 1) c) = Hf at Bf ef Lf Tf pf ⊢
                    refine ⟨_, rfl, l, _, rfl, .inl (SqL.of Lf), ?_⟩
                    rw [li_len]
                    have Lp : (0 : Int) < (L'.length : Int) := by omega
                    refine ⟨_, _, rfl, rfl, Lp, ?_⟩
                    have i0 : 0 ≤ r8 % (L'.length : Int) := Int.emod_nonneg _ (by omega)
                    have i1 : r8 % (L'.length : Int) < (L'.length : Int) := Int.emod_lt_of_pos _ Lp
                    have hix : (r8 % (L'.length : Int)).toNat < L'.length := by omega
                    obtain ⟨x, hx⟩ : ∃ x, L'[(r8 % (L'.length : Int)).toNat]? = some x := ⟨_, List.getElem?_eq_getElem hix⟩
                    refine ⟨l, _, r8 % (L'.length : Int), (r8 % (L'.length : Int)).toNat, V.int x, rfl, rfl, Lf, by omega, by omega, by rw [List.length_map]; exact Kt.seqIndex_of i0 i1, get_map hx, ?_⟩
                    rw [map_erase]
                    have sub : (L'.eraseIdx (r8 % (L'.length : Int)).toNat).Sublist L' := List.eraseIdx_sublist ..
                    have sl := sub.length_le
                    have Lg : LI (upd Hf l (.lst ((L'.eraseIdx (r8 % (L'.length : Int)).toNat).map V.int))) l (L'.eraseIdx (r8 % (L'.length : Int)).toNat) := upd_same
                    refine ⟨⟨_, T ++ [C], as ++ [ch], _, _, _, _, _, rfl, Lg, (upd_ne nlt.symm).trans Tf, paired_upd pf fun a ha => (nec a ha).1, nec, gc.sub (List.Sublist.append_left sub _), by omega, Bf.own hl0, m8, k9 + 1 + 1, (upd_ne ndl).trans ef, by omega, by omega⟩, ?_⟩
                    show lenAt _ (some (.ref l)) < lenAt _ (some (.ref l))
                    rw [lenAt_of Lg, lenAt_of hL]
                    omega
                · refine iteF ?_
                  refine ⟨⟨L', T ++ [C], as ++ [ch], _, _, _, _, _, rfl, Ld, Td, pd, nec, gc, by omega, Bd, m7, k9 + 1, ed, by omega, by omega⟩, ?_⟩
                  show lenAt _ (some (.ref l)) < lenAt _ (some (.ref l))
                  rw [lenAt_of Ld, lenAt_of hL]
                  exact lt'
end
end K01

set_option Elab.async false
set_option linter.all false
set_option maxRecDepth 100000
set_option maxHeartbeats 4000000
namespace Kt
open PySem L2 PyProof.Rows
/-! two arguments by keywords, the other way round -/
def sw {α : Type} : List α → List α → List α
  | [], [x, y] => [y, x]
  | _, _ => []
theorem sw_rel {vs : List V} {us : List Value} {zs : List V} {ws : List Value} (r : Vals vs us) (q : Vals zs ws) : Vals (sw vs zs) (sw us ws) := by
  cases r with
  | cons _ _ => exact .nil
  | nil =>
    cases q with
    | nil => exact .nil
    | cons q1 q =>
      cases q with
      | nil => exact .nil
      | cons q2 q =>
        cases q with
        | nil => exact .cons q2 (.cons q1 .nil)
        | cons _ _ => exact .nil
theorem kb_sw {K : PySem.W.Frag} {x qual : Str} {st : Stmt} {f : Addr} {fd : FuncData} {a b : Str} (F : Fun K x qual st f fd)
    (h : ∀ (kV doc pm : Value) (an : Option Addr) (cdv ct : Value) (u v : Value), bindArgs (PySem.W.fnOf x qual (defArgs st) (defBody st) (defScope st) .none kV doc pm an cdv ct) ⟨[], [(b, u), (a, v)]⟩ = pure [(a, v), (b, u)]) :
    KBinds K fd [a, b] [b, a] sw sw := by
  obtain ⟨oc, od, kV, doc, pm, an, cdv, ct, osl, rfl, lk, hcd⟩ := F.ex
  refine ⟨fun s us ws hK hl => ?_, fun r q => sw_rel r q⟩
  match us, ws, hl with
  | [], [u, v], _ => exact .of_eq (h kV doc pm an cdv ct u v)
/-! data of truth values -/
theorem ok_bl (b : Bool) : Ok 0 5 (.bool b) := by
  refine ⟨by rw [PyData.canLay0], by rw [PyData.showable], by rw [PyData.hasDict], by rw [PyData.depth]; exact Nat.le_refl _, ?_⟩
  rw [PyData.shown]
  cases b <;> decide +kernel
theorem ok_three {D m : Nat} {d e f : PyData} (h : Ok D m d) (h' : Ok D m e) (h2 : Ok D m f) : Ok (D + 1) (3 * (m + 2) + 3) (.list [d, e, f]) := ok_list (ds := [d, e, f]) fun x hx => by
  rcases List.mem_cons.mp hx with rfl | hx
  · exact h
  · rcases List.mem_cons.mp hx with rfl | hx
    · exact h'
    · rcases List.mem_cons.mp hx with rfl | hx
      · exact h2
      · cases hx
/-- the text of a list of things -/
def txt (ds : List PyData) : Str := PyData.shown (.list ds)
/-- repr(x), x a list that stands -/
theorem repr_of {K : PySem.W.Frag} {H : Hp} {p : Addr} {ds : List PyData} {D m : Nat} {Q : VK} (h : Dp K H (.ref p) (.list ds)) (ok : Ok D m (.list ds)) (hD : D ≤ 60) (hm : m ≤ 16000000) (q : Q (.str (txt ds)) H) : rReprD K [.ref p] H Q := by
  unfold rReprD
  exact ⟨p, ds, rfl, h, ok.shw, ok.nod, Nat.le_trans ok.dep hD, Nat.le_trans ok.len (by rw [sizeLine_eq]; omega), q⟩
theorem dp_two {K : PySem.W.Frag} {H : Hp} {p : Addr} {x y : V} {d e : PyData} (h : H p = some (.lst [x, y])) (h1 : Dp K H x d) (h2 : Dp K H y e) : Dp K H (.ref p) (.list [d, e]) := .lst (SqL.of h) (.cons h1 (.cons h2 .nil))
theorem dp_three {K : PySem.W.Frag} {H : Hp} {p : Addr} {x y z : V} {d e f : PyData} (h : H p = some (.lst [x, y, z])) (h1 : Dp K H x d) (h2 : Dp K H y e) (h3 : Dp K H z f) : Dp K H (.ref p) (.list [d, e, f]) := .lst (SqL.of h) (.cons h1 (.cons h2 (.cons h3 .nil)))
theorem iteSS {A B : Prop} {x : V} (h : B) : if (!decide (x = x)) = true then A else B := iteNS rfl h
/-- all ints small -/
def Smalls (xs : List Int) : Prop := ∀ x ∈ xs, Small x
theorem at1_mem {load : List Int} {p : Int} (h1 : 1 ≤ p) (h2 : p ≤ (load.length : Int)) : at1 load p ∈ load := List.mem_of_getElem? (at1_get h1 h2)
theorem put_small (l : List (Int × Int)) : ∀ r : List Int, Smalls r → (∀ q ∈ l, Small q.2) → Smalls (l.foldl put1 r) := by
  induction l with
  | nil => intro r h _; exact h
  | cons q l ih =>
    intro r h hq
    refine ih _ (fun x hx => ?_) fun y hy => hq y (List.mem_cons_of_mem _ hy)
    rcases List.mem_or_eq_of_mem_set hx with h1 | h1
    · exact h x h1
    · rw [h1]
      exact hq q List.mem_cons_self
theorem along_small {load : List Int} (hs : Smalls load) (c : List Int) (hc : ∀ x ∈ c, 1 ≤ x ∧ x ≤ (load.length : Int)) (r : List Int) (hr : Smalls r) : Smalls (along1 load r c) := by
  refine put_small _ _ hr fun q hq => ?_
  have h2 := (List.of_mem_zip hq).2
  have h3 := (srt_perm _).mem_iff.mp h2
  obtain ⟨p, hp, e⟩ := List.mem_map.mp h3
  rw [← e]
  exact hs _ (at1_mem (hc p hp).1 (hc p hp).2)
theorem sortAlong_small {load : List Int} (hs : Smalls load) {f : List (List Int)} (v : Valid load.length f) : Smalls (sortAlong load f) := by
  unfold sortAlong
  have rg := v.rg
  clear v
  have : ∀ r : List Int, Smalls r → Smalls (f.foldl (along1 load) r) := by
    induction f with
    | nil => intro r h; exact h
    | cons c f ih =>
      intro r h
      rw [List.flatten_cons] at rg
      exact ih (fun x hx => rg x (List.mem_append_right _ hx)) _ (along_small hs c (fun x hx => rg x (List.mem_append_left _ hx)) r h)
  exact this load hs
theorem afterRow_small : ∀ (r : List (List (List Int))) (load : List Int), Smalls load → (∀ f ∈ r, Valid load.length f) → Smalls (afterRow load r)
  | [], _, h, _ => h
  | f :: r, load, h, v => by
    have e : afterRow load (f :: r) = afterRow (sortAlong load f) r := rfl
    rw [e]
    exact afterRow_small r _ (sortAlong_small h (v f List.mem_cons_self)) fun g hg => by rw [sortAlong_len]; exact v g (List.mem_cons_of_mem _ hg)
end Kt
namespace K01
open PySem L2 Kt PyProof.Rows
section
variable {P : Program} {w : World} {K : PySem.W.Frag} {mg : Str → Option Value} {base : Heap}
/-- how a def of the text stands, and its promise -/
structure At (P : Program) (w : World) (K : PySem.W.Frag) (mg : Str → Option Value) (base : Heap) (k : Nat) (x : Str) (ps : List Str) (sp : Sp) (f : Addr) (fd : FuncData) : Prop where
  ok : FnOk P w K mg base CX0 k f fd ps sp
  bd : Binds K fd ps []
  at_ : mg x = some (.ref f)
  kp : PySem.W.keepIn K (.ref f) = true
def spRight : Sp := fun vs H Q _ => ∃ (a b : Addr) (xs : List Int) (fm : List (List Int)), vs = [.ref a, .ref b] ∧ LI H a xs ∧ Fam H b fm ∧ Valid xs.length fm ∧ 1 ≤ xs.length ∧ xs.length ≤ 40 ∧ Smalls xs ∧ fm.length ≤ 80 ∧ ∀ H', Same H H' → Q (.bl true) H'
theorem scRight : FnScope ["load", "chains", "kept", "due", "told", "whether", "both"] ["load", "chains"] (defScope sLRight) := ⟨rfl, rfl, rfl, by decide +kernel, rfl, by decide +kernel, by decide +kernel⟩
theorem ok_right {f c1 c2 c3 c4 : Addr} {fd d1 d2 d3 d4 : FuncData} (F : Fun K "_law_right" "_law_right" sLRight f fd) (N : Nb mg)
    (A1 : At P w K mg base 1 "_law_sorted" ["load", "chains"] spAlong c1 d1) (A2 : At P w K mg base 5 "sort_by" ["filling", "family"] spSortBy c2 d2) (A3 : At P w K mg base 1 "_law_is" ["load", "chains"] spAsc c3 d3)
    (A4 : At P w K mg base 5 "is_sorted_by" ["filling", "family"] spIsBy c4 d4) (kb2 : KBinds K d2 ["filling", "family"] ["family", "filling"] sw sw) (kb4 : KBinds K d4 ["filling", "family"] ["family", "filling"] sw sw) :
    FnG P w K mg base 6 f fd ["load", "chains"] spRight := by
  refine fnG_of F scRight (fun vs H Q h => ?_) (fun cdv A outer s H vs Q hr gu h => ?_)
  · obtain ⟨a, b, xs, fm, rfl, _⟩ := h
    rfl
  · obtain ⟨a, b, xs, fm, rfl, hx, hf, v, h1, h40, sm, hl, k⟩ := h
    have hr1 : Room 1 _ := hr.mono (by decide)
    have RP := call_reprD (X := (cxOf CX0 P w K mg base ["load", "chains", "kept", "due", "told", "whether", "both"] "_law_right" (defScope sLRight) f cdv A outer s H E0).nox) gu hr.units
    refine ⟨_, pss_cons (ps_set (i := 2) scRight.nd rfl (.inl rfl) (pe_callB RP (by rfl) N.repr (by decide +kernel) (pa_cons (pe_lst (pa_cons (pv 0) (pa_cons (pv 1) pa_nil))) pa_nil)))
      (pss_cons (ps_set (i := 3) scRight.nd rfl (.inl rfl) (pe_call A1.ok hr1 (by rfl) A1.at_ A1.kp A1.bd .nil pass0 (pa_cons (pv 0) (pa_cons (pv 1) pa_nil))))
      (pss_cons (ps_set (i := 4) scRight.nd rfl (.inl rfl) (pe_lst (pa_cons (pe_call A2.ok hr (by rfl) A2.at_ A2.kp A2.bd .nil pass0 (pa_cons (pv 0) (pa_cons (pv 1) pa_nil)))
        (pa_cons (pe_callK0 A2.ok hr (by rfl) A2.at_ A2.kp kb2 (pk_cons (pv 1) (pk_cons (pv 0) pk_nil))) pa_nil))))
      (pss_cons (ps_if (PW.pt (pw_or (pt_cmpR op_ne (pe_callB RP (by rfl) N.repr (by decide +kernel) (pa_cons (pv 4) pa_nil)) (pe_callB RP (by rfl) N.repr (by decide +kernel) (pa_cons (pe_lst (pa_cons (pv 3) (pa_cons (pv 3) pa_nil))) pa_nil)) (nomark _))
          (pw_or1 (pt_cmpR op_ne (pe_callB RP (by rfl) N.repr (by decide +kernel) (pa_cons (pe_lst (pa_cons (pv 0) (pa_cons (pv 1) pa_nil))) pa_nil)) (pv 2) (nomark _))))) (pss_one (ps_ret pe_bl)) pss_nil)
      (pss_cons (ps_expr (pe_bm PySem.F.plainAttrs_list PySem.F.slot_list_append PySem.F.type_list_append mt_append (pe_ix ix_list (pv 4) pe_int (fun _ _ => rfl)) (pa_cons pe_non pa_nil)))
      (pss_cons (ps_set (i := 5) scRight.nd rfl (.inl rfl) (pe_call A3.ok hr1 (by rfl) A3.at_ A3.kp A3.bd .nil pass0 (pa_cons (pv 0) (pa_cons (pv 1) pa_nil))))
      (pss_cons (ps_set (i := 6) scRight.nd rfl (.inl rfl) (pe_lst (pa_cons (pe_call A4.ok hr (by rfl) A4.at_ A4.kp A4.bd .nil pass0 (pa_cons (pv 0) (pa_cons (pv 1) pa_nil)))
        (pa_cons (pe_callK0 A4.ok hr (by rfl) A4.at_ A4.kp kb4 (pk_cons (pv 1) (pk_cons (pv 0) pk_nil)))
        (pa_cons (pe_call A4.ok hr (by rfl) A4.at_ A4.kp A4.bd .nil pass0 (pa_cons (pv 3) (pa_cons (pv 1) pa_nil))) pa_nil)))))
      (pss_cons (ps_if (pt_cmpR op_ne (pe_callB RP (by rfl) N.repr (by decide +kernel) (pa_cons (pv 6) pa_nil)) (pe_callB RP (by rfl) N.repr (by decide +kernel) (pa_cons (pe_lst (pa_cons (pv 5) (pa_cons (pv 5) (pa_cons pe_bl pa_nil)))) pa_nil)) (nomark _)) (pss_one (ps_ret pe_bl)) pss_nil)
      (pss_one (ps_ret (pe_and (pe_cmpR op_eq (pe_callB RP (by rfl) N.repr (by decide +kernel) (pa_cons (pe_call A2.ok hr (by rfl) A2.at_ A2.kp A2.bd .nil pass0 (pa_cons (pv 0) (pa_cons (pv 1) pa_nil))) pa_nil)) (pe_callB RP (by rfl) N.repr (by decide +kernel) (pa_cons (pv 3) pa_nil)) (nomark _))
        (pe_one (pe_cmpR op_eq (pe_callB RP (by rfl) N.repr (by decide +kernel) (pa_cons (pe_lst (pa_cons (pv 0) (pa_cons (pv 1) pa_nil))) pa_nil)) (pv 2) (nomark _))))))))))))), ?_⟩
    have two : 2 ≤ sizeLine := by decide
    have ys40 : (sortAlong xs fm).length ≤ 40 := by rw [sortAlong_len]; exact h40
    have okX := ok_dL h40 sm
    have okF := (ok_dF v h40 hl).mono (Nat.le_refl _) (by decide : 80 * 2565 + 3 ≤ 205203)
    have okXF := ok_two (okX.mono (by decide) (by decide : 40 * 64 + 3 ≤ 205203)) okF
    have okY := ok_dL ys40 (sortAlong_small sm v)
    have okYY := ok_two okY okY
    -- kept
    refine ⟨_, rfl, _, rfl, two, fun p1 hp1 => ?_⟩
    have s1 : Same H (upd H p1 (.lst [.ref a, .ref b])) := same_upd hp1
    have q1 : upd H p1 (.lst [.ref a, .ref b]) p1 = some (.lst [.ref a, .ref b]) := upd_same
    generalize upd H p1 (.lst [.ref a, .ref b]) = H1 at s1 q1
    refine repr_of (dp_two q1 (hx.same s1).dp (hf.same s1).dp) okXF (by decide) (by decide) ?_
    -- due
    refine ⟨_, rfl, _, rfl, a, b, xs, fm, rfl, hx.same s1, hf.same s1, v, h40, fun H2 due s2 hdue0 hdue => ?_⟩
    have s12 := s1.trans s2
    -- told
    refine ⟨_, rfl, _, rfl, a, b, xs, fm, rfl, hx.same s12, hf.same s12, v, h1, h40, fun H3 r1 s3 hr10 hr1L => ?_⟩
    have s13 := s12.trans s3
    refine ⟨_, rfl, _, rfl, a, b, xs, fm, rfl, hx.same s13, hf.same s13, v, h1, h40, fun H4 r2 s4 hr20 hr2L => ?_⟩
    have s14 := s13.trans s4
    refine ⟨two, fun t ht => ?_⟩
    have s5 : Same H4 (upd H4 t (.lst [.ref r1, .ref r2])) := same_upd ht
    have t5 : upd H4 t (.lst [.ref r1, .ref r2]) t = some (.lst [.ref r1, .ref r2]) := upd_same
    generalize upd H4 t (.lst [.ref r1, .ref r2]) = H5 at s5 t5
    have s15 := s14.trans s5
    have due5 := hdue.same ((s3.trans s4).trans s5)
    refine ⟨_, rfl, repr_of (dp_two t5 (hr1L.same (s4.trans s5)).dp (hr2L.same s5).dp) okYY (by decide) (by decide) ?_⟩
    refine ⟨_, rfl, _, rfl, two, fun p6 hp6 => ?_⟩
    have s6 : Same H5 (upd H5 p6 (.lst [.ref due, .ref due])) := same_upd hp6
    have q6 : upd H5 p6 (.lst [.ref due, .ref due]) p6 = some (.lst [.ref due, .ref due]) := upd_same
    generalize upd H5 p6 (.lst [.ref due, .ref due]) = H6 at s6 q6
    refine repr_of (dp_two q6 (due5.same s6).dp (due5.same s6).dp) okYY (by decide) (by decide) ?_
    refine ⟨rfl, _, rfl, iteSS ?_⟩
    have s16 := s15.trans s6
    refine ⟨_, rfl, _, rfl, two, fun p7 hp7 => ?_⟩
    have s7 : Same H6 (upd H6 p7 (.lst [.ref a, .ref b])) := same_upd hp7
    have q7 : upd H6 p7 (.lst [.ref a, .ref b]) p7 = some (.lst [.ref a, .ref b]) := upd_same
    generalize upd H6 p7 (.lst [.ref a, .ref b]) = H7 at s7 q7
    have s17 := s16.trans s7
    refine repr_of (dp_two q7 (hx.same s17).dp (hf.same s17).dp) okXF (by decide) (by decide) ?_
    refine ⟨_, rfl, rfl, _, rfl, iteSS ?_⟩
    -- told[0].append(None)
    have t7 := s7 _ _ (s6 _ _ t5)
    have r17 := hr1L.same (((s4.trans s5).trans s6).trans s7)
    refine ⟨_, rfl, _, _, _, _, rfl, rfl, SqL.of t7, (rfl : atI [V.ref r1, V.ref r2] 0 = some (V.ref r1)), .inl ⟨rfl, _, .inl (.inl r17)⟩, r1, _, _, rfl, rfl, r17, ?_, ?_⟩
    · rw [List.length_map, sizeLine_eq]
      omega
    · have s27 := (((s3.trans s4).trans s5).trans s6).trans s7
      have s28 : Same H2 (upd H7 r1 (.lst ((sortAlong xs fm).map V.int ++ [V.non]))) := fun x o e => (upd_ne (ne_of_none e hr10)).trans (s27 x o e)
      generalize upd H7 r1 (.lst ((sortAlong xs fm).map V.int ++ [V.non])) = H8 at s28
      have s18 := s12.trans s28
      have due8 := hdue.same s28
      refine ⟨_, rfl, _, rfl, a, b, xs, fm, rfl, hx.same s18, hf.same s18, v, fun H9 s9 => ?_⟩
      have s19 := s18.trans s9
      refine ⟨_, rfl, _, rfl, a, b, xs, fm, rfl, hx.same s19, hf.same s19, v, h1, h40, fun Ha sa => ?_⟩
      have s1a := s19.trans sa
      refine ⟨_, rfl, _, rfl, a, b, xs, fm, rfl, hx.same s1a, hf.same s1a, v, h1, h40, fun Hb sb => ?_⟩
      have s1b := s1a.trans sb
      have dueb := due8.same ((s9.trans sa).trans sb)
      have ly : (sortAlong xs fm).length = xs.length := sortAlong_len _ _
      refine ⟨_, rfl, _, rfl, due, b, sortAlong xs fm, fm, rfl, dueb, hf.same s1b, by rw [ly]; exact v, by omega, by omega, fun Hc sc => ?_⟩
      rw [sorted_after v]
      have s1c := s1b.trans sc
      refine ⟨by show 3 ≤ sizeLine; decide, fun bo hbo => ?_⟩
      have sd : Same Hc (upd Hc bo (.lst [.bl (isSorted xs fm), .bl (isSorted xs fm), .bl true])) := same_upd hbo
      have qd : upd Hc bo (.lst [.bl (isSorted xs fm), .bl (isSorted xs fm), .bl true]) bo = some (.lst [.bl (isSorted xs fm), .bl (isSorted xs fm), .bl true]) := upd_same
      generalize upd Hc bo (.lst [.bl (isSorted xs fm), .bl (isSorted xs fm), .bl true]) = Hd at sd qd
      have okB := ok_three (ok_bl (isSorted xs fm)) (ok_bl (isSorted xs fm)) (ok_bl true)
      refine ⟨_, rfl, repr_of (dp_three qd (.bl _) (.bl _) (.bl _)) okB (by decide) (by decide) ?_⟩
      refine ⟨_, rfl, _, rfl, by show 3 ≤ sizeLine; decide, fun pe hpe => ?_⟩
      have se : Same Hd (upd Hd pe (.lst [.bl (isSorted xs fm), .bl (isSorted xs fm), .bl true])) := same_upd hpe
      have qe : upd Hd pe (.lst [.bl (isSorted xs fm), .bl (isSorted xs fm), .bl true]) pe = some (.lst [.bl (isSorted xs fm), .bl (isSorted xs fm), .bl true]) := upd_same
      generalize upd Hd pe (.lst [.bl (isSorted xs fm), .bl (isSorted xs fm), .bl true]) = He at se qe
      refine repr_of (dp_three qe (.bl _) (.bl _) (.bl _)) okB (by decide) (by decide) ?_
      refine ⟨rfl, _, rfl, iteSS ?_⟩
      have s1e := (s1c.trans sd).trans se
      have duee := dueb.same ((sc.trans sd).trans se)
      refine ⟨_, rfl, _, rfl, a, b, xs, fm, rfl, hx.same s1e, hf.same s1e, v, h1, h40, fun Hf r sf hr0 hrL => ?_⟩
      refine repr_of (ds := (sortAlong xs fm).map PyData.int) hrL.dp okY (by decide) (by decide) ?_
      refine ⟨_, rfl, repr_of (ds := (sortAlong xs fm).map PyData.int) (duee.same sf).dp okY (by decide) (by decide) ?_⟩
      refine ⟨rfl, _, rfl, ?_⟩
      refine ite2 (fun _ => ?_) (fun z => absurd (decide_eq_true rfl) z)
      have s1f := s1e.trans sf
      refine ⟨_, rfl, _, rfl, two, fun pg hpg => ?_⟩
      have sg : Same Hf (upd Hf pg (.lst [.ref a, .ref b])) := same_upd hpg
      have qg : upd Hf pg (.lst [.ref a, .ref b]) pg = some (.lst [.ref a, .ref b]) := upd_same
      generalize upd Hf pg (.lst [.ref a, .ref b]) = Hg at sg qg
      have s1g := s1f.trans sg
      refine repr_of (dp_two qg (hx.same s1g).dp (hf.same s1g).dp) okXF (by decide) (by decide) ?_
      refine ⟨_, rfl, rfl, ?_⟩
      have fin := k Hg s1g
      rw [← (decide_eq_true rfl : decide (V.str (txt [dL xs, dF fm]) = V.str (txt [dL xs, dF fm])) = true)] at fin
      exact fin
end
end K01

set_option Elab.async false
set_option linter.all false
set_option maxRecDepth 100000
set_option maxHeartbeats 4000000
namespace K01
open PySem L2 Kt PyProof.Rows
section
variable {P : Program} {w : World} {K : PySem.W.Frag} {mg : Str → Option Value} {base : Heap}
def spRowRight : Sp := fun vs H Q _ => ∃ (a b : Addr) (xs : List Int) (r : List (List (List Int))), vs = [.ref a, .ref b] ∧ LI H a xs ∧ RowA H b r ∧ (∀ f ∈ r, Valid xs.length f) ∧ 1 ≤ xs.length ∧ xs.length ≤ 40 ∧ Smalls xs ∧ (∀ f ∈ r, f.length ≤ 80) ∧ r.length ≤ 10 ∧
  ∀ H', Same H H' → Q (.bl true) H'
theorem scRowRight : FnScope ["load", "line", "kept", "due", "told"] ["load", "line"] (defScope sLRowRight) := ⟨rfl, rfl, rfl, by decide +kernel, rfl, by decide +kernel, by decide +kernel⟩
theorem ok_rowRight {f c1 c2 : Addr} {fd d1 d2 : FuncData} (F : Fun K "_law_row_right" "_law_row_right" sLRowRight f fd) (N : Nb mg)
    (A1 : At P w K mg base 2 "_law_after" ["load", "line"] spLAfter c1 d1) (A2 : At P w K mg base 5 "after_row" ["filling", "row"] spAfter c2 d2) (kb2 : KBinds K d2 ["filling", "row"] ["row", "filling"] sw sw) :
    FnG P w K mg base 6 f fd ["load", "line"] spRowRight := by
  refine fnG_of F scRowRight (fun vs H Q h => ?_) (fun cdv A outer s H vs Q hr gu h => ?_)
  · obtain ⟨a, b, xs, fm, rfl, _⟩ := h
    rfl
  · obtain ⟨a, b, xs, r, rfl, hx, hf, v, h1, h40, sm, hm, hl, k⟩ := h
    have hr2 : Room 2 _ := hr.mono (by decide)
    have RP := call_reprD (X := (cxOf CX0 P w K mg base ["load", "line", "kept", "due", "told"] "_law_row_right" (defScope sLRowRight) f cdv A outer s H E0).nox) gu hr.units
    refine ⟨_, pss_cons (ps_set (i := 2) scRowRight.nd rfl (.inl rfl) (pe_callB RP (by rfl) N.repr (by decide +kernel) (pa_cons (pe_lst (pa_cons (pv 0) (pa_cons (pv 1) pa_nil))) pa_nil)))
      (pss_cons (ps_set (i := 3) scRowRight.nd rfl (.inl rfl) (pe_call A1.ok hr2 (by rfl) A1.at_ A1.kp A1.bd .nil pass0 (pa_cons (pv 0) (pa_cons (pv 1) pa_nil))))
      (pss_cons (ps_set (i := 4) scRowRight.nd rfl (.inl rfl) (pe_lst (pa_cons (pe_call A2.ok hr (by rfl) A2.at_ A2.kp A2.bd .nil pass0 (pa_cons (pv 0) (pa_cons (pv 1) pa_nil)))
        (pa_cons (pe_callK0 A2.ok hr (by rfl) A2.at_ A2.kp kb2 (pk_cons (pv 1) (pk_cons (pv 0) pk_nil))) pa_nil))))
      (pss_cons (ps_if (PW.pt (pw_or (pt_cmpR op_ne (pe_callB RP (by rfl) N.repr (by decide +kernel) (pa_cons (pv 4) pa_nil)) (pe_callB RP (by rfl) N.repr (by decide +kernel) (pa_cons (pe_lst (pa_cons (pv 3) (pa_cons (pv 3) pa_nil))) pa_nil)) (nomark _))
          (pw_or1 (pt_cmpR op_ne (pe_callB RP (by rfl) N.repr (by decide +kernel) (pa_cons (pe_lst (pa_cons (pv 0) (pa_cons (pv 1) pa_nil))) pa_nil)) (pv 2) (nomark _))))) (pss_one (ps_ret pe_bl)) pss_nil)
      (pss_cons (ps_expr (pe_bm PySem.F.plainAttrs_list PySem.F.slot_list_append PySem.F.type_list_append mt_append (pe_ix ix_list (pv 4) pe_int (fun _ _ => rfl)) (pa_cons pe_non pa_nil)))
      (pss_one (ps_ret (pe_and (pe_cmpR op_eq (pe_callB RP (by rfl) N.repr (by decide +kernel) (pa_cons (pe_call A2.ok hr (by rfl) A2.at_ A2.kp A2.bd .nil pass0 (pa_cons (pv 0) (pa_cons (pv 1) pa_nil))) pa_nil)) (pe_callB RP (by rfl) N.repr (by decide +kernel) (pa_cons (pv 3) pa_nil)) (nomark _))
        (pe_one (pe_cmpR op_eq (pe_callB RP (by rfl) N.repr (by decide +kernel) (pa_cons (pe_lst (pa_cons (pv 0) (pa_cons (pv 1) pa_nil))) pa_nil)) (pv 2) (nomark _)))))))))), ?_⟩
    have two : 2 ≤ sizeLine := by decide
    have ly : (afterRow xs r).length = xs.length := afterRow_len _ _
    have okX := ok_dL h40 sm
    have okF := ok_dR v h40 hm hl
    have okXF := ok_two (okX.mono (by decide) (by decide : 40 * 64 + 3 ≤ 2052063)) okF
    have okY := ok_dL (xs := afterRow xs r) (n := 40) (by omega) (afterRow_small r xs sm v)
    have okYY := ok_two okY okY
    refine ⟨_, rfl, _, rfl, two, fun p1 hp1 => ?_⟩
    have s1 : Same H (upd H p1 (.lst [.ref a, .ref b])) := same_upd hp1
    have q1 : upd H p1 (.lst [.ref a, .ref b]) p1 = some (.lst [.ref a, .ref b]) := upd_same
    generalize upd H p1 (.lst [.ref a, .ref b]) = H1 at s1 q1
    refine repr_of (dp_two q1 (hx.same s1).dp (hf.same s1).dp) okXF (by decide) (by decide) ?_
    refine ⟨_, rfl, _, rfl, a, b, xs, r, rfl, hx.same s1, hf.same s1, v, h40, fun H2 due s2 hdue0 hdue => ?_⟩
    have s12 := s1.trans s2
    refine ⟨_, rfl, _, rfl, a, b, xs, r, rfl, hx.same s12, hf.same s12, v, h1, h40, fun H3 r1 s3 hr10 hr1L => ?_⟩
    have s13 := s12.trans s3
    refine ⟨_, rfl, _, rfl, a, b, xs, r, rfl, hx.same s13, hf.same s13, v, h1, h40, fun H4 r2 s4 hr20 hr2L => ?_⟩
    have s14 := s13.trans s4
    refine ⟨two, fun t ht => ?_⟩
    have s5 : Same H4 (upd H4 t (.lst [.ref r1, .ref r2])) := same_upd ht
    have t5 : upd H4 t (.lst [.ref r1, .ref r2]) t = some (.lst [.ref r1, .ref r2]) := upd_same
    generalize upd H4 t (.lst [.ref r1, .ref r2]) = H5 at s5 t5
    have s15 := s14.trans s5
    have due5 := hdue.same ((s3.trans s4).trans s5)
    refine ⟨_, rfl, repr_of (dp_two t5 (hr1L.same (s4.trans s5)).dp (hr2L.same s5).dp) okYY (by decide) (by decide) ?_⟩
    refine ⟨_, rfl, _, rfl, two, fun p6 hp6 => ?_⟩
    have s6 : Same H5 (upd H5 p6 (.lst [.ref due, .ref due])) := same_upd hp6
    have q6 : upd H5 p6 (.lst [.ref due, .ref due]) p6 = some (.lst [.ref due, .ref due]) := upd_same
    generalize upd H5 p6 (.lst [.ref due, .ref due]) = H6 at s6 q6
    refine repr_of (dp_two q6 (due5.same s6).dp (due5.same s6).dp) okYY (by decide) (by decide) ?_
    refine ⟨rfl, _, rfl, iteSS ?_⟩
    have s16 := s15.trans s6
    refine ⟨_, rfl, _, rfl, two, fun p7 hp7 => ?_⟩
    have s7 : Same H6 (upd H6 p7 (.lst [.ref a, .ref b])) := same_upd hp7
    have q7 : upd H6 p7 (.lst [.ref a, .ref b]) p7 = some (.lst [.ref a, .ref b]) := upd_same
    generalize upd H6 p7 (.lst [.ref a, .ref b]) = H7 at s7 q7
    have s17 := s16.trans s7
    refine repr_of (dp_two q7 (hx.same s17).dp (hf.same s17).dp) okXF (by decide) (by decide) ?_
    refine ⟨_, rfl, rfl, _, rfl, iteSS ?_⟩
    have t7 := s7 _ _ (s6 _ _ t5)
    have r17 := hr1L.same (((s4.trans s5).trans s6).trans s7)
    refine ⟨_, rfl, _, _, _, _, rfl, rfl, SqL.of t7, (rfl : atI [V.ref r1, V.ref r2] 0 = some (V.ref r1)), .inl ⟨rfl, _, .inl (.inl r17)⟩, r1, _, _, rfl, rfl, r17, ?_, ?_⟩
    · rw [List.length_map, sizeLine_eq]
      omega
    · have s27 := (((s3.trans s4).trans s5).trans s6).trans s7
      have s28 : Same H2 (upd H7 r1 (.lst ((afterRow xs r).map V.int ++ [V.non]))) := fun x o e => (upd_ne (ne_of_none e hr10)).trans (s27 x o e)
      generalize upd H7 r1 (.lst ((afterRow xs r).map V.int ++ [V.non])) = H8 at s28
      have s18 := s12.trans s28
      have due8 := hdue.same s28
      refine ⟨_, rfl, _, rfl, a, b, xs, r, rfl, hx.same s18, hf.same s18, v, h1, h40, fun Hf rr sf hr0 hrL => ?_⟩
      refine repr_of (ds := (afterRow xs r).map PyData.int) hrL.dp okY (by decide) (by decide) ?_
      refine ⟨_, rfl, repr_of (ds := (afterRow xs r).map PyData.int) (due8.same sf).dp okY (by decide) (by decide) ?_⟩
      refine ⟨rfl, _, rfl, ?_⟩
      refine ite2 (fun _ => ?_) (fun z => absurd (decide_eq_true rfl) z)
      have s1f := s18.trans sf
      refine ⟨_, rfl, _, rfl, two, fun pg hpg => ?_⟩
      have sg : Same Hf (upd Hf pg (.lst [.ref a, .ref b])) := same_upd hpg
      have qg : upd Hf pg (.lst [.ref a, .ref b]) pg = some (.lst [.ref a, .ref b]) := upd_same
      generalize upd Hf pg (.lst [.ref a, .ref b]) = Hg at sg qg
      have s1g := s1f.trans sg
      refine repr_of (dp_two qg (hx.same s1g).dp (hf.same s1g).dp) okXF (by decide) (by decide) ?_
      refine ⟨_, rfl, rfl, ?_⟩
      have fin := k Hg s1g
      rw [← (decide_eq_true rfl : decide (V.str (txt [dL xs, dR r]) = V.str (txt [dL xs, dR r])) = true)] at fin
      exact fin
end
end K01

set_option Elab.async false
set_option linter.all false
set_option maxRecDepth 100000
set_option maxHeartbeats 8000000
namespace Kt
open PySem L2 PyProof.Rows
theorem cut_take (xs : List V) (k : Nat) : cutV xs none (some (k : Int)) = xs.take k := by
  unfold cutV
  have e1 : HT.sIx xs.length 0 none = 0 := rfl
  have e2 : HT.sIx xs.length xs.length (some (k : Int)) = min k xs.length := HT.sIx_nat ..
  rw [e1, e2, List.drop_zero, Nat.sub_zero]
  rw [Nat.min_def]
  split
  · rfl
  · rw [List.take_length]
    exact (List.take_of_length_le (by omega)).symm
theorem srt2 (a b : Int) : srt [a, b] = if a ≤ b then [a, b] else [b, a] := by
  split
  · rename_i h
    exact (srt_of (.refl _) (List.pairwise_pair.mpr h)).symm
  · rename_i h
    exact (srt_of (.swap _ _ _) (List.pairwise_pair.mpr (by omega))).symm
/-- a display of ints, told -/
theorem disp_li {H : Hp} {p : Addr} (hp : H p = none) (xs : List Int) : ∃ H1, upd H p (.lst (xs.map V.int)) = H1 ∧ Same H H1 ∧ LI H1 p xs := ⟨_, rfl, same_upd hp, upd_same⟩
theorem disp_refs {H : Hp} {p : Addr} (hp : H p = none) (as : List Addr) : ∃ H1, upd H p (.lst (as.map V.ref)) = H1 ∧ Same H H1 ∧ Refs H1 p as := ⟨_, rfl, same_upd hp, upd_same⟩
theorem small_nat {x : Int} (h : x.natAbs ≤ 1000) : Small x := Nat.lt_of_le_of_lt h (by decide +kernel)
theorem valid_dec {n : Nat} {f : List (List Int)} (h1 : f.flatten.Nodup) (h2 : (f.flatten.all fun x => decide (1 ≤ x) && decide (x ≤ (n : Int))) = true) : Valid n f := ⟨h1, fun x hx => by
  have := List.all_eq_true.mp h2 x hx
  simpa using this⟩
theorem smalls_dec {xs : List Int} (h : (xs.all fun x => decide (x.natAbs ≤ 1000)) = true) : Smalls xs := fun x hx => small_nat (by
  have := List.all_eq_true.mp h x hx
  simpa using this)
theorem row1 : afterRow [4, 3, 2, 1] [[[1, 2], [3, 4]], [[1, 3], [2, 4]]] = [1, 2, 3, 4] := by
  have e1 : sortAlong [4, 3, 2, 1] [[1, 2], [3, 4]] = put (put [4, 3, 2, 1] [1, 2] (srt [4, 3])) [3, 4] (srt [2, 1]) := rfl
  have e2 : sortAlong [4, 3, 2, 1] [[1, 2], [3, 4]] = [3, 4, 1, 2] := by rw [e1, srt2, srt2]; rfl
  have e3 : sortAlong [3, 4, 1, 2] [[1, 3], [2, 4]] = put (put [3, 4, 1, 2] [1, 3] (srt [3, 1])) [2, 4] (srt [4, 2]) := rfl
  have e4 : sortAlong [3, 4, 1, 2] [[1, 3], [2, 4]] = [1, 2, 3, 4] := by rw [e3, srt2, srt2]; rfl
  have e5 : afterRow [4, 3, 2, 1] [[[1, 2], [3, 4]], [[1, 3], [2, 4]]] = sortAlong (sortAlong [4, 3, 2, 1] [[1, 2], [3, 4]]) [[1, 3], [2, 4]] := rfl
  rw [e5, e2, e4]
theorem sort1 : sortAlong [3, 1, 2] [[1, 3]] = [2, 1, 3] := by
  have e : sortAlong [3, 1, 2] [[1, 3]] = put [3, 1, 2] [1, 3] (srt [3, 2]) := rfl
  rw [e, srt2]
  rfl
end Kt
namespace K01
open PySem L2 Kt PyProof.Rows
section
variable {P : Program} {w : World} {K : PySem.W.Frag} {mg : Str → Option Value} {base : Heap}
structure AtG (P : Program) (w : World) (K : PySem.W.Frag) (mg : Str → Option Value) (base : Heap) (k : Nat) (x : Str) (ps : List Str) (sp : Sp) (f : Addr) (fd : FuncData) : Prop where
  ok : FnG P w K mg base k f fd ps sp
  bd : Binds K fd ps []
  at_ : mg x = some (.ref f)
  kp : PySem.W.keepIn K (.ref f) = true
def spLaw (K : PySem.W.Frag) : Sp := fun vs H Q _ => ∃ (a : Addr) (ns : List Int), vs = [.ref a] ∧ SqL K H a (ns.map V.int) ∧ ns.length ≤ 63 ∧ ∀ H', Q (.bl true) H'
theorem scLaw : FnScope ["script", "draws", "most", "many", "load", "line", "cell", "turn", "one"] ["script"] (defScope sLaw) := ⟨rfl, rfl, rfl, by decide +kernel, rfl, by decide +kernel, by decide +kernel⟩
/-- how far the draws are -/
def Dws (H : Hp) (as : List Addr) (b : Int) : Prop := ∀ a ∈ as, ∃ n k c, H a = some (DrO n k c) ∧ 0 ≤ k ∧ k ≤ b
theorem Dws.mono {H : Hp} {as : List Addr} {b b' : Int} (h : Dws H as b) (hb : b ≤ b') : Dws H as b' := fun a ha => let ⟨n, k, c, e, h1, h2⟩ := h a ha; ⟨n, k, c, e, h1, by omega⟩
theorem Dws.same {H H' : Hp} {as : List Addr} {b : Int} (h : Dws H as b) (s : Same H H') : Dws H' as b := fun a ha => let ⟨n, k, c, e, h1, h2⟩ := h a ha; ⟨n, k, c, s _ _ e, h1, h2⟩
theorem Dws.but {H H' : Hp} {as : List Addr} {b : Int} {d : Addr} {n k : Int} {c : Bool} (h : Dws H as b) (s : But d H H') (e : H' d = some (DrO n k c)) (h0 : 0 ≤ k) (h1 : k ≤ b) : Dws H' as b := fun a ha => by
  by_cases z : a = d
  · rw [z]
    exact ⟨n, k, c, e, h0, h1⟩
  · obtain ⟨n', k', c', e', h2, h3⟩ := h a ha
    exact ⟨n', k', c', s _ _ z e', h2, h3⟩
/-- families at places, none of them at D, nor their chains -/
def FamX (H : Hp) (D a : Addr) (f : List (List Int)) : Prop := a ≠ D ∧ ∃ as, Refs H a as ∧ Paired (LI H) as f ∧ ∀ x ∈ as, x ≠ D
theorem FamX.fam {H : Hp} {D a : Addr} {f : List (List Int)} (h : FamX H D a f) : Fam H a f := let ⟨_, as, h1, h2, _⟩ := h; ⟨as, h1, h2⟩
theorem FamX.off {H : Hp} {D a : Addr} {f : List (List Int)} {o : HO} (h : FamX H D a f) : FamX (upd H D o) D a f := let ⟨h0, as, h1, h2, h3⟩ := h; ⟨h0, as, (upd_ne h0).trans h1, paired_upd h2 h3, h3⟩
theorem FamX.but {H H' : Hp} {D a d : Addr} {f : List (List Int)} {n k : Int} {c : Bool} (h : FamX H D a f) (hd : H d = some (DrO n k c)) (s : But d H H') : FamX H' D a f := let ⟨h0, as, h1, h2, h3⟩ := h; ⟨h0, as, h1.but hd s, Paired.mapP h2 fun _ _ q => q.but hd s, h3⟩
theorem FamN.off {H0 H : Hp} {D a : Addr} {f : List (List Int)} (h : FamN H0 H a f) (ha : H0 a = none) (hD : H0 D ≠ none) : FamX H D a f := let ⟨as, h1, h2, h3⟩ := h; ⟨fun z => hD (z ▸ ha), as, h1, h2, fun x hx z => hD (z ▸ h3 x hx)⟩
theorem fams_off {H : Hp} {D : Addr} {o : HO} {as : List Addr} {r : List (List (List Int))} (p : Paired (FamX H D) as r) : Paired (FamX (upd H D o) D) as r := Paired.mapP p fun _ _ q => q.off
theorem ok_law {f c1 c2 c3 c4 c5 c6 c7 c8 c9 : Addr} {fd d1 d2 d3 d4 d5 d6 d7 d8 d9 : FuncData} (F : Fun K "law" "law" sLaw f fd) (N : Nb mg)
    (A1 : At P w K mg base 1 "_law_draws" ["cell"] spLDraws c1 d1) (A2 : At P w K mg base 1 "_law_next" ["draws"] spLNext c2 d2) (A3 : At P w K mg base 2 "_law_load" ["draws", "many"] spLLoad c3 d3) (A4 : At P w K mg base 2 "_law_family" ["draws", "many"] spLFam c4 d4)
    (A5 : AtG P w K mg base 6 "_law_row_right" ["load", "line"] spRowRight c5 d5) (A6 : AtG P w K mg base 6 "_law_right" ["load", "chains"] spRight c6 d6)
    (A7 : At P w K mg base 5 "after_row" ["filling", "row"] spAfter c7 d7) (A8 : At P w K mg base 5 "sort_by" ["filling", "family"] spSortBy c8 d8) (A9 : At P w K mg base 5 "is_sorted_by" ["filling", "family"] spIsBy c9 d9) :
    FnG P w K mg base 7 f fd ["script"] (spLaw K) := by
  refine fnG_of F scLaw (fun vs H Q h => ?_) (fun cdv A outer s H vs Q hr gu h => ?_)
  · obtain ⟨a, ns, rfl, _⟩ := h
    rfl
  · obtain ⟨a, ns, rfl, hS, hlen, k⟩ := h
    have hr1 : Room 1 _ := hr.mono (by decide)
    have hr2 : Room 2 _ := hr.mono (by decide)
    have hr5 : Room 5 _ := hr.mono (by decide)
    refine ⟨_, pss_cons (ps_for PassesOwn.never rfl (pi_list (pe_lc (own := [("cell", 6)]) (g := gName 6) (tt := tYes) rfl scLaw.nd (pi_list (pe_op op_cat (pe_slice sl_list (pv 0) po_none (po_some pe_int)) (pe_lst (pa_cons pe_int pa_nil))))
          (blkOk_by (N := ["script", "draws", "most", "many", "load", "line", "cell", "turn", "one"]) (sc := defScope sLaw) (by decide +kernel)) (fun _ _ _ _ _ => pg_name (i := 6) scLaw.nd rfl (Or.inl rfl)) (fun _ _ _ _ _ => pts_nil)
          (fun _ _ _ _ _ => pe_call A1.ok hr1 (by rfl) A1.at_ A1.kp A1.bd .nil pass0 (pa_cons (pv 6) pa_nil)))) (pg_name (i := 1) scLaw.nd rfl (.inr rfl))
        (pss_one (ps_for PassesOwn.never rfl (pi_list (pe_lst (pa_cons pe_int (pa_cons pe_int pa_nil)))) (pg_name (i := 2) scLaw.nd rfl (.inl rfl))
          (pss_cons (ps_set (i := 3) scLaw.nd rfl (.inr rfl) (pe_op op_add pe_int (pe_op op_mod (pe_callTy call_int1 (by rfl) N.int (by decide +kernel) (pa_cons (pe_call A2.ok hr1 (by rfl) A2.at_ A2.kp A2.bd .nil pass0 (pa_cons (pv 1) pa_nil)) pa_nil)) (pv 2))))
          (pss_cons (ps_set (i := 4) scLaw.nd rfl (.inr rfl) (pe_call A3.ok hr2 (by rfl) A3.at_ A3.kp A3.bd .nil pass0 (pa_cons (pv 1) (pa_cons (pv 3) pa_nil))))
          (pss_cons (ps_setLc (own := [("turn", 7)]) (g := gName 7) (tt := tYes) (i := 5) rfl scLaw.nd rfl rfl (sw_true rfl rfl rfl (by decide +kernel))
              (pi_range1 (by rfl) N.range (pa_cons (pe_op op_mod (pe_callTy call_int1 (by rfl) N.int (by decide +kernel) (pa_cons (pe_call A2.ok hr1 (by rfl) A2.at_ A2.kp A2.bd .nil pass0 (pa_cons (pv 1) pa_nil)) pa_nil)) pe_int) pa_nil))
              (blkOk_by (N := ["script", "draws", "most", "many", "load", "line", "cell", "turn", "one"]) (sc := defScope sLaw) (by decide +kernel)) (fun _ _ _ _ _ => pg_name (i := 7) scLaw.nd rfl (Or.inl rfl)) (fun _ _ _ _ _ => pts_nil)
              (fun _ _ _ _ _ => pe_call A4.ok hr2 (by rfl) A4.at_ A4.kp A4.bd .nil pass0 (pa_cons (pv 1) (pa_cons (pv 3) pa_nil))))
          (pss_one (ps_if (PW.pt (pw_or (pt_not (pt_val (pe_callG A5.ok hr gu (by rfl) A5.at_ A5.kp A5.bd (pa_cons (pv 4) (pa_cons (pv 5) pa_nil)))))
              (pw_or1 (pt_cmpR (op_neD hr.units) (pe_lc (own := [("one", 8)]) (g := gName 8) rfl scLaw.nd (pi_list (pv 5)) (blkOk_by (N := ["script", "draws", "most", "many", "load", "line", "cell", "turn", "one"]) (sc := defScope sLaw) (by decide +kernel))
                (fun _ _ _ _ _ => pg_name (i := 8) scLaw.nd rfl (Or.inl rfl)) (fun _ _ _ _ _ => pts_one (pt_not (pt_val (pe_callG A6.ok hr gu (by rfl) A6.at_ A6.kp A6.bd (pa_cons (pv 4) (pa_cons (pv 8) pa_nil)))))) (fun _ _ _ _ _ => pv 8)) (pe_lst pa_nil) (nomark _)))))
            (pss_one (ps_ret pe_bl)) pss_nil))))))))
      (pss_cons (ps_if (PW.pt (pw_or (pt_not (pt_val (pe_callG A6.ok hr gu (by rfl) A6.at_ A6.kp A6.bd (pa_cons (pe_lst (pa_cons pe_int (pa_cons pe_int (pa_cons pe_int pa_nil)))) (pa_cons (pe_lst pa_nil) pa_nil)))))
        (pw_or (pt_not (pt_val (pe_callG A6.ok hr gu (by rfl) A6.at_ A6.kp A6.bd (pa_cons (pe_lst (pa_cons pe_int (pa_cons pe_int (pa_cons pe_int pa_nil)))) (pa_cons (pe_lst (pa_cons (pe_lst pa_nil) (pa_cons (pe_lst (pa_cons pe_int pa_nil)) (pa_cons (pe_lst pa_nil) pa_nil)))) pa_nil)))))
        (pw_or1 (pt_not (pt_val (pe_callG A5.ok hr gu (by rfl) A5.at_ A5.kp A5.bd (pa_cons (pe_lst (pa_cons pe_int pa_nil)) (pa_cons (pe_lst pa_nil) pa_nil)))))))) ) (pss_one (ps_ret pe_bl)) pss_nil)
      (pss_cons (ps_if (PW.pt (pw_or (pt_not (pt_val (pe_callG A6.ok hr gu (by rfl) A6.at_ A6.kp A6.bd (pa_cons (pe_listRg3 rfl (by rfl) N.list (by rfl) N.range (pa_cons pe_int (pa_cons pe_int (pa_cons (pe_un un_neg pe_int) pa_nil))))
            (pa_cons (pe_lst (pa_cons (pe_listRg rfl (by rfl) N.list (prg_2 (by rfl) N.range pe_int pe_int)) pa_nil)) pa_nil)))))
        (pw_or1 (pt_not (pt_val (pe_callG A6.ok hr gu (by rfl) A6.at_ A6.kp A6.bd (pa_cons (pe_op op_rep (pe_lst (pa_cons pe_int pa_nil)) pe_int) (pa_cons (pe_lst (pa_cons (pe_lst (pa_cons pe_int (pa_cons pe_int pa_nil))) pa_nil)) pa_nil)))))))) (pss_one (ps_ret pe_bl)) pss_nil)
      (pss_cons (ps_if (pt_cmpR (op_neD hr.units) (pe_call A7.ok hr5 (by rfl) A7.at_ A7.kp A7.bd .nil pass0 (pa_cons (pe_lst (pa_cons pe_int (pa_cons pe_int (pa_cons pe_int (pa_cons pe_int pa_nil)))))
          (pa_cons (pe_lst (pa_cons (pe_lst (pa_cons (pe_lst (pa_cons pe_int (pa_cons pe_int pa_nil))) (pa_cons (pe_lst (pa_cons pe_int (pa_cons pe_int pa_nil))) pa_nil)))
            (pa_cons (pe_lst (pa_cons (pe_lst (pa_cons pe_int (pa_cons pe_int pa_nil))) (pa_cons (pe_lst (pa_cons pe_int (pa_cons pe_int pa_nil))) pa_nil))) pa_nil))) pa_nil)))
          (pe_lst (pa_cons pe_int (pa_cons pe_int (pa_cons pe_int (pa_cons pe_int pa_nil))))) (nomark _)) (pss_one (ps_ret pe_bl)) pss_nil)
      (pss_one (ps_ret (pe_and (pe_cmpR (op_eqD hr.units) (pe_call A8.ok hr5 (by rfl) A8.at_ A8.kp A8.bd .nil pass0 (pa_cons (pe_lst (pa_cons pe_int (pa_cons pe_int (pa_cons pe_int pa_nil)))) (pa_cons (pe_lst (pa_cons (pe_lst (pa_cons pe_int (pa_cons pe_int pa_nil))) pa_nil)) pa_nil)))
          (pe_lst (pa_cons pe_int (pa_cons pe_int (pa_cons pe_int pa_nil)))) (nomark _))
        (pe_one (pe_not (pe_call A9.ok hr5 (by rfl) A9.at_ A9.kp A9.bd .nil pass0 (pa_cons (pe_lst (pa_cons pe_int (pa_cons pe_int (pa_cons pe_int pa_nil)))) (pa_cons (pe_lst (pa_cons (pe_lst (pa_cons pe_int (pa_cons pe_int pa_nil))) pa_nil)) pa_nil))))))))))), ?_⟩
    have cut6 : cutV (ns.map V.int) none (some 6) = (ns.take 6).map V.int := by
      rw [List.map_take]
      exact cut_take (ns.map V.int) 6
    refine ⟨_, rfl, _, rfl, a, _, rfl, hS, fun p1 hp1 => ?_⟩
    rw [cut6]
    obtain ⟨H1, e1, s1, l1⟩ := disp_li hp1 (ns.take 6)
    rw [e1]
    refine ⟨by show 1 ≤ sizeLine; decide, fun p2 hp2 => ?_⟩
    obtain ⟨H2, e2, s2, l2⟩ := disp_li hp2 [0]
    have e2' : upd H1 p2 (.lst [V.int 0]) = H2 := e2
    rw [e2']
    refine ⟨p1, p2, _, _, rfl, rfl, l1.same s2, l2, by rw [List.length_map, List.length_take, sizeLine_eq]; simp; omega, fun p3 hp3 => ?_⟩
    obtain ⟨H3, e3, s3, l3⟩ := disp_li hp3 (ns.take 6 ++ [0])
    have em : (ns.take 6).map V.int ++ [0].map V.int = (ns.take 6 ++ [0]).map V.int := (List.map_append ..).symm
    rw [em, e3]
    have l7 : (ns.take 6 ++ [0]).length ≤ 7 := by
      rw [List.length_append, List.length_take]
      simp
      omega
    refine ⟨p3, rfl, ⟨_, SqL.of l3⟩, fun D hD => lc_it (walk_list (xs := (ns.take 6 ++ [0]).map V.int)) (fun i H' => ∃ as, Refs H' D as ∧ as.length = i ∧ (∀ x ∈ as, x ≠ D) ∧ Dws H' as 0 ∧ LI H' p3 (ns.take 6 ++ [0])) ?_ (fun i H' _ q => by
      obtain ⟨as, _, _, _, _, h⟩ := q
      exact SqL.of h) ?_ ?_⟩
    · exact ⟨[], upd_same, rfl, fun x hx => (by cases hx), fun x hx => (by cases hx), (upd_ne (ne_of_none l3 hD)).trans l3⟩
    · rintro i v H4 H5 hi ⟨as, hR, hl, hne, hdw, hl3⟩ ⟨rfl, ev⟩
      obtain ⟨cv, hcv, rfl⟩ := map_get ev
      refine ⟨rfl, tyes ?_⟩
      refine ⟨_, rfl, cv, rfl, fun p n b hp => ?_⟩
      have sp := same_upd (o := DrO n 0 b) hp
      have nDp : D ≠ p := ne_of_none hR hp
      have n3p : p3 ≠ p := ne_of_none hl3 hp
      have i7 : i < 7 := by
        rw [List.length_map] at hi
        omega
      refine ⟨_, (upd_ne nDp).trans hR, by rw [List.length_map, hl, sizeLine_eq]; omega, as ++ [p], refs_snoc, by rw [List.length_append, hl]; rfl, fun x hx => ?_, fun x hx => ?_, ?_⟩
      · rcases List.mem_append.mp hx with h | h
        · exact hne x h
        · rw [List.mem_singleton.mp h]
          exact nDp.symm
      · rcases List.mem_append.mp hx with h | h
        · obtain ⟨n', k', c', e', h1, h2⟩ := hdw x h
          exact ⟨n', k', c', (upd_ne (hne x h)).trans (sp _ _ e'), h1, h2⟩
        · rw [List.mem_singleton.mp h]
          exact ⟨n, 0, b, (upd_ne nDp.symm).trans upd_same, by decide, by decide⟩
      · have n3D : p3 ≠ D := fun z => by
          have e := refs_li hR (z ▸ hl3)
          have := congrArg List.length e.2
          rw [List.length_append] at this
          simp at this
        exact (upd_ne n3D).trans ((upd_ne n3p).trans hl3)
    · rintro H4 ⟨as, hR, hl, hne, hdw, hl3⟩
      rw [List.length_map] at hl
      refine ⟨D, rfl, ⟨_, SqL.of hR⟩, for_it walk_list (fun i σ H' => (∃ x1 x2 x3 x4 x5 x6 x7 x8, σ = [some (.ref a), x1, x2, x3, x4, x5, x6, x7, x8]) ∧ Refs H' D as ∧ Dws H' as (40000 * (i : Int))) ⟨⟨_, _, _, _, _, _, _, _, rfl⟩, hR, hdw.mono (by omega)⟩ (fun i σ H' _ q => SqL.of q.2.1) ?_ ?_⟩
      · rintro i v σ H5 H6 hi ⟨⟨x1, x2, x3, x4, x5, x6, x7, x8, rfl⟩, hR5, hd5⟩ ⟨rfl, ev⟩
        obtain ⟨d, hda, rfl⟩ := map_get ev
        have hdm : d ∈ as := List.mem_of_getElem? hda
        have i7 : (i : Int) < 7 := by
          have := (List.getElem?_eq_some_iff.mp hda).1
          omega
        refine ⟨by show 2 ≤ sizeLine; decide, fun lm hlm => ?_⟩
        obtain ⟨H7, e7, s7, l7m⟩ := disp_li hlm [40, 7]
        have e7' : upd H6 lm (.lst [V.int 40, V.int 7]) = H7 := e7
        rw [e7']
        refine ⟨lm, rfl, ⟨_, SqL.of l7m⟩, for_it (walk_list (xs := [V.int 40, V.int 7])) (fun j σ H' => (∃ x2 x3 x4 x5 x6 x7 x8, σ = [some (.ref a), some (.ref d), x2, x3, x4, x5, x6, x7, x8]) ∧ Refs H' D as ∧ LI H' lm [40, 7] ∧ Dws H' as (40000 * (i : Int) + 16000 * (j : Int)))
          ⟨⟨_, _, _, _, _, _, _, rfl⟩, hR5.same s7, l7m, (hd5.same s7).mono (by omega)⟩ (fun j σ H' _ q => SqL.of q.2.2.1) ?_ ?_⟩
        · rintro j v σ H8 H9 hj ⟨⟨x2, x3, x4, x5, x6, x7, x8, rfl⟩, hR8, lm8, hd8⟩ ⟨rfl, ev⟩
          have j2 : (j : Int) < 2 := by
            have h2 : ([V.int 40, V.int 7] : List V).length = 2 := rfl
            omega
          obtain ⟨mo, hmo, mo2⟩ : ∃ mo : Int, v = V.int mo ∧ (mo = 40 ∨ mo = 7) := by
            have e : ([V.int 40, V.int 7] : List V) = [40, 7].map V.int := rfl
            rw [e] at ev
            obtain ⟨x, hx, rfl⟩ := map_get ev
            have := List.mem_of_getElem? hx
            simp at this
            exact ⟨x, rfl, this⟩
          subst hmo
          obtain ⟨n9, k9, c, e9, k90, k9b⟩ := hd8 d hdm
          have mo0 : 0 < mo := by omega
          -- many
          refine ⟨_, rfl, d, n9, k9, c, rfl, e9, k90, by omega, fun r1 n10 hr1 => .inl ⟨_, rfl, ?_⟩⟩
          have Ba : But d H9 (upd H9 d (DrO n10 (k9 + 1) c)) := But.upd
          have ea : upd H9 d (DrO n10 (k9 + 1) c) d = some (DrO n10 (k9 + 1) c) := upd_same
          generalize upd H9 d (DrO n10 (k9 + 1) c) = Ha at Ba ea ⊢
          refine ⟨_, rfl, _, _, rfl, rfl, mo0, _, _, rfl, rfl, ?_⟩
          have b0 : 0 ≤ r1 % mo := Int.emod_nonneg _ (by omega)
          have b1 : r1 % mo < mo := Int.emod_lt_of_pos _ mo0
          obtain ⟨m, hm⟩ : ∃ m : Nat, 1 + r1 % mo = (m : Int) := ⟨(1 + r1 % mo).toNat, by omega⟩
          have m1 : 1 ≤ m := by omega
          have m40 : m ≤ 40 := by omega
          -- load
          refine ⟨_, rfl, _, rfl, d, m, n10, k9 + 1, c, (by show [V.ref d, V.int (1 + r1 % mo)] = [V.ref d, V.int (m : Int)]; rw [hm]), m1, m40, ea, by omega, by omega, fun Hb lo xs Db hlo hlL hxl hsm => ?_⟩
          obtain ⟨Bb, n11, k11, eb, l11, u11⟩ := Db
          -- line
          refine ⟨_, rfl, d, n11, k11, c, rfl, eb, by omega, by omega, fun r2 n12 hr2 => .inl ⟨_, rfl, ?_⟩⟩
          have Bc : But d Hb (upd Hb d (DrO n12 (k11 + 1) c)) := But.upd
          have ec : upd Hb d (DrO n12 (k11 + 1) c) d = some (DrO n12 (k11 + 1) c) := upd_same
          have loc : LI (upd Hb d (DrO n12 (k11 + 1) c)) lo xs := hlL.but eb Bc
          generalize upd Hb d (DrO n12 (k11 + 1) c) = Hc at Bc ec loc ⊢
          have r60 : 0 ≤ r2 % 6 := by omega
          have r66 : r2 % 6 < 6 := by omega
          refine ⟨_, _, rfl, rfl, (by show (0 : Int) < 6; decide), _, rfl, by omega, by omega, fun Dl hDl => lc_it (walk_range (lo := 0) (n := (r2 % 6).toNat)) (fun t H' => ∃ fs r, Refs H' Dl fs ∧ Paired (FamX H' Dl) fs r ∧ r.length = t ∧ (∀ g ∈ r, Valid m g ∧ g.length ≤ 40) ∧ But d Hc H' ∧
              ∃ n k, H' d = some (DrO n k c) ∧ k9 ≤ k ∧ k ≤ k11 + 1 + 3000 * (t : Int)) ?_ (fun _ _ _ _ => True.intro) ?_ ?_⟩
          · exact ⟨[], [], upd_same, .nil, rfl, fun g hg => (by cases hg), But.same (same_upd hDl), n12, k11 + 1, (upd_ne (ne_of_none ec hDl)).trans ec, by omega, by omega⟩
          · rintro t v Hd He ht ⟨fs, r, hRf, hp, hrl, hv, Bd, n13, k13, ed, l13, u13⟩ ⟨rfl, rfl⟩
            refine ⟨rfl, tyes ?_⟩
            refine ⟨_, rfl, _, rfl, d, m, n13, k13, c, (by show [V.ref d, V.int (1 + r1 % mo)] = [V.ref d, V.int (m : Int)]; rw [hm]), m1, m40, ed, by omega, by omega, fun Hf p g Df hp0 hg hgv hgl => ?_⟩
            obtain ⟨Bf, n14, k14, ef, l14, u14⟩ := Df
            have nDd : Dl ≠ d := (ne_of_none ec hDl).symm
            have RDl : Refs Hf Dl fs := Bf _ _ nDd hRf
            have Dl0 : Hc Dl = none := hDl
            refine ⟨_, RDl, ?_, fs ++ [p], r ++ [g], refs_snoc, ?_, by rw [List.length_append, hrl]; rfl, fun g' hg' => ?_, (Bd.trans Bf).own Dl0, n14, k14, (upd_ne nDd.symm).trans ef, by omega, by omega⟩
            · rw [List.length_map, hp.length, hrl, sizeLine_eq]
              omega
            · refine Paired.snoc (fams_off (Paired.mapP hp fun _ _ q => q.but ed Bf)) (FamX.off (hg.off hp0 ?_))
              rw [hRf]
              exact fun z => nomatch z
            · rcases List.mem_append.mp hg' with h | h
              · exact hv g' h
              · rw [List.mem_singleton.mp h]
                exact ⟨hgv, hgl⟩
          · rintro Hd ⟨fs, r, hRf, hp, hrl, hv, Bd, n13, k13, ed, l13, u13⟩
            have lod : LI Hd lo xs := loc.but ec Bd
            have rowd : RowA Hd Dl r := ⟨fs, hRf, Paired.mapP hp fun _ _ q => q.fam⟩
            have vx : ∀ g ∈ r, Valid xs.length g := fun g hg => by rw [hxl]; exact (hv g hg).1
            have gl80 : ∀ g ∈ r, g.length ≤ 80 := fun g hg => Nat.le_trans (hv g hg).2 (by decide)
            refine ⟨_, rfl, _, rfl, lo, Dl, xs, r, rfl, lod, rowd, vx, by omega, by omega, hsm, gl80, by omega, fun He se => ?_⟩
            refine ⟨true, rfl, iteF ?_⟩
            have rowe := rowd.same se
            have loe := lod.same se
            obtain ⟨fe, hfe, pe⟩ := rowe
            refine ⟨_, rfl, Dl, rfl, ⟨_, SqL.of hfe⟩, fun De hDe => lc_it (walk_list (xs := fe.map V.ref)) (fun t H' => H' De = some (.lst []) ∧ Same He H') ⟨upd_same, same_upd hDe⟩ (fun t H' _ q => SqL.of (hfe.same q.2)) ?_ ?_⟩
            · rintro t v Hf Hg ht ⟨hE, sE⟩ ⟨rfl, ev⟩
              obtain ⟨fa, hfa, rfl⟩ := map_get ev
              obtain ⟨g, hg, hF⟩ := pget pe hfa
              have hgm := List.mem_of_getElem? hg
              refine ⟨rfl, ?_⟩
              refine ⟨_, rfl, _, rfl, lo, fa, xs, g, rfl, loe.same sE, hF.same sE, vx g hgm, by omega, by omega, hsm, gl80 g hgm, fun Hh sh => ?_⟩
              refine ⟨true, rfl, iteF ?_⟩
              exact ⟨sh _ _ hE, sE.trans sh⟩
            · rintro Hf ⟨hE, sE⟩
              refine ⟨Nat.zero_le _, fun q hq => ?_⟩
              refine ⟨.list [], .list [], dp_empty ((same_upd hq) _ _ hE), dp_empty upd_same, rfl, rfl, _, rfl, iteF ?_⟩
              have Bz : But d H9 Hf := ((((Ba.trans Bb).trans Bc).trans Bd).trans (But.same (se.trans sE)))
              have ez : Hf d = some (DrO n13 k13 c) := (se.trans sE) _ _ ed
              have sq := same_upd (o := .lst []) hq
              have ud : k13 ≤ 40000 * (i : Int) + 16000 * ((j : Int) + 1) := by omega
              refine ⟨⟨_, _, _, _, _, _, _, rfl⟩, (hR8.but e9 Bz).same sq, (lm8.but e9 Bz).same sq, ((((hd8.mono (by omega)).but Bz ez (by omega) ud).same sq).mono (by push_cast; omega))⟩
        · rintro σ H8 ⟨⟨x2, x3, x4, x5, x6, x7, x8, rfl⟩, hR8, lm8, hd8⟩
          refine ⟨⟨_, _, _, _, _, _, _, _, rfl⟩, hR8, hd8.mono ?_⟩
          show 40000 * (i : Int) + 16000 * ((2 : Nat) : Int) ≤ 40000 * ((i + 1 : Nat) : Int)
          push_cast
          omega
      · rintro σ H5 ⟨⟨x1, x2, x3, x4, x5, x6, x7, x8, rfl⟩, hR5, hd5⟩
        refine ⟨by show 3 ≤ sizeLine; decide, fun p1z hp1z => ?_⟩
        obtain ⟨G1, e1z, s1z, l1z⟩ := disp_li hp1z [3, 1, 2]
        have f1z : upd H5 p1z (.lst [V.int 3, V.int 1, V.int 2]) = G1 := e1z
        rw [f1z]
        refine ⟨by show 0 ≤ sizeLine; decide, fun p2z hp2z => ?_⟩
        obtain ⟨G2, e2z, s2z, l2z⟩ := disp_refs hp2z []
        have f2z : upd G1 p2z (.lst []) = G2 := e2z
        rw [f2z]
        replace l1z := l1z.same s2z
        refine ⟨p1z, p2z, [3, 1, 2], [], rfl, l1z, ⟨[], l2z, .nil⟩, valid_dec (by decide) (by decide), by decide, by decide, smalls_dec (by decide), by decide, fun G100 s100 => ⟨true, rfl, iteF ?_⟩⟩
        refine ⟨by show 3 ≤ sizeLine; decide, fun p3z hp3z => ?_⟩
        obtain ⟨G3, e3z, s3z, l3z⟩ := disp_li hp3z [3, 1, 2]
        have f3z : upd G100 p3z (.lst [V.int 3, V.int 1, V.int 2]) = G3 := e3z
        rw [f3z]
        refine ⟨by show 0 ≤ sizeLine; decide, fun p4z hp4z => ?_⟩
        obtain ⟨G4, e4z, s4z, l4z⟩ := disp_li hp4z []
        have f4z : upd G3 p4z (.lst []) = G4 := e4z
        rw [f4z]
        replace l3z := l3z.same s4z
        refine ⟨by show 1 ≤ sizeLine; decide, fun p5z hp5z => ?_⟩
        obtain ⟨G5, e5z, s5z, l5z⟩ := disp_li hp5z [2]
        have f5z : upd G4 p5z (.lst [V.int 2]) = G5 := e5z
        rw [f5z]
        replace l3z := l3z.same s5z
        replace l4z := l4z.same s5z
        refine ⟨by show 0 ≤ sizeLine; decide, fun p6z hp6z => ?_⟩
        obtain ⟨G6, e6z, s6z, l6z⟩ := disp_li hp6z []
        have f6z : upd G5 p6z (.lst []) = G6 := e6z
        rw [f6z]
        replace l3z := l3z.same s6z
        replace l4z := l4z.same s6z
        replace l5z := l5z.same s6z
        refine ⟨by show 3 ≤ sizeLine; decide, fun p7z hp7z => ?_⟩
        obtain ⟨G7, e7z, s7z, l7z⟩ := disp_refs hp7z [p4z, p5z, p6z]
        have f7z : upd G6 p7z (.lst [V.ref p4z, V.ref p5z, V.ref p6z]) = G7 := e7z
        rw [f7z]
        replace l3z := l3z.same s7z
        replace l4z := l4z.same s7z
        replace l5z := l5z.same s7z
        replace l6z := l6z.same s7z
        refine ⟨p3z, p7z, [3, 1, 2], [[], [2], []], rfl, l3z, ⟨_, l7z, .cons l4z (.cons l5z (.cons l6z .nil))⟩, valid_dec (by decide) (by decide), by decide, by decide, smalls_dec (by decide), by decide, fun G101 s101 => ⟨true, rfl, iteF ?_⟩⟩
        refine ⟨by show 1 ≤ sizeLine; decide, fun p8z hp8z => ?_⟩
        obtain ⟨G8, e8z, s8z, l8z⟩ := disp_li hp8z [5]
        have f8z : upd G101 p8z (.lst [V.int 5]) = G8 := e8z
        rw [f8z]
        refine ⟨by show 0 ≤ sizeLine; decide, fun p9z hp9z => ?_⟩
        obtain ⟨G9, e9z, s9z, l9z⟩ := disp_refs hp9z []
        have f9z : upd G8 p9z (.lst []) = G9 := e9z
        rw [f9z]
        replace l8z := l8z.same s9z
        refine ⟨p8z, p9z, [5], [], rfl, l8z, ⟨[], l9z, .nil⟩, fun g hg => (by cases hg), by decide, by decide, smalls_dec (by decide), fun g hg => (by cases hg), by decide, fun G102 s102 => ⟨true, rfl, iteF ?_⟩⟩
        refine ⟨_, rfl, 40, 0, -1, 40, rfl, ⟨by decide, by decide, by decide, by decide⟩, by decide, fun p10z hp10z => ?_⟩
        rw [stepV_eq]
        obtain ⟨G10, e10z, s10z, l10z⟩ := disp_li hp10z (stepI 40 (-1) 40)
        rw [e10z]
        refine ⟨_, _, rfl, rfl, RgOk.of_le (by decide) (by decide) (by decide) (by decide), fun p11z hp11z => ?_⟩
        rw [rgV_upto]
        obtain ⟨G11, e11z, s11z, l11z⟩ := disp_li hp11z (upto 1 41)
        rw [e11z]
        replace l10z := l10z.same s11z
        refine ⟨by show 1 ≤ sizeLine; decide, fun p12z hp12z => ?_⟩
        obtain ⟨G12, e12z, s12z, l12z⟩ := disp_refs hp12z [p11z]
        have f12z : upd G11 p12z (.lst [V.ref p11z]) = G12 := e12z
        rw [f12z]
        replace l10z := l10z.same s12z
        replace l11z := l11z.same s12z
        have len40 : (stepI 40 (-1) 40).length = 40 := rfl
        refine ⟨p10z, p12z, stepI 40 (-1) 40, [upto 1 41], rfl, l10z, ⟨_, l12z, .cons l11z .nil⟩, valid_dec (by decide +kernel) (by decide +kernel), by decide +kernel, by decide +kernel, smalls_dec (by decide +kernel), by decide, fun G103 s103 => ⟨true, rfl, iteF ?_⟩⟩
        refine ⟨by show 1 ≤ sizeLine; decide, fun p13z hp13z => ?_⟩
        obtain ⟨G13, e13z, s13z, l13z⟩ := disp_li hp13z [0]
        have f13z : upd G103 p13z (.lst [V.int 0]) = G13 := e13z
        rw [f13z]
        refine ⟨p13z, 40, _, rfl, rfl, l13z, by decide, by decide, by decide, fun p14z hp14z => ?_⟩
        have rep40 : (List.replicate (40 : Int).toNat (([0] : List Int).map V.int)).flatten = (List.replicate 40 0).map V.int := rfl
        rw [rep40]
        obtain ⟨G14, e14z, s14z, l14z⟩ := disp_li hp14z (List.replicate 40 0)
        rw [e14z]
        refine ⟨by show 2 ≤ sizeLine; decide, fun p15z hp15z => ?_⟩
        obtain ⟨G15, e15z, s15z, l15z⟩ := disp_li hp15z [40, 1]
        have f15z : upd G14 p15z (.lst [V.int 40, V.int 1]) = G15 := e15z
        rw [f15z]
        replace l14z := l14z.same s15z
        refine ⟨by show 1 ≤ sizeLine; decide, fun p16z hp16z => ?_⟩
        obtain ⟨G16, e16z, s16z, l16z⟩ := disp_refs hp16z [p15z]
        have f16z : upd G15 p16z (.lst [V.ref p15z]) = G16 := e16z
        rw [f16z]
        replace l14z := l14z.same s16z
        replace l15z := l15z.same s16z
        refine ⟨p14z, p16z, List.replicate 40 0, [[40, 1]], rfl, l14z, ⟨_, l16z, .cons l15z .nil⟩, valid_dec (by decide) (by decide), by decide, by decide, smalls_dec (by decide), by decide, fun G104 s104 => ⟨true, rfl, iteF ?_⟩⟩
        refine ⟨by show 4 ≤ sizeLine; decide, fun p17z hp17z => ?_⟩
        obtain ⟨G17, e17z, s17z, l17z⟩ := disp_li hp17z [4, 3, 2, 1]
        have f17z : upd G104 p17z (.lst [V.int 4, V.int 3, V.int 2, V.int 1]) = G17 := e17z
        rw [f17z]
        refine ⟨by show 2 ≤ sizeLine; decide, fun p18z hp18z => ?_⟩
        obtain ⟨G18, e18z, s18z, l18z⟩ := disp_li hp18z [1, 2]
        have f18z : upd G17 p18z (.lst [V.int 1, V.int 2]) = G18 := e18z
        rw [f18z]
        replace l17z := l17z.same s18z
        refine ⟨by show 2 ≤ sizeLine; decide, fun p19z hp19z => ?_⟩
        obtain ⟨G19, e19z, s19z, l19z⟩ := disp_li hp19z [3, 4]
        have f19z : upd G18 p19z (.lst [V.int 3, V.int 4]) = G19 := e19z
        rw [f19z]
        replace l17z := l17z.same s19z
        replace l18z := l18z.same s19z
        refine ⟨by show 2 ≤ sizeLine; decide, fun p20z hp20z => ?_⟩
        obtain ⟨G20, e20z, s20z, l20z⟩ := disp_refs hp20z [p18z, p19z]
        have f20z : upd G19 p20z (.lst [V.ref p18z, V.ref p19z]) = G20 := e20z
        rw [f20z]
        replace l17z := l17z.same s20z
        replace l18z := l18z.same s20z
        replace l19z := l19z.same s20z
        refine ⟨by show 2 ≤ sizeLine; decide, fun p21z hp21z => ?_⟩
        obtain ⟨G21, e21z, s21z, l21z⟩ := disp_li hp21z [1, 3]
        have f21z : upd G20 p21z (.lst [V.int 1, V.int 3]) = G21 := e21z
        rw [f21z]
        replace l17z := l17z.same s21z
        replace l18z := l18z.same s21z
        replace l19z := l19z.same s21z
        replace l20z := l20z.same s21z
        refine ⟨by show 2 ≤ sizeLine; decide, fun p22z hp22z => ?_⟩
        obtain ⟨G22, e22z, s22z, l22z⟩ := disp_li hp22z [2, 4]
        have f22z : upd G21 p22z (.lst [V.int 2, V.int 4]) = G22 := e22z
        rw [f22z]
        replace l17z := l17z.same s22z
        replace l18z := l18z.same s22z
        replace l19z := l19z.same s22z
        replace l20z := l20z.same s22z
        replace l21z := l21z.same s22z
        refine ⟨by show 2 ≤ sizeLine; decide, fun p23z hp23z => ?_⟩
        obtain ⟨G23, e23z, s23z, l23z⟩ := disp_refs hp23z [p21z, p22z]
        have f23z : upd G22 p23z (.lst [V.ref p21z, V.ref p22z]) = G23 := e23z
        rw [f23z]
        replace l17z := l17z.same s23z
        replace l18z := l18z.same s23z
        replace l19z := l19z.same s23z
        replace l20z := l20z.same s23z
        replace l21z := l21z.same s23z
        replace l22z := l22z.same s23z
        refine ⟨by show 2 ≤ sizeLine; decide, fun p24z hp24z => ?_⟩
        obtain ⟨G24, e24z, s24z, l24z⟩ := disp_refs hp24z [p20z, p23z]
        have f24z : upd G23 p24z (.lst [V.ref p20z, V.ref p23z]) = G24 := e24z
        rw [f24z]
        replace l17z := l17z.same s24z
        replace l18z := l18z.same s24z
        replace l19z := l19z.same s24z
        replace l20z := l20z.same s24z
        replace l21z := l21z.same s24z
        replace l22z := l22z.same s24z
        replace l23z := l23z.same s24z
        refine ⟨p17z, p24z, [4, 3, 2, 1], [[[1, 2], [3, 4]], [[1, 3], [2, 4]]], rfl, l17z, ⟨_, l24z, .cons ⟨_, l20z, .cons l18z (.cons l19z .nil)⟩ (.cons ⟨_, l23z, .cons l21z (.cons l22z .nil)⟩ .nil)⟩, fun g hg => ?_, by decide, by decide, fun G105 rr s105 hrr0 hrr => ?_⟩
        · rcases List.mem_cons.mp hg with rfl | hg
          · exact valid_dec (by decide) (by decide)
          · rw [List.mem_singleton.mp hg]
            exact valid_dec (by decide) (by decide)
        rw [row1] at hrr
        refine ⟨by show 4 ≤ sizeLine; decide, fun p25z hp25z => ?_⟩
        obtain ⟨G25, e25z, s25z, l25z⟩ := disp_li hp25z [1, 2, 3, 4]
        have f25z : upd G105 p25z (.lst [V.int 1, V.int 2, V.int 3, V.int 4]) = G25 := e25z
        rw [f25z]
        replace hrr := hrr.same s25z
        refine ⟨dL [1, 2, 3, 4], dL [1, 2, 3, 4], hrr.dp, l25z.dp, shaped_dL _, shaped_dL _, ?_⟩
        rw [eqv_dL]
        refine ⟨_, rfl, iteF ?_⟩
        refine ⟨by show 3 ≤ sizeLine; decide, fun p26z hp26z => ?_⟩
        obtain ⟨G26, e26z, s26z, l26z⟩ := disp_li hp26z [3, 1, 2]
        have f26z : upd G25 p26z (.lst [V.int 3, V.int 1, V.int 2]) = G26 := e26z
        rw [f26z]
        refine ⟨by show 2 ≤ sizeLine; decide, fun p27z hp27z => ?_⟩
        obtain ⟨G27, e27z, s27z, l27z⟩ := disp_li hp27z [1, 3]
        have f27z : upd G26 p27z (.lst [V.int 1, V.int 3]) = G27 := e27z
        rw [f27z]
        replace l26z := l26z.same s27z
        refine ⟨by show 1 ≤ sizeLine; decide, fun p28z hp28z => ?_⟩
        obtain ⟨G28, e28z, s28z, l28z⟩ := disp_refs hp28z [p27z]
        have f28z : upd G27 p28z (.lst [V.ref p27z]) = G28 := e28z
        rw [f28z]
        replace l26z := l26z.same s28z
        replace l27z := l27z.same s28z
        refine ⟨p26z, p28z, [3, 1, 2], [[1, 3]], rfl, l26z, ⟨_, l28z, .cons l27z .nil⟩, valid_dec (by decide) (by decide), by decide, by decide, fun G106 ss s106 hss0 hss => ?_⟩
        rw [sort1] at hss
        refine ⟨by show 3 ≤ sizeLine; decide, fun p29z hp29z => ?_⟩
        obtain ⟨G29, e29z, s29z, l29z⟩ := disp_li hp29z [2, 1, 3]
        have f29z : upd G106 p29z (.lst [V.int 2, V.int 1, V.int 3]) = G29 := e29z
        rw [f29z]
        replace hss := hss.same s29z
        refine ⟨dL [2, 1, 3], dL [2, 1, 3], hss.dp, l29z.dp, shaped_dL _, shaped_dL _, ?_⟩
        rw [eqv_dL]
        refine ⟨true, rfl, iteT ?_⟩
        refine ⟨by show 3 ≤ sizeLine; decide, fun p30z hp30z => ?_⟩
        obtain ⟨G30, e30z, s30z, l30z⟩ := disp_li hp30z [2, 1, 3]
        have f30z : upd G29 p30z (.lst [V.int 2, V.int 1, V.int 3]) = G30 := e30z
        rw [f30z]
        refine ⟨by show 2 ≤ sizeLine; decide, fun p31z hp31z => ?_⟩
        obtain ⟨G31, e31z, s31z, l31z⟩ := disp_li hp31z [3, 1]
        have f31z : upd G30 p31z (.lst [V.int 3, V.int 1]) = G31 := e31z
        rw [f31z]
        replace l30z := l30z.same s31z
        refine ⟨by show 1 ≤ sizeLine; decide, fun p32z hp32z => ?_⟩
        obtain ⟨G32, e32z, s32z, l32z⟩ := disp_refs hp32z [p31z]
        have f32z : upd G31 p32z (.lst [V.ref p31z]) = G32 := e32z
        rw [f32z]
        replace l30z := l30z.same s32z
        replace l31z := l31z.same s32z
        refine ⟨p30z, p32z, [2, 1, 3], [[3, 1]], rfl, l30z, ⟨_, l32z, .cons l31z .nil⟩, valid_dec (by decide) (by decide), by decide, by decide, fun G107 s107 => ⟨false, rfl, ?_⟩⟩
        exact k G107
end
end K01

set_option Elab.async false
set_option linter.all false
set_option maxRecDepth 100000
set_option maxHeartbeats 4000000
namespace K01
open PySem L2 Kt PyProof.Rows
theorem all_mk {l : PySem.W.OpenLaw} {w : World} {K : PySem.W.Frag} {h : Heap} {mg : Str → Option Value} {fa : Addr}
  {f1 f2 f3 f4 f5 f6 f7 f8 f9 f10 f11 f12 f13 f14 f15 f16 f17 f18 f19 f20 f21 : Addr}
  {od1 an1 od2 an2 od3 an3 od4 an4 od5 an5 od6 an6 od7 an7 od8 an8 od9 an9 od10 an10 od11 an11 od12 an12 od13 an13 od14 an14 od15 an15 od16 an16 od17 an17 od18 an18 od19 an19 od20 an20 od21 an21 : Option Addr}
  {sl1 sl2 sl3 sl4 sl5 sl6 sl7 sl8 sl9 sl10 sl11 sl12 sl13 sl14 sl15 sl16 sl17 sl18 sl19 sl20 sl21 : Array (Option Value)}
  {oc1 kV1 dc1 pm1 cd1 ct1 oc2 kV2 dc2 pm2 cd2 ct2 oc3 kV3 dc3 pm3 cd3 ct3 oc4 kV4 dc4 pm4 cd4 ct4 oc5 kV5 dc5 pm5 cd5 ct5 oc6 kV6 dc6 pm6 cd6 ct6 oc7 kV7 dc7 pm7 cd7 ct7 oc8 kV8 dc8 pm8 cd8 ct8 oc9 kV9 dc9 pm9 cd9 ct9 oc10 kV10 dc10 pm10 cd10 ct10 oc11 kV11 dc11 pm11 cd11 ct11 oc12 kV12 dc12 pm12 cd12 ct12 oc13 kV13 dc13 pm13 cd13 ct13 oc14 kV14 dc14 pm14 cd14 ct14 oc15 kV15 dc15 pm15 cd15 ct15 oc16 kV16 dc16 pm16 cd16 ct16 oc17 kV17 dc17 pm17 cd17 ct17 oc18 kV18 dc18 pm18 cd18 ct18 oc19 kV19 dc19 pm19 cd19 ct19 oc20 kV20 dc20 pm20 cd20 ct20 oc21 kV21 dc21 pm21 cd21 ct21 : Value}
  {tM : Tok}
  (X : K.In h) (G : h.Ns mainGlobals mg) (hfa : mg "law" = some (.ref fa))
  (a1 : PySem.W.nsIn K mainGlobals "is_whole" = some (some (.ref f1)))
  (l1 : K.lookup f1 = some ⟨oc1, od1, .func (PySem.W.fnOf "is_whole" "is_whole" (defArgs sWhole) (defBody sWhole) (defScope sWhole) .none kV1 dc1 pm1 an1 cd1 ct1), sl1⟩)
  (c1 : PySem.W.codeIn K cd1 "is_whole" = true) (k1 : PySem.W.keepIn K (.ref f1) = true)
  (a2 : PySem.W.nsIn K mainGlobals "is_whole_within" = some (some (.ref f2)))
  (l2 : K.lookup f2 = some ⟨oc2, od2, .func (PySem.W.fnOf "is_whole_within" "is_whole_within" (defArgs sWithin) (defBody sWithin) (defScope sWithin) .none kV2 dc2 pm2 an2 cd2 ct2), sl2⟩)
  (c2 : PySem.W.codeIn K cd2 "is_whole_within" = true) (k2 : PySem.W.keepIn K (.ref f2) = true)
  (a3 : PySem.W.nsIn K mainGlobals "check_filling" = some (some (.ref f3)))
  (l3 : K.lookup f3 = some ⟨oc3, od3, .func (PySem.W.fnOf "check_filling" "check_filling" (defArgs sChFill) (defBody sChFill) (defScope sChFill) .none kV3 dc3 pm3 an3 cd3 ct3), sl3⟩)
  (c3 : PySem.W.codeIn K cd3 "check_filling" = true) (k3 : PySem.W.keepIn K (.ref f3) = true)
  (a4 : PySem.W.nsIn K mainGlobals "check_family" = some (some (.ref f4)))
  (l4 : K.lookup f4 = some ⟨oc4, od4, .func (PySem.W.fnOf "check_family" "check_family" (defArgs sChFam) (defBody sChFam) (defScope sChFam) .none kV4 dc4 pm4 an4 cd4 ct4), sl4⟩)
  (c4 : PySem.W.codeIn K cd4 "check_family" = true) (k4 : PySem.W.keepIn K (.ref f4) = true)
  (a5 : PySem.W.nsIn K mainGlobals "check_row" = some (some (.ref f5)))
  (l5 : K.lookup f5 = some ⟨oc5, od5, .func (PySem.W.fnOf "check_row" "check_row" (defArgs sChRow) (defBody sChRow) (defScope sChRow) .none kV5 dc5 pm5 an5 cd5 ct5), sl5⟩)
  (c5 : PySem.W.codeIn K cd5 "check_row" = true) (k5 : PySem.W.keepIn K (.ref f5) = true)
  (a6 : PySem.W.nsIn K mainGlobals "fault_of_family" = some (some (.ref f6)))
  (l6 : K.lookup f6 = some ⟨oc6, od6, .func (PySem.W.fnOf "fault_of_family" "fault_of_family" (defArgs sFault) (defBody sFault) (defScope sFault) .none kV6 dc6 pm6 an6 cd6 ct6), sl6⟩)
  (c6 : PySem.W.codeIn K cd6 "fault_of_family" = true) (k6 : PySem.W.keepIn K (.ref f6) = true)
  (a7 : PySem.W.nsIn K mainGlobals "sort_by" = some (some (.ref f7)))
  (l7 : K.lookup f7 = some ⟨oc7, od7, .func (PySem.W.fnOf "sort_by" "sort_by" (defArgs sSortBy) (defBody sSortBy) (defScope sSortBy) .none kV7 dc7 pm7 an7 cd7 ct7), sl7⟩)
  (c7 : PySem.W.codeIn K cd7 "sort_by" = true) (k7 : PySem.W.keepIn K (.ref f7) = true)
  (a8 : PySem.W.nsIn K mainGlobals "is_sorted_by" = some (some (.ref f8)))
  (l8 : K.lookup f8 = some ⟨oc8, od8, .func (PySem.W.fnOf "is_sorted_by" "is_sorted_by" (defArgs sIsBy) (defBody sIsBy) (defScope sIsBy) .none kV8 dc8 pm8 an8 cd8 ct8), sl8⟩)
  (c8 : PySem.W.codeIn K cd8 "is_sorted_by" = true) (k8 : PySem.W.keepIn K (.ref f8) = true)
  (a9 : PySem.W.nsIn K mainGlobals "after_row" = some (some (.ref f9)))
  (l9 : K.lookup f9 = some ⟨oc9, od9, .func (PySem.W.fnOf "after_row" "after_row" (defArgs sAfterRow) (defBody sAfterRow) (defScope sAfterRow) .none kV9 dc9 pm9 an9 cd9 ct9), sl9⟩)
  (c9 : PySem.W.codeIn K cd9 "after_row" = true) (k9 : PySem.W.keepIn K (.ref f9) = true)
  (a10 : PySem.W.nsIn K mainGlobals "sorted_along" = some (some (.ref f10)))
  (l10 : K.lookup f10 = some ⟨oc10, od10, .func (PySem.W.fnOf "sorted_along" "sorted_along" (defArgs sAlong) (defBody sAlong) (defScope sAlong) .none kV10 dc10 pm10 an10 cd10 ct10), sl10⟩)
  (c10 : PySem.W.codeIn K cd10 "sorted_along" = true) (k10 : PySem.W.keepIn K (.ref f10) = true)
  (a11 : PySem.W.nsIn K mainGlobals "ascends_along" = some (some (.ref f11)))
  (l11 : K.lookup f11 = some ⟨oc11, od11, .func (PySem.W.fnOf "ascends_along" "ascends_along" (defArgs sAsc) (defBody sAsc) (defScope sAsc) .none kV11 dc11 pm11 an11 cd11 ct11), sl11⟩)
  (c11 : PySem.W.codeIn K cd11 "ascends_along" = true) (k11 : PySem.W.keepIn K (.ref f11) = true)
  (a12 : PySem.W.nsIn K mainGlobals "_law_draws" = some (some (.ref f12)))
  (l12 : K.lookup f12 = some ⟨oc12, od12, .func (PySem.W.fnOf "_law_draws" "_law_draws" (defArgs sLDraws) (defBody sLDraws) (defScope sLDraws) .none kV12 dc12 pm12 an12 cd12 ct12), sl12⟩)
  (c12 : PySem.W.codeIn K cd12 "_law_draws" = true) (k12 : PySem.W.keepIn K (.ref f12) = true)
  (a13 : PySem.W.nsIn K mainGlobals "_law_next" = some (some (.ref f13)))
  (l13 : K.lookup f13 = some ⟨oc13, od13, .func (PySem.W.fnOf "_law_next" "_law_next" (defArgs sLNext) (defBody sLNext) (defScope sLNext) .none kV13 dc13 pm13 an13 cd13 ct13), sl13⟩)
  (c13 : PySem.W.codeIn K cd13 "_law_next" = true) (k13 : PySem.W.keepIn K (.ref f13) = true)
  (a14 : PySem.W.nsIn K mainGlobals "_law_family" = some (some (.ref f14)))
  (l14 : K.lookup f14 = some ⟨oc14, od14, .func (PySem.W.fnOf "_law_family" "_law_family" (defArgs sLFamily) (defBody sLFamily) (defScope sLFamily) .none kV14 dc14 pm14 an14 cd14 ct14), sl14⟩)
  (c14 : PySem.W.codeIn K cd14 "_law_family" = true) (k14 : PySem.W.keepIn K (.ref f14) = true)
  (a15 : PySem.W.nsIn K mainGlobals "_law_load" = some (some (.ref f15)))
  (l15 : K.lookup f15 = some ⟨oc15, od15, .func (PySem.W.fnOf "_law_load" "_law_load" (defArgs sLLoad) (defBody sLLoad) (defScope sLLoad) .none kV15 dc15 pm15 an15 cd15 ct15), sl15⟩)
  (c15 : PySem.W.codeIn K cd15 "_law_load" = true) (k15 : PySem.W.keepIn K (.ref f15) = true)
  (a16 : PySem.W.nsIn K mainGlobals "_law_sorted" = some (some (.ref f16)))
  (l16 : K.lookup f16 = some ⟨oc16, od16, .func (PySem.W.fnOf "_law_sorted" "_law_sorted" (defArgs sLSorted) (defBody sLSorted) (defScope sLSorted) .none kV16 dc16 pm16 an16 cd16 ct16), sl16⟩)
  (c16 : PySem.W.codeIn K cd16 "_law_sorted" = true) (k16 : PySem.W.keepIn K (.ref f16) = true)
  (a17 : PySem.W.nsIn K mainGlobals "_law_after" = some (some (.ref f17)))
  (l17 : K.lookup f17 = some ⟨oc17, od17, .func (PySem.W.fnOf "_law_after" "_law_after" (defArgs sLAfter) (defBody sLAfter) (defScope sLAfter) .none kV17 dc17 pm17 an17 cd17 ct17), sl17⟩)
  (c17 : PySem.W.codeIn K cd17 "_law_after" = true) (k17 : PySem.W.keepIn K (.ref f17) = true)
  (a18 : PySem.W.nsIn K mainGlobals "_law_is" = some (some (.ref f18)))
  (l18 : K.lookup f18 = some ⟨oc18, od18, .func (PySem.W.fnOf "_law_is" "_law_is" (defArgs sLIs) (defBody sLIs) (defScope sLIs) .none kV18 dc18 pm18 an18 cd18 ct18), sl18⟩)
  (c18 : PySem.W.codeIn K cd18 "_law_is" = true) (k18 : PySem.W.keepIn K (.ref f18) = true)
  (a19 : PySem.W.nsIn K mainGlobals "_law_right" = some (some (.ref f19)))
  (l19 : K.lookup f19 = some ⟨oc19, od19, .func (PySem.W.fnOf "_law_right" "_law_right" (defArgs sLRight) (defBody sLRight) (defScope sLRight) .none kV19 dc19 pm19 an19 cd19 ct19), sl19⟩)
  (c19 : PySem.W.codeIn K cd19 "_law_right" = true) (k19 : PySem.W.keepIn K (.ref f19) = true)
  (a20 : PySem.W.nsIn K mainGlobals "_law_row_right" = some (some (.ref f20)))
  (l20 : K.lookup f20 = some ⟨oc20, od20, .func (PySem.W.fnOf "_law_row_right" "_law_row_right" (defArgs sLRowRight) (defBody sLRowRight) (defScope sLRowRight) .none kV20 dc20 pm20 an20 cd20 ct20), sl20⟩)
  (c20 : PySem.W.codeIn K cd20 "_law_row_right" = true) (k20 : PySem.W.keepIn K (.ref f20) = true)
  (a21 : PySem.W.nsIn K mainGlobals "law" = some (some (.ref f21)))
  (l21 : K.lookup f21 = some ⟨oc21, od21, .func (PySem.W.fnOf "law" "law" (defArgs sLaw) (defBody sLaw) (defScope sLaw) .none kV21 dc21 pm21 an21 cd21 ct21), sl21⟩)
  (c21 : PySem.W.codeIn K cd21 "law" = true) (k21 : PySem.W.keepIn K (.ref f21) = true)
  (zlen : PySem.W.nsIn K mainGlobals "len" = some none)
  (zisi : PySem.W.nsIn K mainGlobals "isinstance" = some none)
  (zint : PySem.W.nsIn K mainGlobals "int" = some none)
  (zbool : PySem.W.nsIn K mainGlobals "bool" = some none)
  (zlist : PySem.W.nsIn K mainGlobals "list" = some none)
  (zenum : PySem.W.nsIn K mainGlobals "enumerate" = some none)
  (zset : PySem.W.nsIn K mainGlobals "set" = some none)
  (zzip : PySem.W.nsIn K mainGlobals "zip" = some none)
  (zsorted : PySem.W.nsIn K mainGlobals "sorted" = some none)
  (zrange : PySem.W.nsIn K mainGlobals "range" = some none)
  (zrepr : PySem.W.nsIn K mainGlobals "repr" = some none)
  (zmin : PySem.W.nsIn K mainGlobals "min" = some none)
  (mM : PySem.W.nsIn K mainGlobals "MOST_PLACES" = some (some (.int 40 tM)))
  : ∃ fd : FuncData, (∀ (s : Shared) (v : Value), BindsTo s fd ⟨[v], []⟩ [("script", v)]) ∧ ∀ base : Heap, K.In base → base.Ns mainGlobals mg → FnG l.prog w K mg base 7 fa fd ["script"] (spLaw K) := by
  have e := hfa.symm.trans (PySem.W.mg_of X G a21)
  cases e
  have N : Nb mg := ⟨PySem.W.mg_none_of X G zlen, PySem.W.mg_none_of X G zisi, PySem.W.mg_none_of X G zint, PySem.W.mg_none_of X G zbool, PySem.W.mg_none_of X G zlist, PySem.W.mg_none_of X G zenum, PySem.W.mg_none_of X G zset, PySem.W.mg_none_of X G zzip, PySem.W.mg_none_of X G zsorted, PySem.W.mg_none_of X G zrange, PySem.W.mg_none_of X G zrepr, PySem.W.mg_none_of X G zmin⟩
  have F1 := fun_mk (st := sWhole) l1 c1 k1
  have b1 := F1.binds (ps := ["thing"]) fun _ _ _ _ _ _ us hl => match us, hl with | [_], _ => rfl
  have F2 := fun_mk (st := sWithin) l2 c2 k2
  have b2 := F2.binds (ps := ["thing", "least", "most"]) fun _ _ _ _ _ _ us hl => match us, hl with | [_, _, _], _ => rfl
  have F3 := fun_mk (st := sChFill) l3 c3 k3
  have b3 := F3.binds (ps := ["filling"]) fun _ _ _ _ _ _ us hl => match us, hl with | [_], _ => rfl
  have F4 := fun_mk (st := sChFam) l4 c4 k4
  have b4 := F4.binds (ps := ["places", "family"]) fun _ _ _ _ _ _ us hl => match us, hl with | [_, _], _ => rfl
  have F5 := fun_mk (st := sChRow) l5 c5 k5
  have b5 := F5.binds (ps := ["places", "row"]) fun _ _ _ _ _ _ us hl => match us, hl with | [_, _], _ => rfl
  have F6 := fun_mk (st := sFault) l6 c6 k6
  have b6 := F6.binds (ps := ["places", "family"]) fun _ _ _ _ _ _ us hl => match us, hl with | [_, _], _ => rfl
  have F7 := fun_mk (st := sSortBy) l7 c7 k7
  have b7 := F7.binds (ps := ["filling", "family"]) fun _ _ _ _ _ _ us hl => match us, hl with | [_, _], _ => rfl
  have F8 := fun_mk (st := sIsBy) l8 c8 k8
  have b8 := F8.binds (ps := ["filling", "family"]) fun _ _ _ _ _ _ us hl => match us, hl with | [_, _], _ => rfl
  have F9 := fun_mk (st := sAfterRow) l9 c9 k9
  have b9 := F9.binds (ps := ["filling", "row"]) fun _ _ _ _ _ _ us hl => match us, hl with | [_, _], _ => rfl
  have F10 := fun_mk (st := sAlong) l10 c10 k10
  have b10 := F10.binds (ps := ["filling", "family"]) fun _ _ _ _ _ _ us hl => match us, hl with | [_, _], _ => rfl
  have F11 := fun_mk (st := sAsc) l11 c11 k11
  have b11 := F11.binds (ps := ["filling", "family"]) fun _ _ _ _ _ _ us hl => match us, hl with | [_, _], _ => rfl
  have F12 := fun_mk (st := sLDraws) l12 c12 k12
  have b12 := F12.binds (ps := ["cell"]) fun _ _ _ _ _ _ us hl => match us, hl with | [_], _ => rfl
  have F13 := fun_mk (st := sLNext) l13 c13 k13
  have b13 := F13.binds (ps := ["draws"]) fun _ _ _ _ _ _ us hl => match us, hl with | [_], _ => rfl
  have F14 := fun_mk (st := sLFamily) l14 c14 k14
  have b14 := F14.binds (ps := ["draws", "many"]) fun _ _ _ _ _ _ us hl => match us, hl with | [_, _], _ => rfl
  have F15 := fun_mk (st := sLLoad) l15 c15 k15
  have b15 := F15.binds (ps := ["draws", "many"]) fun _ _ _ _ _ _ us hl => match us, hl with | [_, _], _ => rfl
  have F16 := fun_mk (st := sLSorted) l16 c16 k16
  have b16 := F16.binds (ps := ["load", "chains"]) fun _ _ _ _ _ _ us hl => match us, hl with | [_, _], _ => rfl
  have F17 := fun_mk (st := sLAfter) l17 c17 k17
  have b17 := F17.binds (ps := ["load", "line"]) fun _ _ _ _ _ _ us hl => match us, hl with | [_, _], _ => rfl
  have F18 := fun_mk (st := sLIs) l18 c18 k18
  have b18 := F18.binds (ps := ["load", "chains"]) fun _ _ _ _ _ _ us hl => match us, hl with | [_, _], _ => rfl
  have F19 := fun_mk (st := sLRight) l19 c19 k19
  have b19 := F19.binds (ps := ["load", "chains"]) fun _ _ _ _ _ _ us hl => match us, hl with | [_, _], _ => rfl
  have F20 := fun_mk (st := sLRowRight) l20 c20 k20
  have b20 := F20.binds (ps := ["load", "line"]) fun _ _ _ _ _ _ us hl => match us, hl with | [_, _], _ => rfl
  have F21 := fun_mk (st := sLaw) l21 c21 k21
  have kb7 := kb_sw (a := "filling") (b := "family") F7 fun _ _ _ _ _ _ _ _ => rfl
  have kb8 := kb_sw (a := "filling") (b := "family") F8 fun _ _ _ _ _ _ _ _ => rfl
  have kb9 := kb_sw (a := "filling") (b := "row") F9 fun _ _ _ _ _ _ _ _ => rfl
  refine ⟨PySem.W.fnOf "law" "law" (defArgs sLaw) (defBody sLaw) (defScope sLaw) .none kV21 dc21 pm21 an21 cd21 ct21, fun s v => .of_eq rfl, fun base _ _ => ?_⟩
  have g1 : mg "is_whole" = some (.ref f1) := PySem.W.mg_of X G a1
  have g2 : mg "is_whole_within" = some (.ref f2) := PySem.W.mg_of X G a2
  have g3 : mg "check_filling" = some (.ref f3) := PySem.W.mg_of X G a3
  have g4 : mg "check_family" = some (.ref f4) := PySem.W.mg_of X G a4
  have g5 : mg "check_row" = some (.ref f5) := PySem.W.mg_of X G a5
  have g6 : mg "fault_of_family" = some (.ref f6) := PySem.W.mg_of X G a6
  have g7 : mg "sort_by" = some (.ref f7) := PySem.W.mg_of X G a7
  have g8 : mg "is_sorted_by" = some (.ref f8) := PySem.W.mg_of X G a8
  have g9 : mg "after_row" = some (.ref f9) := PySem.W.mg_of X G a9
  have g10 : mg "sorted_along" = some (.ref f10) := PySem.W.mg_of X G a10
  have g11 : mg "ascends_along" = some (.ref f11) := PySem.W.mg_of X G a11
  have g12 : mg "_law_draws" = some (.ref f12) := PySem.W.mg_of X G a12
  have g13 : mg "_law_next" = some (.ref f13) := PySem.W.mg_of X G a13
  have g14 : mg "_law_family" = some (.ref f14) := PySem.W.mg_of X G a14
  have g15 : mg "_law_load" = some (.ref f15) := PySem.W.mg_of X G a15
  have g16 : mg "_law_sorted" = some (.ref f16) := PySem.W.mg_of X G a16
  have g17 : mg "_law_after" = some (.ref f17) := PySem.W.mg_of X G a17
  have g18 : mg "_law_is" = some (.ref f18) := PySem.W.mg_of X G a18
  have g19 : mg "_law_right" = some (.ref f19) := PySem.W.mg_of X G a19
  have g20 : mg "_law_row_right" = some (.ref f20) := PySem.W.mg_of X G a20
  have G1 := ok_whole (P := l.prog) (w := w) (base := base) F1 N
  have G2 := ok_within (P := l.prog) (w := w) (base := base) F2 G1 b1 g1 k1
  have G3 := ok_chFill (P := l.prog) (w := w) (base := base) F3 N (PySem.W.mg_of X G mM) G1 b1 g1 k1
  have G6 := ok_fault (P := l.prog) (w := w) (base := base) F6 N G2 b2 g2 k2
  have G4 := ok_chFam (P := l.prog) (w := w) (base := base) F4 G6 b6 g6 k6
  have G5 := ok_chRow (P := l.prog) (w := w) (base := base) F5 N G6 b6 g6 k6
  have G10 := ok_along (P := l.prog) (w := w) (mg := mg) (base := base) F10 N
  have G11 := ok_asc (P := l.prog) (w := w) (mg := mg) (base := base) F11 N
  have G7 := ok_sortBy F7 N G3 b3 g3 k3 G4 b4 g4 k4 G10 b10 g10 k10
  have G8 := ok_isBy F8 N G3 b3 g3 k3 G4 b4 g4 k4 G11 b11 g11 k11
  have G9 := ok_after F9 N G3 b3 g3 k3 G5 b5 g5 k5 G10 b10 g10 k10
  have G12 := ok_ldraws (P := l.prog) (w := w) (mg := mg) (base := base) F12 N
  have G13 := ok_lnext (P := l.prog) (w := w) (mg := mg) (base := base) F13 N
  have G14 := ok_lfam (P := l.prog) (w := w) (mg := mg) (base := base) F14 N G13 b13 g13 k13
  have G15 := ok_lload (P := l.prog) (w := w) (mg := mg) (base := base) F15 N G13 b13 g13 k13
  have G16 := ok_lsorted (P := l.prog) (w := w) (mg := mg) (base := base) F16 N
  have G17 := ok_lafter F17 N G16 b16 g16 k16
  have G18 := ok_lis (P := l.prog) (w := w) (mg := mg) (base := base) F18 N
  have G19 := ok_right F19 N ⟨G16, b16, g16, k16⟩ ⟨G7, b7, g7, k7⟩ ⟨G18, b18, g18, k18⟩ ⟨G8, b8, g8, k8⟩ kb7 kb8
  have G20 := ok_rowRight F20 N ⟨G17, b17, g17, k17⟩ ⟨G9, b9, g9, k9⟩ kb9
  exact ok_law F21 N ⟨G12, b12, g12, k12⟩ ⟨G13, b13, g13, k13⟩ ⟨G15, b15, g15, k15⟩ ⟨G14, b14, g14, k14⟩ ⟨G20, b20, g20, k20⟩ ⟨G19, b19, g19, k19⟩ ⟨G9, b9, g9, k9⟩ ⟨G7, b7, g7, k7⟩ ⟨G8, b8, g8, k8⟩
end K01
open PySem PySem.W PyProof.Rows
set_option maxRecDepth 100000 in
set_option maxHeartbeats 0 in
theorem PySem.Challenge.cw_keptsorted_k01_families_holds : PySem.Challenge.rw_keptsorted_k01_families.Holds := by
  w_on; o_law; k_head; (case hw => w_witness2)
  k_fill
  refine Kt.walkG (l := PySem.Challenge.rw_keptsorted_k01_families) (n := 63) (k := 7) (x := "script") (sp := K01.spLaw) rfl (by decide) rfl ⟨rfl, by decide, by decide⟩ (fun w h Y => PySem.W.kIn_of Y) ?F (fun K H a ns hl hS => ⟨a, ns, rfl, hS, hl, fun _ => rfl⟩)
  case F =>
    intro w mg fa h KX G hmg
    refine' K01.all_mk KX G hmg ?a1 ?l1 ?c1 ?k1 ?a2 ?l2 ?c2 ?k2 ?a3 ?l3 ?c3 ?k3 ?a4 ?l4 ?c4 ?k4 ?a5 ?l5 ?c5 ?k5 ?a6 ?l6 ?c6 ?k6 ?a7 ?l7 ?c7 ?k7 ?a8 ?l8 ?c8 ?k8 ?a9 ?l9 ?c9 ?k9 ?a10 ?l10 ?c10 ?k10 ?a11 ?l11 ?c11 ?k11 ?a12 ?l12 ?c12 ?k12 ?a13 ?l13 ?c13 ?k13 ?a14 ?l14 ?c14 ?k14 ?a15 ?l15 ?c15 ?k15 ?a16 ?l16 ?c16 ?k16 ?a17 ?l17 ?c17 ?k17 ?a18 ?l18 ?c18 ?k18 ?a19 ?l19 ?c19 ?k19 ?a20 ?l20 ?c20 ?k20 ?a21 ?l21 ?c21 ?k21 ?zlen ?zisi ?zint ?zbool ?zlist ?zenum ?zset ?zzip ?zsorted ?zrange ?zrepr ?zmin ?mM
    (case a1 => k_is)
    (case l1 => k_is)
    (case c1 => k_is)
    (case k1 => k_is)
    (case a2 => k_is)
    (case l2 => k_is)
    (case c2 => k_is)
    (case k2 => k_is)
    (case a3 => k_is)
    (case l3 => k_is)
    (case c3 => k_is)
    (case k3 => k_is)
    (case a4 => k_is)
    (case l4 => k_is)
    (case c4 => k_is)
    (case k4 => k_is)
    (case a5 => k_is)
    (case l5 => k_is)
    (case c5 => k_is)
    (case k5 => k_is)
    (case a6 => k_is)
    (case l6 => k_is)
    (case c6 => k_is)
    (case k6 => k_is)
    (case a7 => k_is)
    (case l7 => k_is)
    (case c7 => k_is)
    (case k7 => k_is)
    (case a8 => k_is)
    (case l8 => k_is)
    (case c8 => k_is)
    (case k8 => k_is)
    (case a9 => k_is)
    (case l9 => k_is)
    (case c9 => k_is)
    (case k9 => k_is)
    (case a10 => k_is)
    (case l10 => k_is)
    (case c10 => k_is)
    (case k10 => k_is)
    (case a11 => k_is)
    (case l11 => k_is)
    (case c11 => k_is)
    (case k11 => k_is)
    (case a12 => k_is)
    (case l12 => k_is)
    (case c12 => k_is)
    (case k12 => k_is)
    (case a13 => k_is)
    (case l13 => k_is)
    (case c13 => k_is)
    (case k13 => k_is)
    (case a14 => k_is)
    (case l14 => k_is)
    (case c14 => k_is)
    (case k14 => k_is)
    (case a15 => k_is)
    (case l15 => k_is)
    (case c15 => k_is)
    (case k15 => k_is)
    (case a16 => k_is)
    (case l16 => k_is)
    (case c16 => k_is)
    (case k16 => k_is)
    (case a17 => k_is)
    (case l17 => k_is)
    (case c17 => k_is)
    (case k17 => k_is)
    (case a18 => k_is)
    (case l18 => k_is)
    (case c18 => k_is)
    (case k18 => k_is)
    (case a19 => k_is)
    (case l19 => k_is)
    (case c19 => k_is)
    (case k19 => k_is)
    (case a20 => k_is)
    (case l20 => k_is)
    (case c20 => k_is)
    (case k20 => k_is)
    (case a21 => k_is)
    (case l21 => k_is)
    (case c21 => k_is)
    (case k21 => k_is)
    (case zlen => k_is)
    (case zisi => k_is)
    (case zint => k_is)
    (case zbool => k_is)
    (case zlist => k_is)
    (case zenum => k_is)
    (case zset => k_is)
    (case zzip => k_is)
    (case zsorted => k_is)
    (case zrange => k_is)
    (case zrepr => k_is)
    (case zmin => k_is)
    (case mM => k_is)
#print axioms PySem.Challenge.cw_keptsorted_k01_families_holds


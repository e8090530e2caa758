import PyProof.Rows.All
import Wide.All
import OpenK.AllK
import Wide.FinOn
import HandS.ForMost
import HandS.Strs
import HandS.SortInts
import HandS.Conv
import HandS.Walk
import HandS.IsInst
import HandS.Defaults
import HandS.Wide
import HandS.RaiseMore
import PyProof.ReprRoads
import PyProof.ReprLen
import PySem.Challenge.RW_keptsorted_k22_whole_coming_to_rest
set_option Elab.async false
set_option linter.all false
set_option maxRecDepth 100000
set_option maxHeartbeats 4000000
/-! A layer of my own over the hand layer: repr of data (with the guards told), calls whose promise wants the guards, calls by keywords alone, list(range) with a step, great powers. -/
namespace Kt
open PySem L2 PyProof.Rows

/-! ### promises that want to know that no repr is under way -/
structure FnG (P : Program) (w : World) (K : PySem.W.Frag) (mg : Str → Option Value) (base : Heap) (k : Nat) (f : Addr) (fd : FuncData) (ps : List Str) (sp : Sp) : Prop where
  arity : ∀ vs H Q, sp vs H Q E0 → vs.length = ps.length
  go : ∀ (A : Around) (below : List Env) (s : Shared) (H : Hp) (args : Args) (us : List Value) (vs : List V) (Q : VK), Room k A → A.guards = some [] → Env0 P w K mg base A below s H →
    BindsTo s fd args (ps.zip us) → Vals vs us → sp vs H Q E0 → codeAny (model P w) A (.call (.ref f) args) (CR CX0 below P w H s Q E0) s

theorem FnG.up {P : Program} {w : World} {K : PySem.W.Frag} {mg : Str → Option Value} {base : Heap} {j k : Nat} {f : Addr} {fd : FuncData} {ps : List Str} {sp : Sp} (F : FnG P w K mg base j f fd ps sp) (h : j ≤ k) : FnG P w K mg base k f fd ps sp :=
  ⟨F.arity, fun A below s H args us vs Q hr => F.go A below s H args us vs Q (hr.mono h)⟩

/-- a def's promise, shown where no repr is under way -/
theorem fnG_of {P : Program} {w : World} {K : PySem.W.Frag} {mg : Str → Option Value} {base : Heap} {x qual : Str} {st : Stmt} {f : Addr} {fd : FuncData} {N ps : List Str} {k : Nat} {sp : Sp} (F : Fun K x qual st f fd) (S : FnScope N ps (defScope st))
    (arity : ∀ vs H Q, sp vs H Q E0 → vs.length = ps.length)
    (body : ∀ (cdv : Value) (A : Around) (below : List Env) (s : Shared) (H : Hp) (vs : List V) (Q : VK), Room k (A.deeper (envOfC qual (defScope st) s.heap.objs.size f cdv)) → A.guards = some [] → sp vs H Q E0 →
      ∃ t, PSs (cxOf CX0 P w K mg base N qual (defScope st) f cdv A below s H E0).nox (defBody st) t ∧ t { nx := fun _ H' => Q .non H', rt := Q } (start N vs) H) :
    FnG P w K mg base (k + 1) f fd ps sp := by
  obtain ⟨oc, od, kV, doc, pm, an, cdv, ct, osl, rfl, lk, hcd⟩ := F.ex
  refine ⟨arity, fun A below s H args us vs Q hr hg e0 hb r hsp => ?_⟩
  have hl := arity _ _ _ hsp
  have old : ∀ b o, base.get? b = some o → s.heap.get? b = some o := fun b o e => (e0.bs b o e).1
  have places : ∀ y ∈ ps.zip us, (defScope st).names.lookup y.1 = some .local ∨ ((defScope st).names.lookup y.1 = some .cell ∧ ((cellsFrom (s.heap.objs.size + 1) (defScope st).names []).lookup y.1).isSome = true) := by
    rintro ⟨n, v⟩ hy
    cases S.par n (List.of_mem_zip hy).1 with
    | inl q => exact .inl q
    | inr q => exact .inr ⟨q, PySem.W.cellsFrom_some _ _ _ (.inl q)⟩
  refine codeAny_call_function hr.depth (e0.mod.kin.keeps old _ _ lk) rfl S.co S.gen rfl (PySem.W.codeRec_of (e0.mod.kin.keeps old) hcd) (hb _ _ _ _ ?_)
  refine wpAny_newFunctionEnv_cells S.kind places fun env he s1 y => ?_
  subst he
  refine ⟨(e0.mod.nolimit.keeps old).keeps y.toInCall.keep, codeAny_func ?_⟩
  obtain ⟨t, ht, hq⟩ := body cdv A below s H vs Q (hr.deeper _) hg hsp
  have I : Inv (cxOf CX0 P w K mg base N qual (defScope st) f cdv A below s H E0) [] (start N vs) H s1 := inv_start S hr.hd e0 hl r y
  refine wpAny_mono (ht.nox.run [] s1 (start N vs) H _ I hq) ?_ fun e s' hs => hs
  intro fl s' hs
  have done : ∀ {τ : L2.St} {H' : Hp} {v : V} {u : Value}, Inv (cxOf CX0 P w K mg base N qual (defScope st) f cdv A below s H E0) [] τ H' s' → RelV v u → Q v H' → CE below P w H s Q u s' :=
    fun {τ H' v u} J rv q => ⟨v, H', J.os, J.bare, J.base, J.hok, rv, q⟩
  match fl, hs with
  | .ret u, hs =>
    obtain ⟨v, τ, H', J, rv, q⟩ := hs
    exact done J rv q
  | .next, hs =>
    obtain ⟨τ, H', J, q⟩ := hs
    exact done (v := V.non) (u := Value.none) J rfl q
  | .brk, hs => exact False.elim hs.choose_spec.choose_spec.2
  | .cont, hs => exact False.elim hs.choose_spec.choose_spec.2

section
variable {X : Cx} {k : Nat} {f : Addr} {fd : FuncData} {ps ks : List Str} {sp : Sp} {x : Str} {p pos : Pos} {e : Expr} {es : List Expr} {kws : List Keyword} {t tk : TA} {g : List Value → List Value → List Value} {gV : List V → List V → List V}
/-- a call of such a def -/
theorem pe_callG (F : FnG X.prog X.w X.K X.mg X.base k f fd ps sp) (hr : Room k X.A) (gu : X.A.guards = some []) (gl : Gl X x) (hm : X.mg x = some (.ref f)) (hk : PySem.W.keepIn X.K (.ref f) = true) (hb : Binds X.K fd ps []) (ha : PA X (e :: es) t)
    (hdb : (x == ("__debug__" : Str)) = false := by decide) (he : starEach (e :: es) X.env = (false, eval e X.env) :: starEach es X.env := by rfl) (hpl : (backTo pos (starEach es X.env)).any (·.1) = false := by rfl) :
    PE X (.Call (.Name x p) (e :: es) [] pos) (tCall sp [] E0 t) := by
  refine ⟨fun pins s σ H Q I h => wpAny_Call_Name_kw (ld_glob I gl hm ?_ hdb)⟩
  refine PySem.W.callWith_K (h₀ := X.base) I.ok.mod.kin hk (thn (ha.run pos pins s σ H _ I h) fun us s1 ⟨vs, H1, I1, r, q⟩ => ⟨I1.kIn, ?_⟩) he hpl
  have q' : sp vs H1 Q E0 := by
    have z : sp (vs ++ []) H1 Q E0 := q
    rw [List.append_nil] at z
    exact z
  have hl : us.length = ps.length := r.length.symm.trans (F.arity _ _ _ q')
  have bd : BindsTo s1 fd ⟨us, []⟩ (ps.zip us) := by
    have z := hb s1 us I1.kIn (by rw [List.append_nil]; exact hl)
    rw [List.append_nil] at z
    exact z
  refine wpAny_call (codeAny_mono (F.go X.A X.stack s1 H1 ⟨us, []⟩ us vs Q hr gu I1.env0 bd r q') fun res s2 hq => ?_)
  match res, hq with
  | .ok (.ret u), hq => exact I1.after hq
  | .ok .next, hq => exact False.elim hq
  | .ok .brk, hq => exact False.elim hq
  | .ok .cont, hq => exact False.elim hq
  | .error _, hq => exact False.elim hq
/-- f(k = v, ..), no value by its place -/
theorem pe_callK0 (F : FnOk X.prog X.w X.K X.mg X.base CX0 k f fd ps sp) (hr : Room k X.A) (hg : Gl X x) (hm : X.mg x = some (.ref f)) (hk : PySem.W.keepIn X.K (.ref f) = true) (hb : KBinds X.K fd ps ks g gV)
    (hkw : PK X kws tk) (hall : (backToKw pos (keywordEach kws X.env)).all (·.1.isSome) = true := by rfl) (hks : (backToKw pos (keywordEach kws X.env)).filterMap (·.1) = ks := by rfl) (hdb : (x == ("__debug__" : Str)) = false := by decide)
    (hpl : ((backTo pos (starEach [] X.env)).any (·.1) || (backToKw pos (keywordEach kws X.env)).any (·.1.isNone)) = false := by rfl) :
    PE X (.Call (.Name x p) [] kws pos) (tCallK sp gV E0 tNil tk) := by
  refine ⟨fun pins s σ H Q I h => wpAny_Call_Name_kw (ld_glob I hg hm ?_ hdb)⟩
  refine PySem.W.callWith_KW0 (h₀ := X.base) I.ok.mod.kin hk hall (thn (hkw.run pos pins s σ H _ I h) fun ws s2 ⟨zs, H2, I2, rz, q2⟩ => ⟨I2.kIn, ?_⟩) hpl
  rw [hks]
  exact run_fnk (us := []) F hr hb pass0 I2 .nil rz q2
end

/-! ### repr of data -/
section
variable {X : Cx}
@[irreducible] def rReprD (K : PySem.W.Frag) : List V → Hp → VK → Prop := fun vs H Q => ∃ (a : Addr) (ds : List PyData), vs = [V.ref a] ∧ Dp K H (.ref a) (.list ds) ∧ PyData.showable (.list ds) = true ∧ PyData.hasDict (.list ds) = false ∧ PyData.depth (.list ds) ≤ 60 ∧
  (PyData.shown (.list ds)).length ≤ sizeLine ∧ Q (.str (PyData.shown (.list ds))) H
theorem call_reprD (gu : X.A.guards = some []) (hu : X.A.units + 64 < cLine) : CallR X (.builtin "repr") (rReprD X.K) := by
  intro pins s σ H vs us Q I r h
  unfold rReprD at h
  obtain ⟨a, ds, rfl, hd, h1, h2, h3, h4, q⟩ := h
  rw [Vals.ref1 r]
  obtain ⟨as, rd⟩ := Dp.reads I _ _ _ hd (show RelV (.ref a) (Value.ref a) from rfl)
  refine repr_of_reads' rd h1 (fun z => by rw [h2] at z; cases z) gu (by omega) (fun _ _ e => e) (fun h' u tk keep => ?_) h4
  exact ⟨.str _, H, I.kept (t' := tk) keep, ⟨u, rfl⟩, q⟩
end

/-! ### great powers; list(range(a, b, c)) -/
section
variable {X : Cx}
def CPowW (i j : Int) : Prop := 0 ≤ j ∧ (Builtin.Int.intBits i : Int) * j ≤ 2 ^ 27
theorem op_powW : OpR X (binaryOp .Pow) (rI CPowW fun i j => .int (i ^ j.toNat)) := opI fun _ _ _ _ _ _ _ hc q => PyProof.Rows.pow_int hc.1 hc.2 q

/-- the ints a, a + c, .. (n of them) -/
def stepV (a c : Int) (n : Nat) : List V := (List.range n).map fun i => V.int (a + (i : Nat) * c)
theorem stepV_length (a c : Int) (n : Nat) : (stepV a c n).length = n := by unfold stepV; rw [List.length_map, List.length_range]
def tLstRg3 (ta : TA) : TE := fun σ H Q => ta σ H fun vs H1 => ∃ (a b c : Int) (n : Nat), vs = [.int a, .int b, .int c] ∧ RgC a b c n ∧ n ≤ 1000 ∧ ∀ q, H1 q = none → Q (.ref q) (upd H1 q (.lst (stepV a c n)))
theorem pe_listRg3 {ta : TA} {a b c : Expr} {p p2 pos pos2 : Pos} (hc : X.calm = true) (hg : Gl X "list") (hm : X.mg "list" = none) (hg2 : Gl X "range") (hm2 : X.mg "range" = none) (ha : PA X [a, b, c] ta)
    (hs : starEach [a, b, c] X.env = (false, eval a X.env) :: starEach [b, c] X.env := by rfl) (hpl : (backTo pos2 (starEach [b, c] X.env)).any (·.1) = false := by rfl)
    (na : starEach [(.Call (.Name "range" p2) [a, b, c] [] pos2)] X.env = (false, eval (.Call (.Name "range" p2) [a, b, c] [] pos2) X.env) :: starEach [] X.env := by rfl) :
    PE X (.Call (.Name "list" p) [.Call (.Name "range" p2) [a, b, c] [] pos2] [] pos) (tLstRg3 ta) := by
  refine ⟨fun pins s σ H Q I h => ?_⟩
  refine Call_ (ld_blt I hg hm boot_list (PyProof.Rows.callWith_type1 (args_cons ?_ na) na))
  refine Call_ (ld_blt I hg2 hm2 boot_range (PyProof.Rows.callWith_type1 (thn (ha.run pos2 pins s σ H _ I h) fun us s1 ⟨vs, H1, I1, r1, q1⟩ => ?_) hs hpl))
  obtain ⟨i, j, k, n, rfl, ⟨c0, c1, c2, c3⟩, hn, q⟩ := q1
  cases r1 with
  | cons ra r1 =>
    cases r1 with
    | cons rb r1 =>
      cases r1 with
      | cons rc r1 =>
        cases r1
        obtain ⟨t1, rfl⟩ := ra
        obtain ⟨t2, rfl⟩ := rb
        obtain ⟨t3, rfl⟩ := rc
        refine call_range_3 c0 (args_nil ?_) (.inl (PyProof.noPylong_small c1))
        have I2 := I1.kept (t' := s1.toks) (h' := s1.heap.push { cls := .type "range", data := .fields #[.int i t1, .int j t2, .int k t3] }) fun b o e => Heap.get?_push_of_some _ e
        have z : n ≤ 2 ^ 24 := Nat.le_trans hn (by decide)
        refine call_list_range (n := n) (I2.ok.hd hc) (IsRange.new ..) c2 c3 z fun h' tk acc cap hk e' hi => ?_
        have el : acc.toList.length = n := by rw [Array.length_toList]; exact hi.1
        have rv : Vals (stepV i k n) acc.toList := by
          unfold stepV
          rw [← el]
          refine vals_of_get acc.toList _ fun m u hm => ?_
          obtain ⟨tt, rfl⟩ := hi.2 m u (by rw [← hm, Array.getElem?_toList])
          exact ⟨tt, rfl⟩
        refine ⟨.ref _, _, I2.laid (t' := tk) (o := .lst (stepV i k n)) hk (Nat.le_refl _) ⟨?_, acc.toList, cap, rv, ?_⟩, rfl, q _ (I2.hok.fresh (Nat.le_refl _))⟩
        · rw [stepV_length, sizeLine_eq]
          omega
        · rw [Array.toArray_toList]
          exact e'
end
end Kt

set_option Elab.async false
set_option linter.all false
set_option maxRecDepth 100000
set_option maxHeartbeats 4000000
/-! The mathematics of sorting along chains, and how lists of ints, families and rows lie in the heap. -/
namespace Kt
open PySem L2 PyProof.Rows

/-! ### sorting along chains -/
def le? (a b : Int) : Bool := decide (a ≤ b)
def srt (xs : List Int) : List Int := xs.mergeSort le?
theorem srt_perm (xs : List Int) : (srt xs).Perm xs := List.mergeSort_perm _ _
theorem srt_up (xs : List Int) : (srt xs).Pairwise (· ≤ ·) := by
  have h := List.pairwise_mergeSort (le := le?) (fun a b c h1 h2 => by unfold le? at *; simp at *; omega) (fun a b => by unfold le?; simp; omega) xs
  refine h.imp fun {a b} q => ?_
  unfold le? at q
  simpa using q
theorem srt_of {xs ys : List Int} (p : ys.Perm xs) (s : ys.Pairwise (· ≤ ·)) : ys = srt xs := PySem.W.ksm_same (p.trans (srt_perm xs).symm) s (srt_up xs)
theorem srt_len (xs : List Int) : (srt xs).length = xs.length := (srt_perm xs).length_eq

/-- the value at a place, from 1 -/
def at1 (load : List Int) (p : Int) : Int := load.getD (p - 1).toNat 0
def put1 (r : List Int) (q : Int × Int) : List Int := r.set (q.1 - 1).toNat q.2
def put (r : List Int) (c vs : List Int) : List Int := (c.zip vs).foldl put1 r
def along1 (load r c : List Int) : List Int := put r c (srt (c.map (at1 load)))
def sortAlong (load : List Int) (f : List (List Int)) : List Int := f.foldl (along1 load) load
def afterRow (load : List Int) (r : List (List (List Int))) : List Int := r.foldl sortAlong load
/-- no value of a chain is greater than the next -/
def ascends (load : List Int) (c : List Int) : Bool := (c.zip c.tail).all fun q => decide (at1 load q.1 ≤ at1 load q.2)
def isSorted (load : List Int) (f : List (List Int)) : Bool := f.all (ascends load)

structure Valid (n : Nat) (f : List (List Int)) : Prop where
  nd : f.flatten.Nodup
  rg : ∀ x ∈ f.flatten, 1 ≤ x ∧ x ≤ (n : Int)

theorem put1_len (r : List Int) (q : Int × Int) : (put1 r q).length = r.length := by unfold put1; rw [List.length_set]
theorem fold_put1_len (l : List (Int × Int)) : ∀ r : List Int, (l.foldl put1 r).length = r.length := by
  induction l with
  | nil => intro r; rfl
  | cons q l ih => intro r; rw [List.foldl_cons, ih, put1_len]
theorem put_len (r c vs : List Int) : (put r c vs).length = r.length := fold_put1_len _ _
theorem along1_len (load r c : List Int) : (along1 load r c).length = r.length := put_len _ _ _
theorem fold_along_len (load : List Int) (f : List (List Int)) : ∀ r : List Int, (f.foldl (along1 load) r).length = r.length := by
  induction f with
  | nil => intro r; rfl
  | cons c f ih => intro r; rw [List.foldl_cons, ih, along1_len]
theorem sortAlong_len (load : List Int) (f : List (List Int)) : (sortAlong load f).length = load.length := fold_along_len _ _ _
theorem afterRow_len (r : List (List (List Int))) : ∀ load : List Int, (afterRow load r).length = load.length := by
  induction r with
  | nil => intro load; rfl
  | cons f r ih => intro load; show (afterRow (sortAlong load f) r).length = _; rw [ih, sortAlong_len]

theorem at1_put1_ne {r : List Int} {q : Int × Int} {p : Int} (hp : 1 ≤ p) (hq : 1 ≤ q.1) (h : p ≠ q.1) : at1 (put1 r q) p = at1 r p := by
  unfold at1 put1
  rw [List.getD_eq_getElem?_getD, List.getD_eq_getElem?_getD, List.getElem?_set_ne (by omega)]
theorem at1_put1_self {r : List Int} {q : Int × Int} (hq : 1 ≤ q.1) (hl : q.1 ≤ (r.length : Int)) : at1 (put1 r q) q.1 = q.2 := by
  unfold at1 put1
  rw [List.getD_eq_getElem?_getD, List.getElem?_set_self (by omega)]
  rfl
theorem fold_put1_other {p : Int} (hp : 1 ≤ p) (l : List (Int × Int)) : ∀ r : List Int, (∀ q ∈ l, 1 ≤ q.1 ∧ q.1 ≠ p) → at1 (l.foldl put1 r) p = at1 r p := by
  induction l with
  | nil => intro r _; rfl
  | cons q l ih =>
    intro r h
    obtain ⟨h1, h2⟩ := h q List.mem_cons_self
    rw [List.foldl_cons, ih _ fun x hx => h x (List.mem_cons_of_mem _ hx), at1_put1_ne hp h1 (Ne.symm h2)]
theorem put_other {p : Int} (hp : 1 ≤ p) {r c vs : List Int} (h : ∀ x ∈ c, 1 ≤ x ∧ x ≠ p) : at1 (put r c vs) p = at1 r p :=
  fold_put1_other hp _ _ fun q hq => h q.1 (List.of_mem_zip hq).1
theorem put_own {n : Int} (c : List Int) : ∀ (vs r : List Int), c.Nodup → (∀ x ∈ c, 1 ≤ x ∧ x ≤ n) → n ≤ (r.length : Int) → vs.length = c.length → c.map (at1 (put r c vs)) = vs := by
  induction c with
  | nil =>
    intro vs r _ _ _ hl
    have e : vs = [] := List.eq_nil_of_length_eq_zero (by simpa using hl)
    rw [e]
    rfl
  | cons x c ih =>
    intro vs r nd rg hn hl
    match vs, hl with
    | v :: vs, hl =>
      obtain ⟨nx, nd'⟩ := List.nodup_cons.mp nd
      obtain ⟨x1, x2⟩ := rg x List.mem_cons_self
      have rg' : ∀ y ∈ c, 1 ≤ y ∧ y ≤ n := fun y hy => rg y (List.mem_cons_of_mem _ hy)
      have e : put r (x :: c) (v :: vs) = put (put1 r (x, v)) c vs := rfl
      rw [e, List.map_cons, ih vs _ nd' rg' (by rw [put1_len]; exact hn) (by simpa using hl)]
      congr 1
      rw [put_other x1 fun y hy => ⟨(rg' y hy).1, fun z => nx (z ▸ hy)⟩]
      exact at1_put1_self (q := (x, v)) x1 (by omega)
theorem fold_along_other {load : List Int} {p : Int} (hp : 1 ≤ p) (f : List (List Int)) : ∀ r : List Int, (∀ x ∈ f.flatten, 1 ≤ x ∧ x ≠ p) → at1 (f.foldl (along1 load) r) p = at1 r p := by
  induction f with
  | nil => intro r _; rfl
  | cons c f ih =>
    intro r h
    rw [List.flatten_cons] at h
    rw [List.foldl_cons, ih _ fun x hx => h x (List.mem_append_right _ hx)]
    exact put_other hp fun x hx => h x (List.mem_append_left _ hx)
theorem fold_along_own {load : List Int} {n : Int} (f : List (List Int)) : ∀ r : List Int, f.flatten.Nodup → (∀ x ∈ f.flatten, 1 ≤ x ∧ x ≤ n) → n ≤ (r.length : Int) → ∀ c ∈ f, c.map (at1 (f.foldl (along1 load) r)) = srt (c.map (at1 load)) := by
  induction f with
  | nil => intro r _ _ _ c hc; cases hc
  | cons d f ih =>
    intro r nd rg hn c hc
    rw [List.flatten_cons] at nd rg
    obtain ⟨n1, n2, n3⟩ := List.nodup_append.mp nd
    rw [List.foldl_cons]
    rcases List.mem_cons.mp hc with hc | hc
    · subst hc
      have e : c.map (at1 (f.foldl (along1 load) (along1 load r c))) = c.map (at1 (along1 load r c)) := by
        refine List.map_congr_left fun x hx => ?_
        exact fold_along_other (rg x (List.mem_append_left _ hx)).1 f _ fun y hy => ⟨(rg y (List.mem_append_right _ hy)).1, fun z => n3 x hx y hy z.symm⟩
      rw [e]
      exact put_own c _ r n1 (fun x hx => rg x (List.mem_append_left _ hx)) hn (by rw [srt_len, List.length_map])
    · exact ih _ n2 (fun x hx => rg x (List.mem_append_right _ hx)) (by rw [along1_len]; exact hn) c hc
theorem sortAlong_own {load : List Int} {f : List (List Int)} (v : Valid load.length f) {c : List Int} (hc : c ∈ f) : c.map (at1 (sortAlong load f)) = srt (c.map (at1 load)) :=
  fold_along_own (n := (load.length : Int)) f load v.nd v.rg (Int.le_refl _) c hc
theorem ascends_of_up {load : List Int} (c : List Int) (h : (c.map (at1 load)).Pairwise (· ≤ ·)) : ascends load c = true := by
  unfold ascends
  induction c with
  | nil => rfl
  | cons x c ih =>
    cases c with
    | nil => rfl
    | cons y c =>
      rw [List.map_cons] at h
      obtain ⟨h1, h2⟩ := List.pairwise_cons.mp h
      have e := ih h2
      have z : at1 load x ≤ at1 load y := h1 _ (by rw [List.map_cons]; exact List.mem_cons_self)
      show (((x, y) :: ((y :: c).zip (y :: c).tail)).all _) = true
      rw [List.all_cons, e]
      simpa using z
theorem sorted_after {load : List Int} {f : List (List Int)} (v : Valid load.length f) : isSorted (sortAlong load f) f = true := by
  unfold isSorted
  refine List.all_eq_true.mpr fun c hc => ascends_of_up c ?_
  rw [sortAlong_own v hc]
  exact srt_up _

theorem nodup_le : ∀ (n : Nat) (l : List Int), l.Nodup → (∀ x ∈ l, 1 ≤ x ∧ x ≤ (n : Int)) → l.length ≤ n
  | 0, l, _, h => by
    cases l with
    | nil => exact Nat.le_refl _
    | cons x l =>
      have := h x List.mem_cons_self
      omega
  | n + 1, l, nd, h => by
    have nd' : (l.erase ((n : Int) + 1)).Nodup := nd.erase _
    have e := nodup_le n (l.erase ((n : Int) + 1)) nd' fun x hx => by
      obtain ⟨h1, h2⟩ := nd.mem_erase_iff.mp hx
      have h3 := h x h2
      omega
    have z : l.length ≤ (l.erase ((n : Int) + 1)).length + 1 := by
      rw [List.length_erase]
      split <;> omega
    omega
theorem Valid.len {n : Nat} {f : List (List Int)} (v : Valid n f) : f.flatten.length ≤ n := nodup_le n _ v.nd v.rg
theorem flatten_mem {f : List (List Int)} {c : List Int} {x : Int} (hc : c ∈ f) (hx : x ∈ c) : x ∈ f.flatten := List.mem_flatten.mpr ⟨c, hc, hx⟩

/-! ### turns of loops -/
theorem put_step {r c vs : List Int} {i : Nat} {p v : Int} (hc : c[i]? = some p) (hv : vs[i]? = some v) : put r (c.take (i + 1)) (vs.take (i + 1)) = put1 (put r (c.take i) (vs.take i)) (p, v) := by
  unfold put
  have tz : ∀ j, (c.take j).zip (vs.take j) = (c.zip vs).take j := fun j => by
    rw [List.zip_eq_zipWith, List.zip_eq_zipWith, List.take_zipWith]
  rw [tz, tz]
  have e : (c.zip vs)[i]? = some (p, v) := by rw [List.getElem?_zip_eq_some]; exact ⟨hc, hv⟩
  rw [List.take_add_one, e, Option.toList_some, List.foldl_append]
  rfl
theorem fold_step {α β : Type} {g : β → α → β} {r : β} {l : List α} {i : Nat} {x : α} (h : l[i]? = some x) : (l.take (i + 1)).foldl g r = g ((l.take i).foldl g r) x := by
  rw [List.take_add_one, h, Option.toList_some, List.foldl_append]
  rfl
theorem at1_get {load : List Int} {p : Int} (h1 : 1 ≤ p) (h2 : p ≤ (load.length : Int)) : load[(p - 1).toNat]? = some (at1 load p) := by
  unfold at1
  have h : (p - 1).toNat < load.length := by omega
  rw [List.getD_eq_getElem?_getD, List.getElem?_eq_getElem h]
  rfl

/-! ### in the heap -/
def LI (H : Hp) (a : Addr) (xs : List Int) : Prop := H a = some (.lst (xs.map V.int))
def Refs (H : Hp) (a : Addr) (as : List Addr) : Prop := H a = some (.lst (as.map V.ref))
def Fam (H : Hp) (a : Addr) (f : List (List Int)) : Prop := ∃ as, Refs H a as ∧ Paired (LI H) as f
def RowA (H : Hp) (a : Addr) (r : List (List (List Int))) : Prop := ∃ as, Refs H a as ∧ Paired (Fam H) as r
/-- the law's draws -/
def DrO (n k : Int) (c : Bool) : HO := .lst [.int n, .int k, .bl c]
/-- all stands but d -/
def But (d : Addr) (H H' : Hp) : Prop := ∀ b o, b ≠ d → H b = some o → H' b = some o
theorem But.refl (d : Addr) (H : Hp) : But d H H := fun _ _ _ e => e
theorem But.trans {d : Addr} {H H1 H2 : Hp} (a : But d H H1) (b : But d H1 H2) : But d H H2 := fun c o n e => b c o n (a c o n e)
theorem But.same {d : Addr} {H H' : Hp} (s : Same H H') : But d H H' := fun b o _ e => s b o e
theorem But.upd {d : Addr} {H : Hp} {o : HO} : But d H (upd H d o) := fun b u n e => (upd_ne n).trans e
theorem but_free {d : Addr} {H H' : Hp} (s : But d H H') {p : Addr} (h : H' p = none) (n : p ≠ d) : H p = none := by
  cases q : H p with
  | none => rfl
  | some o =>
    rw [s p o n q] at h
    cases h
theorem same_upd {H : Hp} {p : Addr} {o : HO} (h : H p = none) : Same H (upd H p o) := fun b u e => (upd_ne (ne_of_none e h)).trans e
theorem dr_ne_ints {n k : Int} {c : Bool} {xs : List Int} : DrO n k c ≠ .lst (xs.map V.int) := by
  intro z
  unfold DrO at z
  injection z with z
  match xs, z with
  | [_, _, _], z =>
    rw [List.map_cons, List.map_cons, List.map_cons] at z
    injection z with _ z
    injection z with _ z
    injection z with z _
    cases z
theorem dr_ne_refs {n k : Int} {c : Bool} {as : List Addr} : DrO n k c ≠ .lst (as.map V.ref) := by
  intro z
  unfold DrO at z
  injection z with z
  match as, z with
  | a :: _, z =>
    rw [List.map_cons] at z
    injection z with z _
    cases z
section
variable {H H' : Hp} {d a : Addr} {n k : Int} {c : Bool}
theorem LI.but {xs : List Int} (h : LI H a xs) (hd : H d = some (DrO n k c)) (s : But d H H') : LI H' a xs := s a _ (fun z => dr_ne_ints (Option.some.inj (hd.symm.trans (z ▸ h)))) h
theorem Refs.but {as : List Addr} (h : Refs H a as) (hd : H d = some (DrO n k c)) (s : But d H H') : Refs H' a as := s a _ (fun z => dr_ne_refs (Option.some.inj (hd.symm.trans (z ▸ h)))) h
theorem Fam.but {f : List (List Int)} (h : Fam H a f) (hd : H d = some (DrO n k c)) (s : But d H H') : Fam H' a f := let ⟨as, h1, h2⟩ := h; ⟨as, h1.but hd s, Paired.mapP h2 fun _ _ q => q.but hd s⟩
theorem RowA.but {r : List (List (List Int))} (h : RowA H a r) (hd : H d = some (DrO n k c)) (s : But d H H') : RowA H' a r := let ⟨as, h1, h2⟩ := h; ⟨as, h1.but hd s, Paired.mapP h2 fun _ _ q => q.but hd s⟩
theorem LI.same {xs : List Int} (h : LI H a xs) (s : Same H H') : LI H' a xs := s a _ h
theorem Refs.same {as : List Addr} (h : Refs H a as) (s : Same H H') : Refs H' a as := s a _ h
theorem Fam.same {f : List (List Int)} (h : Fam H a f) (s : Same H H') : Fam H' a f := let ⟨as, h1, h2⟩ := h; ⟨as, h1.same s, Paired.mapP h2 fun _ _ q => q.same s⟩
theorem RowA.same {r : List (List (List Int))} (h : RowA H a r) (s : Same H H') : RowA H' a r := let ⟨as, h1, h2⟩ := h; ⟨as, h1.same s, Paired.mapP h2 fun _ _ q => q.same s⟩
end
theorem pget {α β : Type} {R : α → β → Prop} : ∀ {l : List α} {m : List β} {i : Nat} {x : α}, Paired R l m → l[i]? = some x → ∃ y, m[i]? = some y ∧ R x y
  | _, _, _, _, .nil, e => by simp at e
  | _, _, 0, _, .cons r _, e => by simp at e; subst e; exact ⟨_, rfl, r⟩
  | _, _, i + 1, _, .cons _ t, e => by
    obtain ⟨y, h1, h2⟩ := pget (i := i) t (by simpa using e)
    exact ⟨y, by simpa using h1, h2⟩
theorem map_get {α β : Type} {g : α → β} {l : List α} {i : Nat} {y : β} (h : (l.map g)[i]? = some y) : ∃ x, l[i]? = some x ∧ y = g x := by
  rw [List.getElem?_map] at h
  cases e : l[i]? with
  | none => rw [e] at h; cases h
  | some x => rw [e] at h; exact ⟨x, rfl, (Option.some.inj h).symm⟩
theorem get_map {α β : Type} {g : α → β} {l : List α} {i : Nat} {x : α} (h : l[i]? = some x) : (l.map g)[i]? = some (g x) := by rw [List.getElem?_map, h]; rfl

/-! ### as data -/
def dL (xs : List Int) : PyData := .list (xs.map PyData.int)
def dF (f : List (List Int)) : PyData := .list (f.map dL)
def dR (r : List (List (List Int))) : PyData := .list (r.map dF)
section
variable {K : PySem.W.Frag} {H : Hp}
theorem dp_ints : ∀ xs : List Int, DpAll K H (xs.map V.int) (xs.map PyData.int)
  | [] => .nil
  | x :: xs => .cons (.int x) (dp_ints xs)
theorem LI.dp {a : Addr} {xs : List Int} (h : LI H a xs) : Dp K H (.ref a) (dL xs) := .lst (SqL.of h) (dp_ints xs)
theorem dp_all {α : Type} {R : Addr → α → Prop} {dv : α → PyData} (g : ∀ a x, R a x → Dp K H (.ref a) (dv x)) : ∀ {as : List Addr} {xs : List α}, Paired R as xs → DpAll K H (as.map V.ref) (xs.map dv)
  | _, _, .nil => .nil
  | _, _, .cons r t => .cons (g _ _ r) (dp_all g t)
theorem Fam.dp {a : Addr} {f : List (List Int)} (h : Fam H a f) : Dp K H (.ref a) (dF f) := let ⟨_, h1, h2⟩ := h; .lst (SqL.of h1) (dp_all (fun _ _ q => q.dp) h2)
theorem RowA.dp {a : Addr} {r : List (List (List Int))} (h : RowA H a r) : Dp K H (.ref a) (dR r) := let ⟨_, h1, h2⟩ := h; .lst (SqL.of h1) (dp_all (fun _ _ q => q.dp) h2)
end
end Kt

set_option Elab.async false
set_option linter.all false
set_option maxRecDepth 100000
set_option maxHeartbeats 4000000
/-! Data of a bounded depth and text: for repr and == . -/
namespace Kt
open PySem L2 PyProof.Rows
structure Ok (D m : Nat) (d : PyData) : Prop where
  lay : PyData.canLay0 d = true
  shw : PyData.showable d = true
  nod : PyData.hasDict d = false
  dep : PyData.depth d ≤ D
  len : (PyData.shown d).length ≤ m
theorem Ok.mono {D D' m m' : Nat} {d : PyData} (h : Ok D m d) (h1 : D ≤ D') (h2 : m ≤ m') : Ok D' m' d := ⟨h.lay, h.shw, h.nod, Nat.le_trans h.dep h1, Nat.le_trans h.len h2⟩
theorem ok_all {D m : Nat} : ∀ ds : List PyData, (∀ d ∈ ds, Ok D m d) → PyData.canLayAll0 ds = true ∧ PyData.showableAll ds = true ∧ PyData.hasDictAll ds = false ∧ PyData.depthAll ds ≤ D ∧ ((PyData.shownAll ds).map (·.length)).sum ≤ ds.length * m ∧ (PyData.shownAll ds).length = ds.length
  | [], _ => by simp [PyData.canLayAll0, PyData.showableAll, PyData.hasDictAll, PyData.depthAll, PyData.shownAll]
  | d :: ds, h => by
    have a := h d List.mem_cons_self
    obtain ⟨h1, h2, h3, h4, h5, h6⟩ := ok_all ds fun x hx => h x (List.mem_cons_of_mem _ hx)
    refine ⟨?_, ?_, ?_, ?_, ?_, ?_⟩
    · rw [PyData.canLayAll0, a.lay, h1]; rfl
    · rw [PyData.showableAll, a.shw, h2]; rfl
    · rw [PyData.hasDictAll, a.nod, h3]; rfl
    · rw [PyData.depthAll]
      exact Nat.max_le.mpr ⟨a.dep, h4⟩
    · rw [PyData.shownAll, List.map_cons, List.sum_cons, List.length_cons, Nat.succ_mul]
      have := a.len
      omega
    · rw [PyData.shownAll, List.length_cons, List.length_cons, h6]
theorem ok_list {D m : Nat} {ds : List PyData} (h : ∀ d ∈ ds, Ok D m d) : Ok (D + 1) (ds.length * (m + 2) + 3) (.list ds) := by
  obtain ⟨h1, h2, h3, h4, h5, h6⟩ := ok_all ds h
  refine ⟨?_, ?_, ?_, ?_, ?_⟩
  · rw [PyData.canLay0]; exact h1
  · rw [PyData.showable]; exact h2
  · rw [PyData.hasDict]; exact h3
  · rw [PyData.depth]; omega
  · rw [PyData.shown]
    have := listText_len_le (PyData.shownAll ds)
    rw [h6] at this
    rw [Nat.mul_add]
    omega
def Small (x : Int) : Prop := x.natAbs < 10 ^ 61
theorem ok_int {x : Int} (h : Small x) : Ok 0 62 (.int x) := by
  refine ⟨by rw [PyData.canLay0], ?_, by rw [PyData.hasDict], by rw [PyData.depth]; exact Nat.le_refl _, ?_⟩
  · rw [PyData.showable]
    refine decide_eq_true ?_
    by_cases z : x.natAbs = 0
    · rw [z]; decide
    · refine (Nat.log2_lt z).mpr (Nat.lt_trans h (by decide +kernel))
  · rw [PyData.shown]
    have := int_text_length_le10 (k := 61) (by decide) h
    show (Str.ofString (toString x)).length ≤ 62
    rw [PySem.ofString_length]
    exact this
theorem ok_dL {xs : List Int} {n : Nat} (hl : xs.length ≤ n) (h : ∀ x ∈ xs, Small x) : Ok 1 (n * 64 + 3) (dL xs) := by
  have z := ok_list (D := 0) (m := 62) (ds := xs.map PyData.int) fun d hd => by
    obtain ⟨x, hx, rfl⟩ := List.mem_map.mp hd
    exact ok_int (h x hx)
  refine z.mono (Nat.le_refl _) ?_
  rw [List.length_map]
  have := Nat.mul_le_mul_right 64 hl
  omega
theorem small_of {x : Int} {n : Nat} (h1 : 1 ≤ x) (h2 : x ≤ (n : Int)) (hn : n ≤ 40) : Small x := by
  unfold Small
  have : x.natAbs ≤ 40 := by omega
  exact Nat.lt_of_le_of_lt this (by decide +kernel)
theorem chain_len {n : Nat} {f : List (List Int)} (v : Valid n f) {c : List Int} (hc : c ∈ f) : c.length ≤ n := by
  refine nodup_le n c ?_ fun x hx => v.rg x (flatten_mem hc hx)
  have nd := v.nd
  clear v
  induction f with
  | nil => cases hc
  | cons d f ih =>
    rw [List.flatten_cons] at nd
    obtain ⟨n1, n2, _⟩ := List.nodup_append.mp nd
    rcases List.mem_cons.mp hc with e | e
    · rw [e]; exact n1
    · exact ih e n2
theorem ok_dF {n : Nat} {f : List (List Int)} (v : Valid n f) (hn : n ≤ 40) {m : Nat} (hl : f.length ≤ m) : Ok 2 (m * 2565 + 3) (dF f) := by
  have z := ok_list (D := 1) (m := 2563) (ds := f.map dL) fun d hd => by
    obtain ⟨c, hc, rfl⟩ := List.mem_map.mp hd
    exact ok_dL (n := 40) (Nat.le_trans (chain_len v hc) hn) fun x hx => by
      obtain ⟨h1, h2⟩ := v.rg x (flatten_mem hc hx)
      exact small_of h1 h2 hn
  refine z.mono (Nat.le_refl _) ?_
  rw [List.length_map]
  have := Nat.mul_le_mul_right 2565 hl
  omega
theorem ok_dR {n : Nat} {r : List (List (List Int))} (v : ∀ f ∈ r, Valid n f) (hn : n ≤ 40) (hm : ∀ f ∈ r, f.length ≤ 80) (hl : r.length ≤ 10) : Ok 3 2052063 (dR r) := by
  have z := ok_list (D := 2) (m := 205203) (ds := r.map dF) fun d hd => by
    obtain ⟨f, hf, rfl⟩ := List.mem_map.mp hd
    exact ok_dF (v f hf) hn (hm f hf)
  have e : (r.map dF).length * (205203 + 2) + 3 ≤ 2052063 := by
    rw [List.length_map]
    omega
  exact z.mono (by decide) e
theorem ok_two {D m : Nat} {d e : PyData} (h : Ok D m d) (h' : Ok D m e) : Ok (D + 1) (2 * (m + 2) + 3) (.list [d, e]) := ok_list (ds := [d, e]) fun x hx => by
  rcases List.mem_cons.mp hx with rfl | hx
  · exact h
  · rcases List.mem_cons.mp hx with rfl | hx
    · exact h'
    · cases hx
theorem shaped_of {D m : Nat} {d : PyData} (h : Ok D m d) (hD : D ≤ 60) : SeqAt.shaped d = true := by
  unfold SeqAt.shaped
  rw [h.lay, Bool.true_and]
  exact decide_eq_true (by have := h.dep; omega)
theorem shaped_dL (xs : List Int) : SeqAt.shaped (dL xs) = true := by
  have a : ∀ l : List Int, PyData.canLayAll0 (l.map PyData.int) = true ∧ PyData.depthAll (l.map PyData.int) = 0 := by
    intro l
    induction l with
    | nil => exact ⟨by rw [List.map_nil, PyData.canLayAll0], by rw [List.map_nil, PyData.depthAll]⟩
    | cons x l ih =>
      obtain ⟨h1, h2⟩ := ih
      exact ⟨by rw [List.map_cons, PyData.canLayAll0, h1, PyData.canLay0]; rfl, by rw [List.map_cons, PyData.depthAll, h2, PyData.depth]; rfl⟩
  obtain ⟨h1, h2⟩ := a xs
  unfold SeqAt.shaped dL
  rw [PyData.canLay0, h1, PyData.depth, h2]
  rfl
theorem eqv_dL (xs ys : List Int) : PyData.eqv (dL xs) (dL ys) = decide (xs = ys) := by
  unfold dL
  rw [PyData.eqv]
  induction xs generalizing ys with
  | nil =>
    cases ys with
    | nil => rw [List.map_nil, PyData.eqvAll]; rfl
    | cons y ys => rw [List.map_nil, List.map_cons, PyData.eqvAll]; rfl
  | cons x xs ih =>
    cases ys with
    | nil => rw [List.map_nil, List.map_cons, PyData.eqvAll]; rfl
    | cons y ys =>
      rw [List.map_cons, List.map_cons, PyData.eqvAll, ih, PyData.eqv]
      by_cases h : x = y
      · subst h
        by_cases h2 : xs = ys
        · subst h2; simp
        · simp [h2]
      · simp [h]
theorem seqIndex_of {n : Nat} {i : Int} (h0 : 0 ≤ i) (h1 : i < (n : Int)) : seqIndex? i n = some i.toNat := by
  have h2 : ¬ i < 0 := by omega
  unfold seqIndex?
  simp [h2, h0, h1]
end Kt

set_option Elab.async false
set_option linter.all false
set_option maxRecDepth 100000
set_option maxHeartbeats 4000000
/-! What the laws' draws need: what stands but some, how far the draws went, small tables, popping. -/
namespace Kt
open PySem L2 PyProof.Rows
def ButL (ds : List Addr) (H H' : Hp) : Prop := ∀ b o, b ∉ ds → H b = some o → H' b = some o
theorem ButL.refl (ds : List Addr) (H : Hp) : ButL ds H H := fun _ _ _ e => e
theorem ButL.trans {ds : List Addr} {H H1 H2 : Hp} (a : ButL ds H H1) (b : ButL ds H1 H2) : ButL ds H H2 := fun c o n e => b c o n (a c o n e)
theorem ButL.same {ds : List Addr} {H H' : Hp} (s : Same H H') : ButL ds H H' := fun b o _ e => s b o e
theorem ButL.upd {ds : List Addr} {d : Addr} {H : Hp} {o : HO} (h : d ∈ ds) : ButL ds H (L2.upd H d o) := fun b u n e => (upd_ne (fun z => n (by rw [z]; exact h))).trans e
theorem ButL.new {ds : List Addr} {d : Addr} {H : Hp} {o : HO} (h : H d = none) : ButL ds H (L2.upd H d o) := fun b u n e => (upd_ne (ne_of_none e h)).trans e
theorem ButL.mono {ds es : List Addr} {H H' : Hp} (a : ButL ds H H') (h : ∀ x ∈ ds, x ∈ es) : ButL es H H' := fun b o n e => a b o (fun z => n (h b z)) e
theorem But.list {d : Addr} {H H' : Hp} (a : But d H H') : ButL [d] H H' := fun b o n e => a b o (fun z => n (by simp [z])) e
/-- behind H0, all but d stands; d holds the draws, as many more as told -/
def DrAt (H0 H : Hp) (d : Addr) (c : Bool) (lo hi : Int) : Prop := But d H0 H ∧ ∃ n k, H d = some (DrO n k c) ∧ lo ≤ k ∧ k ≤ hi
theorem DrAt.start {H : Hp} {d : Addr} {c : Bool} {n k : Int} (h : H d = some (DrO n k c)) : DrAt H H d c k k := ⟨But.refl _ _, n, k, h, Int.le_refl _, Int.le_refl _⟩
theorem DrAt.mono {H0 H : Hp} {d : Addr} {c : Bool} {lo lo' hi hi' : Int} (a : DrAt H0 H d c lo hi) (h1 : lo' ≤ lo) (h2 : hi ≤ hi') : DrAt H0 H d c lo' hi' := let ⟨b, n, k, e, x, y⟩ := a; ⟨b, n, k, e, by omega, by omega⟩
/-- a draw -/
theorem But.draw {H0 H : Hp} {d : Addr} {o : HO} (b : But d H0 H) : But d H0 (L2.upd H d o) := b.trans But.upd
/-- a new object -/
theorem But.new {H0 H : Hp} {d p : Addr} {o : HO} (b : But d H0 H) (h : H p = none) : But d H0 (L2.upd H p o) := b.trans (But.same (same_upd h))
/-- what was new is written -/
theorem But.own {H0 H : Hp} {d p : Addr} {o : HO} (b : But d H0 H) (h : H0 p = none) : But d H0 (L2.upd H p o) := fun x u n e => (upd_ne (ne_of_none e h)).trans (b x u n e)

theorem tab3 {x y z : Int} {i : Int} (h0 : 0 ≤ i) (h1 : i < 3) : ∃ m, atI [V.int x, V.int y, V.int z] i = some (.int m) ∧ (m = x ∨ m = y ∨ m = z) := by
  have e : i = 0 ∨ i = 1 ∨ i = 2 := by omega
  rcases e with rfl | rfl | rfl
  · exact ⟨x, rfl, .inl rfl⟩
  · exact ⟨y, rfl, .inr (.inl rfl)⟩
  · exact ⟨z, rfl, .inr (.inr rfl)⟩
theorem tab2 {x y : Int} {i : Int} (h0 : 0 ≤ i) (h1 : i < 2) : ∃ m, atI [V.int x, V.int y] i = some (.int m) ∧ (m = x ∨ m = y) := by
  have e : i = 0 ∨ i = 1 := by omega
  rcases e with rfl | rfl
  · exact ⟨x, rfl, .inl rfl⟩
  · exact ⟨y, rfl, .inr rfl⟩
theorem small_mul {u s : Int} (hu : u.natAbs ≤ 1000003) (hs : s = 1 ∨ s = (10 : Int) ^ (53 : Int).toNat) : Small (u * s) := by
  unfold Small
  rw [Int.natAbs_mul]
  have hs' : s.natAbs ≤ 10 ^ 53 := by
    rcases hs with rfl | rfl
    · decide +kernel
    · decide +kernel
  exact Nat.lt_of_le_of_lt (Nat.mul_le_mul hu hs') (by decide +kernel)
/-- the ints from a on, below b -/
def upto (a b : Int) : List Int := (List.range (b - a).toNat).map fun i => a + (i : Nat)
theorem rgV_upto (a b : Int) : rgV a b = (upto a b).map V.int := by
  unfold rgV upto
  rw [List.map_map]
  rfl
theorem upto_len (a b : Int) : (upto a b).length = (b - a).toNat := by unfold upto; rw [List.length_map, List.length_range]
theorem upto_mem {a b x : Int} (h : x ∈ upto a b) : a ≤ x ∧ x < b := by
  unfold upto at h
  obtain ⟨i, hi, rfl⟩ := List.mem_map.mp h
  rw [List.mem_range] at hi
  omega
theorem upto_nodup (a b : Int) : (upto a b).Nodup := by
  unfold upto
  rw [List.Nodup, List.pairwise_map]
  exact List.pairwise_lt_range.imp fun {i j} h => by omega
theorem pop_perm : ∀ {L : List Int} {i : Nat} {x : Int}, L[i]? = some x → (x :: L.eraseIdx i).Perm L
  | [], _, _, h => by simp at h
  | y :: L, 0, x, h => by
    simp at h
    subst h
    exact .refl _
  | y :: L, i + 1, x, h => by
    rw [List.eraseIdx_cons_succ]
    exact (List.Perm.swap y x _).trans ((pop_perm (L := L) (i := i) (by simpa using h)).cons y)
theorem map_erase : ∀ {L : List Int} {i : Nat}, (L.map V.int).eraseIdx i = (L.eraseIdx i).map V.int
  | [], _ => rfl
  | _ :: _, 0 => rfl
  | y :: L, i + 1 => by
    rw [List.map_cons, List.eraseIdx_cons_succ, List.eraseIdx_cons_succ, List.map_cons, map_erase]
/-- the length of the list that a slot names -/
def lenAt (H : Hp) : Option V → Nat
  | some (.ref a) => match H a with
    | some (.lst xs) => xs.length
    | _ => 0
  | _ => 0
theorem lenAt_of {H : Hp} {a : Addr} {L : List Int} (h : LI H a L) : lenAt H (some (.ref a)) = L.length := by
  have h' : H a = some (.lst (L.map V.int)) := h
  unfold lenAt
  simp only [h', List.length_map]
theorem empty_eqv (L : List Int) : PyData.eqv (dL L) (.list []) = decide (L = []) := eqv_dL L []
theorem dp_empty {K : PySem.W.Frag} {H : Hp} {q : Addr} (h : H q = some (.lst [])) : Dp K H (.ref q) (.list []) := .lst (SqL.of h) .nil
/-- left != [] asked -/
theorem mono_ne {K : PySem.W.Frag} {i : Nat} (σ : L2.St) (H : Hp) (Q Q' : Bool → Hp → Prop) (hq : ∀ b H1, Q b H1 → Q' b H1) (h : tTest (tOp (rNeD K) (tVar i) (tLst tNil)) σ H Q) : tTest (tOp (rNeD K) (tVar i) (tLst tNil)) σ H Q' := by
  obtain ⟨v, e, z, f⟩ := h
  refine ⟨v, e, z, fun p hp => ?_⟩
  obtain ⟨d1, d2, a1, a2, a3, a4, k, ek, q⟩ := f p hp
  exact ⟨d1, d2, a1, a2, a3, a4, k, ek, hq _ _ q⟩
theorem ask_ne {K : PySem.W.Frag} {i : Nat} {σ : L2.St} {H : Hp} {Q : Bool → Hp → Prop} {l : Addr} {L : List Int} (hs : σ[i]? = some (some (.ref l))) (hL : LI H l L) (h : ∀ q, H q = none → Q (!decide (L = [])) (upd H q (.lst []))) :
    tTest (tOp (rNeD K) (tVar i) (tLst tNil)) σ H Q := by
  refine ⟨_, hs, Nat.zero_le _, fun q hq => ?_⟩
  refine ⟨dL L, .list [], (hL.same (same_upd hq)).dp, dp_empty upd_same, shaped_dL L, rfl, ?_⟩
  rw [empty_eqv]
  exact ⟨_, rfl, h q hq⟩
end Kt

set_option Elab.async false
set_option linter.all false
set_option maxRecDepth 100000
set_option maxHeartbeats 4000000
/-! Families of gaps and of stretches are families. -/
namespace Kt
open PySem L2 PyProof.Rows
def stepI (a c : Int) (m : Nat) : List Int := (List.range m).map fun i => a + (i : Nat) * c
theorem stepV_eq (a c : Int) (m : Nat) : stepV a c m = (stepI a c m).map V.int := by
  unfold stepV stepI
  rw [List.map_map]
  rfl
/-- how many of a, a + c, .. lie below b -/
def cnt (a b c : Int) : Nat := (if a < b then (b - a - 1) / c + 1 else 0).toNat
theorem rgC_of {a b c : Int} (ha : -1000 ≤ a) (ha' : a ≤ 1000) (hb : -1000 ≤ b) (hb' : b ≤ 1000) (hc : 1 ≤ c) (hc' : c ≤ 1000) : RgC a b c (cnt a b c) := by
  have e : Builtin.Range.rangeSize a b c = if a < b then (b - a - 1) / c + 1 else 0 := by
    unfold Builtin.Range.rangeSize
    rw [if_pos (show c > 0 by omega)]
  have q0 : a < b → 0 ≤ (b - a - 1) / c := fun h => Int.ediv_nonneg (by omega) (by omega)
  have q1 : a < b → (b - a - 1) / c ≤ b - a - 1 := fun h => Int.ediv_le_self _ (by omega)
  refine ⟨by omega, by omega, ?_, ?_⟩
  · unfold Builtin.Range.small
    rw [e]
    simp only [Builtin.Range.rangeFitsLong, Bool.and_eq_true, Bool.or_eq_true, decide_eq_true_eq, beq_iff_eq, show c > 0 by omega, if_true]
    split
    · rename_i h
      have := q0 h
      have := q1 h
      omega
    · omega
  · rw [e]
    unfold cnt
    split
    · rename_i h
      have := q0 h
      omega
    · rfl
theorem cnt_le {a b c : Int} (hc : 1 ≤ c) : cnt a b c ≤ (b - a).toNat := by
  unfold cnt
  split
  · rename_i h
    have : (b - a - 1) / c ≤ b - a - 1 := Int.ediv_le_self _ (by omega)
    omega
  · exact Nat.zero_le _
theorem step_lt {a b c : Int} (hc : 1 ≤ c) {i : Nat} (hi : i < cnt a b c) : a + (i : Int) * c < b := by
  unfold cnt at hi
  split at hi
  · rename_i h
    have h1 : (i : Int) ≤ (b - a - 1) / c := by omega
    have h2 : (i : Int) * c ≤ b - a - 1 := by
      have := Int.mul_le_mul_of_nonneg_right h1 (show 0 ≤ c by omega)
      have h3 := Int.ediv_mul_le (b - a - 1) (show c ≠ 0 by omega)
      omega
    omega
  · exact absurd hi (Nat.not_lt_zero _)
theorem step_mem {a b c x : Int} (hc : 1 ≤ c) (h : x ∈ stepI a c (cnt a b c)) : a ≤ x ∧ x < b ∧ ∃ i : Nat, x = a + (i : Int) * c := by
  unfold stepI at h
  obtain ⟨i, hi, rfl⟩ := List.mem_map.mp h
  rw [List.mem_range] at hi
  have : 0 ≤ (i : Int) * c := Int.mul_nonneg (by omega) (by omega)
  exact ⟨by omega, step_lt hc hi, i, rfl⟩
theorem step_nodup {a c : Int} (hc : 1 ≤ c) (m : Nat) : (stepI a c m).Nodup := by
  unfold stepI
  rw [List.Nodup, List.pairwise_map]
  refine List.pairwise_lt_range.imp fun {i j} h => ?_
  intro e
  have h1 : (i : Int) * c = (j : Int) * c := by omega
  have h2 : (i : Int) = (j : Int) := Int.eq_of_mul_eq_mul_right (by omega) h1
  omega
/-- the family of a gap -/
def gapFam (n : Nat) (g : Int) : List (List Int) := (List.range g.toNat).map fun i => stepI (1 + (i : Nat)) g (cnt (1 + (i : Nat)) ((n : Int) + 1) g)
theorem valid_gap {n : Nat} {g : Int} (h1 : 1 ≤ g) : Valid n (gapFam n g) := by
  refine ⟨?_, fun x hx => ?_⟩
  · unfold gapFam
    rw [List.Nodup, List.pairwise_flatten]
    refine ⟨fun l hl => ?_, ?_⟩
    · obtain ⟨i, hi, rfl⟩ := List.mem_map.mp hl
      exact step_nodup h1 _
    · rw [List.pairwise_map]
      refine (List.Pairwise.and_mem.mp List.pairwise_lt_range).imp ?_
      rintro i j ⟨hi, hj, hij⟩ x hx y hy rfl
      rw [List.mem_range] at hi hj
      obtain ⟨_, _, p, e1⟩ := step_mem h1 hx
      obtain ⟨_, _, q, e2⟩ := step_mem h1 hy
      have m1 : ((i : Int) + (p : Int) * g) % g = (i : Int) := by rw [Int.add_mul_emod_self_right]; exact Int.emod_eq_of_lt (by omega) (by omega)
      have m2 : ((j : Int) + (q : Int) * g) % g = (j : Int) := by rw [Int.add_mul_emod_self_right]; exact Int.emod_eq_of_lt (by omega) (by omega)
      have e3 : (i : Int) + (p : Int) * g = (j : Int) + (q : Int) * g := by omega
      rw [e3, m2] at m1
      omega
  · obtain ⟨l, hl, hx⟩ := List.mem_flatten.mp hx
    obtain ⟨i, hi, rfl⟩ := List.mem_map.mp hl
    obtain ⟨a, b, _⟩ := step_mem h1 hx
    omega
/-- the stretches of a width -/
def wideFam (n : Nat) (w : Int) : List (List Int) := (List.range (cnt 1 ((n : Int) + 1) w)).map fun i => upto (1 + (i : Nat) * w) ((if 1 + (i : Nat) * w + w - 1 < (n : Int) then 1 + (i : Nat) * w + w - 1 else (n : Int)) + 1)
theorem valid_wide {n : Nat} {w : Int} (h1 : 1 ≤ w) : Valid n (wideFam n w) := by
  refine ⟨?_, fun x hx => ?_⟩
  · unfold wideFam
    rw [List.Nodup, List.pairwise_flatten]
    refine ⟨fun l hl => ?_, ?_⟩
    · obtain ⟨i, hi, rfl⟩ := List.mem_map.mp hl
      exact upto_nodup _ _
    · rw [List.pairwise_map]
      refine List.pairwise_lt_range.imp ?_
      rintro i j hij x hx y hy rfl
      obtain ⟨a1, a2⟩ := upto_mem hx
      obtain ⟨b1, b2⟩ := upto_mem hy
      have h3 : ((i : Int) + 1) * w ≤ (j : Int) * w := Int.mul_le_mul_of_nonneg_right (by omega) (by omega)
      rw [Int.add_mul, Int.one_mul] at h3
      split at a2 <;> omega
  · obtain ⟨l, hl, hx⟩ := List.mem_flatten.mp hx
    obtain ⟨i, hi, rfl⟩ := List.mem_map.mp hl
    obtain ⟨a, b⟩ := upto_mem hx
    have : 0 ≤ (i : Int) * w := Int.mul_nonneg (by omega) (by omega)
    split at b <;> omega
theorem gap_len {n : Nat} {g : Int} : (gapFam n g).length = g.toNat := by unfold gapFam; rw [List.length_map, List.length_range]
theorem wide_len {n : Nat} {w : Int} (h1 : 1 ≤ w) : (wideFam n w).length ≤ n := by
  unfold wideFam
  rw [List.length_map, List.length_range]
  have := cnt_le (a := 1) (b := (n : Int) + 1) h1
  omega
theorem paired_snoc {R : Addr → List Int → Prop} {as : List Addr} {f : List (List Int)} {a : Addr} {c : List Int} (p : Paired R as f) (h : R a c) : Paired R (as ++ [a]) (f ++ [c]) := p.snoc h
end Kt

set_option Elab.async false
set_option linter.all false
set_option maxRecDepth 100000
set_option maxHeartbeats 4000000
/-! More of the layer: places of lists, tails, keywords, texts, displays. -/
namespace Kt
open PySem L2 PyProof.Rows
theorem tyes {σ : L2.St} {H : Hp} {A B : Hp → Prop} (h : A H) : tYes σ H (fun b H3 => if b = true then A H3 else B H3) := by
  show if true = true then A H else B H
  exact iteT h
theorem ixN_of {n : Nat} {i : Int} (h0 : 0 ≤ i) (h1 : i < (n : Int)) : ixN n i = some i.toNat := by
  unfold ixN
  rw [if_pos h0, if_pos h1]
theorem atI_of {α : Type} {xs : List α} {i : Int} {v : α} (h0 : 0 ≤ i) (h : xs[i.toNat]? = some v) : atI xs i = some v := by
  have := atI_nat h
  rw [Int.toNat_of_nonneg h0] at this
  exact this
/-- a list at r, made behind H0 -/
def RAt (H0 H : Hp) (r : Addr) (xs : List Int) : Prop := Same H0 H ∧ H0 r = none ∧ LI H r xs
theorem same_but {r : Addr} {H0 H1 H2 : Hp} (s : Same H0 H1) (h : H0 r = none) (b : But r H1 H2) : Same H0 H2 := fun c o e => b c o (ne_of_none e h) (s c o e)
theorem li_set {H : Hp} {r : Addr} {xs : List Int} {j : Nat} {v : Int} : LI (upd H r (.lst ((xs.map V.int).set j (V.int v)))) r (xs.set j v) := by
  unfold LI
  rw [upd_same, List.map_set]
theorem li_len {xs : List Int} : (xs.map V.int).length = xs.length := List.length_map _
theorem valid_chain {n : Nat} {f : List (List Int)} (v : Valid n f) {i : Nat} {c : List Int} (h : f[i]? = some c) : ∀ x ∈ c, 1 ≤ x ∧ x ≤ (n : Int) := fun x hx => v.rg x (flatten_mem (List.mem_of_getElem? h) hx)
end Kt

namespace Kt
open PySem L2 PyProof.Rows
theorem cut_tail (xs : List Int) : cutV (xs.map V.int) (some 1) none = xs.tail.map V.int := by
  unfold cutV
  have e1 : HT.sIx (xs.map V.int).length 0 (some 1) = min 1 xs.length := by
    have := HT.sIx_nat (xs.map V.int).length 0 1
    rw [List.length_map] at this
    rw [List.length_map]
    exact this
  have e2 : HT.sIx (xs.map V.int).length (xs.map V.int).length none = xs.length := by
    rw [List.length_map]
    rfl
  rw [e1, e2]
  cases xs with
  | nil => rfl
  | cons x xs =>
    have z : min 1 (x :: xs).length = 1 := by rw [List.length_cons]; omega
    rw [z, List.map_cons, List.drop_succ_cons, List.drop_zero, List.take_of_length_le (by rw [List.length_map, List.length_cons]; omega)]
    rfl
/-- the i-th pair of neighbours -/
theorem pair_at {c : List Int} {i : Nat} {p q : Int} (hp : c[i]? = some p) (hq : c.tail[i]? = some q) : (c.zip c.tail)[i]? = some (p, q) := by
  rw [List.getElem?_zip_eq_some]
  exact ⟨hp, hq⟩
theorem all_step {α : Type} {g : α → Bool} {l : List α} {i : Nat} {x : α} (h : l[i]? = some x) : (l.take (i + 1)).all g = ((l.take i).all g && g x) := by
  rw [List.take_add_one, h, Option.toList_some, List.all_append]
  simp
theorem all_false {α : Type} {g : α → Bool} {l : List α} {x : α} (h : x ∈ l) (hx : g x = false) : l.all g = false := by
  cases e : l.all g with
  | false => rfl
  | true => rw [List.all_eq_true.mp e x h] at hx; cases hx
theorem tail_mem {c : List Int} {i : Nat} {q : Int} (h : c.tail[i]? = some q) : q ∈ c := List.mem_of_mem_tail (List.mem_of_getElem? h)
end Kt

namespace Kt
open PySem L2 PyProof.Rows
/-! two arguments by keywords, the other way round -/
def sw {α : Type} : List α → List α → List α
  | [], [x, y] => [y, x]
  | _, _ => []
theorem sw_rel {vs : List V} {us : List Value} {zs : List V} {ws : List Value} (r : Vals vs us) (q : Vals zs ws) : Vals (sw vs zs) (sw us ws) := by
  cases r with
  | cons _ _ => exact .nil
  | nil =>
    cases q with
    | nil => exact .nil
    | cons q1 q =>
      cases q with
      | nil => exact .nil
      | cons q2 q =>
        cases q with
        | nil => exact .cons q2 (.cons q1 .nil)
        | cons _ _ => exact .nil
theorem kb_sw {K : PySem.W.Frag} {x qual : Str} {st : Stmt} {f : Addr} {fd : FuncData} {a b : Str} (F : Fun K x qual st f fd)
    (h : ∀ (kV doc pm : Value) (an : Option Addr) (cdv ct : Value) (u v : Value), bindArgs (PySem.W.fnOf x qual (defArgs st) (defBody st) (defScope st) .none kV doc pm an cdv ct) ⟨[], [(b, u), (a, v)]⟩ = pure [(a, v), (b, u)]) :
    KBinds K fd [a, b] [b, a] sw sw := by
  obtain ⟨oc, od, kV, doc, pm, an, cdv, ct, osl, rfl, lk, hcd⟩ := F.ex
  refine ⟨fun s us ws hK hl => ?_, fun r q => sw_rel r q⟩
  match us, ws, hl with
  | [], [u, v], _ => exact .of_eq (h kV doc pm an cdv ct u v)
/-! data of truth values -/
theorem ok_bl (b : Bool) : Ok 0 5 (.bool b) := by
  refine ⟨by rw [PyData.canLay0], by rw [PyData.showable], by rw [PyData.hasDict], by rw [PyData.depth]; exact Nat.le_refl _, ?_⟩
  rw [PyData.shown]
  cases b <;> decide +kernel
theorem ok_three {D m : Nat} {d e f : PyData} (h : Ok D m d) (h' : Ok D m e) (h2 : Ok D m f) : Ok (D + 1) (3 * (m + 2) + 3) (.list [d, e, f]) := ok_list (ds := [d, e, f]) fun x hx => by
  rcases List.mem_cons.mp hx with rfl | hx
  · exact h
  · rcases List.mem_cons.mp hx with rfl | hx
    · exact h'
    · rcases List.mem_cons.mp hx with rfl | hx
      · exact h2
      · cases hx
/-- the text of a list of things -/
def txt (ds : List PyData) : Str := PyData.shown (.list ds)
/-- repr(x), x a list that stands -/
theorem repr_of {K : PySem.W.Frag} {H : Hp} {p : Addr} {ds : List PyData} {D m : Nat} {Q : VK} (h : Dp K H (.ref p) (.list ds)) (ok : Ok D m (.list ds)) (hD : D ≤ 60) (hm : m ≤ 16000000) (q : Q (.str (txt ds)) H) : rReprD K [.ref p] H Q := by
  unfold rReprD
  exact ⟨p, ds, rfl, h, ok.shw, ok.nod, Nat.le_trans ok.dep hD, Nat.le_trans ok.len (by rw [sizeLine_eq]; omega), q⟩
theorem dp_two {K : PySem.W.Frag} {H : Hp} {p : Addr} {x y : V} {d e : PyData} (h : H p = some (.lst [x, y])) (h1 : Dp K H x d) (h2 : Dp K H y e) : Dp K H (.ref p) (.list [d, e]) := .lst (SqL.of h) (.cons h1 (.cons h2 .nil))
theorem dp_three {K : PySem.W.Frag} {H : Hp} {p : Addr} {x y z : V} {d e f : PyData} (h : H p = some (.lst [x, y, z])) (h1 : Dp K H x d) (h2 : Dp K H y e) (h3 : Dp K H z f) : Dp K H (.ref p) (.list [d, e, f]) := .lst (SqL.of h) (.cons h1 (.cons h2 (.cons h3 .nil)))
theorem iteSS {A B : Prop} {x : V} (h : B) : if (!decide (x = x)) = true then A else B := iteNS rfl h
/-- all ints small -/
def Smalls (xs : List Int) : Prop := ∀ x ∈ xs, Small x
theorem at1_mem {load : List Int} {p : Int} (h1 : 1 ≤ p) (h2 : p ≤ (load.length : Int)) : at1 load p ∈ load := List.mem_of_getElem? (at1_get h1 h2)
theorem put_small (l : List (Int × Int)) : ∀ r : List Int, Smalls r → (∀ q ∈ l, Small q.2) → Smalls (l.foldl put1 r) := by
  induction l with
  | nil => intro r h _; exact h
  | cons q l ih =>
    intro r h hq
    refine ih _ (fun x hx => ?_) fun y hy => hq y (List.mem_cons_of_mem _ hy)
    rcases List.mem_or_eq_of_mem_set hx with h1 | h1
    · exact h x h1
    · rw [h1]
      exact hq q List.mem_cons_self
theorem along_small {load : List Int} (hs : Smalls load) (c : List Int) (hc : ∀ x ∈ c, 1 ≤ x ∧ x ≤ (load.length : Int)) (r : List Int) (hr : Smalls r) : Smalls (along1 load r c) := by
  refine put_small _ _ hr fun q hq => ?_
  have h2 := (List.of_mem_zip hq).2
  have h3 := (srt_perm _).mem_iff.mp h2
  obtain ⟨p, hp, e⟩ := List.mem_map.mp h3
  rw [← e]
  exact hs _ (at1_mem (hc p hp).1 (hc p hp).2)
theorem sortAlong_small {load : List Int} (hs : Smalls load) {f : List (List Int)} (v : Valid load.length f) : Smalls (sortAlong load f) := by
  unfold sortAlong
  have rg := v.rg
  clear v
  have : ∀ r : List Int, Smalls r → Smalls (f.foldl (along1 load) r) := by
    induction f with
    | nil => intro r h; exact h
    | cons c f ih =>
      intro r h
      rw [List.flatten_cons] at rg
      exact ih (fun x hx => rg x (List.mem_append_right _ hx)) _ (along_small hs c (fun x hx => rg x (List.mem_append_left _ hx)) r h)
  exact this load hs
theorem afterRow_small : ∀ (r : List (List (List Int))) (load : List Int), Smalls load → (∀ f ∈ r, Valid load.length f) → Smalls (afterRow load r)
  | [], _, h, _ => h
  | f :: r, load, h, v => by
    have e : afterRow load (f :: r) = afterRow (sortAlong load f) r := rfl
    rw [e]
    exact afterRow_small r _ (sortAlong_small h (v f List.mem_cons_self)) fun g hg => by rw [sortAlong_len]; exact v g (List.mem_cons_of_mem _ hg)
end Kt

namespace Kt
open PySem L2 PyProof.Rows
theorem cut_take (xs : List V) (k : Nat) : cutV xs none (some (k : Int)) = xs.take k := by
  unfold cutV
  have e1 : HT.sIx xs.length 0 none = 0 := rfl
  have e2 : HT.sIx xs.length xs.length (some (k : Int)) = min k xs.length := HT.sIx_nat ..
  rw [e1, e2, List.drop_zero, Nat.sub_zero]
  rw [Nat.min_def]
  split
  · rfl
  · rw [List.take_length]
    exact (List.take_of_length_le (by omega)).symm
theorem srt2 (a b : Int) : srt [a, b] = if a ≤ b then [a, b] else [b, a] := by
  split
  · rename_i h
    exact (srt_of (.refl _) (List.pairwise_pair.mpr h)).symm
  · rename_i h
    exact (srt_of (.swap _ _ _) (List.pairwise_pair.mpr (by omega))).symm
/-- a display of ints, told -/
theorem disp_li {H : Hp} {p : Addr} (hp : H p = none) (xs : List Int) : ∃ H1, upd H p (.lst (xs.map V.int)) = H1 ∧ Same H H1 ∧ LI H1 p xs := ⟨_, rfl, same_upd hp, upd_same⟩
theorem disp_refs {H : Hp} {p : Addr} (hp : H p = none) (as : List Addr) : ∃ H1, upd H p (.lst (as.map V.ref)) = H1 ∧ Same H H1 ∧ Refs H1 p as := ⟨_, rfl, same_upd hp, upd_same⟩
theorem small_nat {x : Int} (h : x.natAbs ≤ 1000) : Small x := Nat.lt_of_le_of_lt h (by decide +kernel)
theorem valid_dec {n : Nat} {f : List (List Int)} (h1 : f.flatten.Nodup) (h2 : (f.flatten.all fun x => decide (1 ≤ x) && decide (x ≤ (n : Int))) = true) : Valid n f := ⟨h1, fun x hx => by
  have := List.all_eq_true.mp h2 x hx
  simpa using this⟩
theorem smalls_dec {xs : List Int} (h : (xs.all fun x => decide (x.natAbs ≤ 1000)) = true) : Smalls xs := fun x hx => small_nat (by
  have := List.all_eq_true.mp h x hx
  simpa using this)
theorem row1 : afterRow [4, 3, 2, 1] [[[1, 2], [3, 4]], [[1, 3], [2, 4]]] = [1, 2, 3, 4] := by
  have e1 : sortAlong [4, 3, 2, 1] [[1, 2], [3, 4]] = put (put [4, 3, 2, 1] [1, 2] (srt [4, 3])) [3, 4] (srt [2, 1]) := rfl
  have e2 : sortAlong [4, 3, 2, 1] [[1, 2], [3, 4]] = [3, 4, 1, 2] := by rw [e1, srt2, srt2]; rfl
  have e3 : sortAlong [3, 4, 1, 2] [[1, 3], [2, 4]] = put (put [3, 4, 1, 2] [1, 3] (srt [3, 1])) [2, 4] (srt [4, 2]) := rfl
  have e4 : sortAlong [3, 4, 1, 2] [[1, 3], [2, 4]] = [1, 2, 3, 4] := by rw [e3, srt2, srt2]; rfl
  have e5 : afterRow [4, 3, 2, 1] [[[1, 2], [3, 4]], [[1, 3], [2, 4]]] = sortAlong (sortAlong [4, 3, 2, 1] [[1, 2], [3, 4]]) [[1, 3], [2, 4]] := rfl
  rw [e5, e2, e4]
theorem sort1 : sortAlong [3, 1, 2] [[1, 3]] = [2, 1, 3] := by
  have e : sortAlong [3, 1, 2] [[1, 3]] = put [3, 1, 2] [1, 3] (srt [3, 2]) := rfl
  rw [e, srt2]
  rfl
end Kt


set_option Elab.async false
set_option linter.all false
set_option maxRecDepth 100000
set_option maxHeartbeats 4000000
/-! Sorting along a chain that goes along a line lessens the pairs that stand the wrong way round on the line. -/
namespace Kt
def lessN (a : Int) (l : List Int) : Nat := l.countP fun x => decide (x < a)
/-- the pairs that stand the wrong way round -/
def inv : List Int → Nat
  | [] => 0
  | a :: l => lessN a l + inv l
def cross (L R : List Int) : Nat := (L.map fun a => lessN a R).sum
theorem lessN_append (a : Int) (L R : List Int) : lessN a (L ++ R) = lessN a L + lessN a R := List.countP_append
theorem lessN_perm {a : Int} {L R : List Int} (h : L.Perm R) : lessN a L = lessN a R := h.countP_eq _
theorem inv_append : ∀ L R : List Int, inv (L ++ R) = inv L + cross L R + inv R
  | [], R => by simp [inv, cross]
  | a :: L, R => by
    rw [List.cons_append, inv, inv, inv_append L R, lessN_append, cross, cross, List.map_cons, List.sum_cons]
    omega
theorem cross_perm {L R S : List Int} (h : R.Perm S) : cross L R = cross L S := by
  unfold cross
  congr 1
  exact List.map_congr_left fun a _ => lessN_perm h
theorem cross_cons (a : Int) (L R : List Int) : cross (a :: L) R = lessN a R + cross L R := by unfold cross; rw [List.map_cons, List.sum_cons]
theorem cross_append (L M R : List Int) : cross (L ++ M) R = cross L R + cross M R := by
  unfold cross
  rw [List.map_append, List.sum_append]
theorem cross_mono {a b : Int} (h : b ≤ a) : ∀ M : List Int, cross M [a] ≤ cross M [b]
  | [] => Nat.le_refl _
  | x :: M => by
    rw [cross_cons, cross_cons]
    have ih := cross_mono h M
    have : lessN x [a] ≤ lessN x [b] := by
      unfold lessN
      simp only [List.countP_cons, List.countP_nil]
      by_cases h1 : a < x
      · have h2 : b < x := by omega
        simp [h1, h2]
      · simp [h1]
    omega
theorem lessN_mono {a b : Int} (h : b ≤ a) (M : List Int) : lessN b M ≤ lessN a M := by
  unfold lessN
  refine List.countP_mono_left fun x _ hx => ?_
  have := of_decide_eq_true hx
  exact decide_eq_true (by omega)
theorem inv_swap {a b : Int} (h : b < a) (L M R : List Int) : inv (L ++ b :: (M ++ a :: R)) < inv (L ++ a :: (M ++ b :: R)) := by
  have pm : (b :: (M ++ a :: R)).Perm (a :: (M ++ b :: R)) := by
    have h1 : (M ++ a :: R).Perm (a :: (M ++ R)) := List.perm_middle
    have h2 : (M ++ b :: R).Perm (b :: (M ++ R)) := List.perm_middle
    exact ((h1.cons b).trans (List.Perm.swap a b _)).trans (h2.symm.cons a)
  rw [inv_append, inv_append, cross_perm pm]
  suffices h2 : inv (b :: (M ++ a :: R)) < inv (a :: (M ++ b :: R)) by omega
  rw [inv, inv, inv_append, inv_append, inv, inv, lessN_append, lessN_append]
  have e1 : lessN b (a :: R) = lessN b R := by
    unfold lessN
    rw [List.countP_cons]
    have : ¬ (a < b) := by omega
    simp [this]
  have e2 : lessN a (b :: R) = lessN a R + 1 := by
    unfold lessN
    rw [List.countP_cons]
    simp [h]
  have e3 : ∀ x : Int, cross M (x :: R) = cross M [x] + cross M R := fun x => by
    have : ∀ M : List Int, cross M (x :: R) = cross M [x] + cross M R := by
      intro M
      induction M with
      | nil => rfl
      | cons y M ih =>
        rw [cross_cons, cross_cons, cross_cons, ih]
        have : lessN y (x :: R) = lessN y [x] + lessN y R := by
          have := lessN_append y [x] R
          exact this
        omega
    exact this M
  rw [e1, e2, e3, e3]
  have h3 := lessN_mono (Int.le_of_lt h) M
  have h4 := lessN_mono (Int.le_of_lt h) R
  have h5 := cross_mono (Int.le_of_lt h) M
  omega
theorem lessN_le (a : Int) (l : List Int) : lessN a l ≤ l.length := List.countP_le_length
theorem inv_le : ∀ l : List Int, 2 * (inv l : Int) ≤ (l.length : Int) * ((l.length : Int) - 1)
  | [] => by simp [inv]
  | a :: l => by
    have ih := inv_le l
    have h := lessN_le a l
    rw [inv, List.length_cons]
    push_cast
    have e : ((l.length : Int) + 1) * ((l.length : Int) + 1 - 1) = (l.length : Int) * ((l.length : Int) - 1) + 2 * (l.length : Int) := by
      rw [Int.add_sub_cancel, Int.add_mul, Int.mul_sub, Int.one_mul, Int.mul_one]
      omega
    omega
/-! ### on the line -/
/-- the values exchanged at two places -/
def exch (load : List Int) (p q : Int) : List Int := put1 (put1 load (p, at1 load q)) (q, at1 load p)
theorem exch_len (load : List Int) (p q : Int) : (exch load p q).length = load.length := by unfold exch; rw [put1_len, put1_len]
theorem exch_other {load : List Int} {p q x : Int} (hx : 1 ≤ x) (hp : 1 ≤ p) (hq : 1 ≤ q) (h1 : x ≠ p) (h2 : x ≠ q) : at1 (exch load p q) x = at1 load x := by
  unfold exch
  rw [at1_put1_ne hx hq h2, at1_put1_ne hx hp h1]
theorem exch_p {load : List Int} {p q : Int} (hp : 1 ≤ p) (hpn : p ≤ (load.length : Int)) (hq : 1 ≤ q) (h : p ≠ q) : at1 (exch load p q) p = at1 load q := by
  unfold exch
  rw [at1_put1_ne hp hq h]
  exact at1_put1_self (q := (p, at1 load q)) hp hpn
theorem exch_q {load : List Int} {p q : Int} (hq : 1 ≤ q) (hqn : q ≤ (load.length : Int)) : at1 (exch load p q) q = at1 load p := by
  unfold exch
  exact at1_put1_self (q := (q, at1 load p)) hq (by rw [put1_len]; exact hqn)
/-- a line of places, none twice -/
structure Line (n : Nat) (line : List Int) : Prop where
  nd : line.Nodup
  rg : ∀ x ∈ line, 1 ≤ x ∧ x ≤ (n : Int)
/-- the values along the line -/
def along (line load : List Int) : List Int := line.map (at1 load)
theorem map_exch {load : List Int} {p q : Int} {l : List Int} (hp : 1 ≤ p) (hq : 1 ≤ q) (h : ∀ x ∈ l, 1 ≤ x ∧ x ≠ p ∧ x ≠ q) : l.map (at1 (exch load p q)) = l.map (at1 load) :=
  List.map_congr_left fun x hx => exch_other (h x hx).1 hp hq (h x hx).2.1 (h x hx).2.2
/-- an exchange of two that stand the wrong way round -/
theorem exch_inv {load line L M R : List Int} {p q : Int} (ln : Line load.length line) (e : line = L ++ p :: (M ++ q :: R)) (h : at1 load q < at1 load p) : inv (along line (exch load p q)) < inv (along line load) := by
  have nd := ln.nd
  have rg := ln.rg
  rw [e] at nd rg
  obtain ⟨n1, n2, n3⟩ := List.nodup_append.mp nd
  obtain ⟨n4, n5⟩ := List.nodup_cons.mp n2
  obtain ⟨n6, n7, n8⟩ := List.nodup_append.mp n5
  obtain ⟨n9, n10⟩ := List.nodup_cons.mp n7
  have pr := rg p (by simp)
  have qr := rg q (by simp)
  have hpq : p ≠ q := fun z => n4 (by rw [z]; simp)
  have hL : ∀ x ∈ L, 1 ≤ x ∧ x ≠ p ∧ x ≠ q := fun x hx => ⟨(rg x (by simp [hx])).1, n3 x hx p (by simp), n3 x hx q (by simp)⟩
  have hM : ∀ x ∈ M, 1 ≤ x ∧ x ≠ p ∧ x ≠ q := fun x hx => ⟨(rg x (by simp [hx])).1, fun z => n4 (by rw [← z]; simp [hx]), n8 x hx q (by simp)⟩
  have hR : ∀ x ∈ R, 1 ≤ x ∧ x ≠ p ∧ x ≠ q := fun x hx => ⟨(rg x (by simp [hx])).1, fun z => n4 (by rw [← z]; simp [hx]), fun z => n9 (by rw [← z]; exact hx)⟩
  unfold along
  rw [e]
  simp only [List.map_append, List.map_cons]
  rw [map_exch pr.1 qr.1 hL, map_exch pr.1 qr.1 hM, map_exch pr.1 qr.1 hR, exch_p pr.1 pr.2 qr.1 hpq, exch_q qr.1 qr.2]
  exact inv_swap h _ _ _
theorem ascends_iff {load : List Int} : ∀ {c : List Int}, ascends load c = true → (c.map (at1 load)).Pairwise (· ≤ ·)
  | [], _ => .nil
  | [x], _ => by simp
  | x :: y :: c, h => by
    have h' : (decide (at1 load x ≤ at1 load y) && ascends load (y :: c)) = true := h
    obtain ⟨h1, h2⟩ := Bool.and_eq_true_iff.mp h'
    have ih := ascends_iff h2
    have h1' := of_decide_eq_true h1
    rw [List.map_cons] at ih ⊢
    refine List.pairwise_cons.mpr ⟨fun z hz => ?_, ih⟩
    rw [List.map_cons] at hz
    rcases List.mem_cons.mp hz with rfl | hz
    · exact h1'
    · exact Int.le_trans h1' ((List.pairwise_cons.mp ih).1 z hz)
/-- two neighbours of a chain that are not in order -/
theorem not_ascends {load : List Int} : ∀ {c : List Int}, ascends load c = false → ∃ A p q B, c = A ++ p :: q :: B ∧ at1 load q < at1 load p
  | [], h => by cases h
  | [x], h => by cases h
  | x :: y :: c, h => by
    have h' : (decide (at1 load x ≤ at1 load y) && ascends load (y :: c)) = false := h
    cases e : decide (at1 load x ≤ at1 load y) with
    | false =>
      have := of_decide_eq_false e
      exact ⟨[], x, y, c, rfl, by omega⟩
    | true =>
      rw [e, Bool.true_and] at h'
      obtain ⟨A, p, q, B, e1, e2⟩ := not_ascends h'
      exact ⟨x :: A, p, q, B, by rw [e1]; rfl, e2⟩
theorem sub_split {A B line : List Int} {p q : Int} (h : (A ++ p :: q :: B).Sublist line) : ∃ L M R, line = L ++ p :: (M ++ q :: R) := by
  obtain ⟨l1, l2, rfl, _, h2⟩ := List.append_sublist_iff.mp h
  obtain ⟨m1, m2, rfl, hp, h3⟩ := List.cons_sublist_iff.mp h2
  obtain ⟨m3, m4, rfl, hq, _⟩ := List.cons_sublist_iff.mp h3
  obtain ⟨s, t, rfl⟩ := List.append_of_mem hp
  obtain ⟨u, v, rfl⟩ := List.append_of_mem hq
  exact ⟨l1 ++ s, t ++ u, v ++ m4, by simp⟩
theorem ext_at1 {x y : List Int} (hl : x.length = y.length) (h : ∀ p : Int, 1 ≤ p → p ≤ (x.length : Int) → at1 x p = at1 y p) : x = y := by
  refine List.ext_getElem hl fun i h1 h2 => ?_
  have := h ((i : Int) + 1) (by omega) (by omega)
  unfold at1 at this
  have e : ((i : Int) + 1 - 1).toNat = i := by omega
  rw [e, List.getD_eq_getElem?_getD, List.getD_eq_getElem?_getD, List.getElem?_eq_getElem h1, List.getElem?_eq_getElem h2] at this
  exact this
/-- a chain put in order, by exchanges -/
theorem chain_settles {line c : List Int} (hc : c.Sublist line) : ∀ (N : Nat) (load : List Int), Line load.length line → inv (along line load) ≤ N →
    ∃ t : List Int, t.length = load.length ∧ (∀ x, 1 ≤ x → x ∉ c → at1 t x = at1 load x) ∧ (c.map (at1 t)).Perm (c.map (at1 load)) ∧ (c.map (at1 t)).Pairwise (· ≤ ·) ∧ (t = load ∨ inv (along line t) < inv (along line load)) := by
  intro N
  induction N with
  | zero =>
    intro load ln hN
    cases e : ascends load c with
    | true => exact ⟨load, rfl, fun _ _ _ => rfl, .refl _, ascends_iff e, .inl rfl⟩
    | false =>
      obtain ⟨A, p, q, B, rfl, h⟩ := not_ascends e
      obtain ⟨L, M, R, el⟩ := sub_split hc
      have := exch_inv ln el h
      omega
  | succ N ih =>
    intro load ln hN
    cases e : ascends load c with
    | true => exact ⟨load, rfl, fun _ _ _ => rfl, .refl _, ascends_iff e, .inl rfl⟩
    | false =>
      obtain ⟨A, p, q, B, rfl, h⟩ := not_ascends e
      obtain ⟨L, M, R, el⟩ := sub_split hc
      have lt := exch_inv ln el h
      have pr := ln.rg p (by rw [el]; simp)
      have qr := ln.rg q (by rw [el]; simp)
      have nd : (A ++ p :: q :: B).Nodup := ln.nd.sublist hc
      obtain ⟨n1, n2, n3⟩ := List.nodup_append.mp nd
      obtain ⟨n4, n5⟩ := List.nodup_cons.mp n2
      obtain ⟨n6, n7⟩ := List.nodup_cons.mp n5
      have hpq : p ≠ q := fun z => n4 (by rw [z]; simp)
      have cr : ∀ x ∈ A ++ p :: q :: B, 1 ≤ x := fun x hx => (ln.rg x (hc.mem hx)).1
      have hA : ∀ x ∈ A, 1 ≤ x ∧ x ≠ p ∧ x ≠ q := fun x hx => ⟨cr x (by simp [hx]), n3 x hx p (by simp), n3 x hx q (by simp)⟩
      have hB : ∀ x ∈ B, 1 ≤ x ∧ x ≠ p ∧ x ≠ q := fun x hx => ⟨cr x (by simp [hx]), fun z => n4 (by rw [← z]; simp [hx]), fun z => n6 (by rw [← z]; exact hx)⟩
      have pm : ((A ++ p :: q :: B).map (at1 (exch load p q))).Perm ((A ++ p :: q :: B).map (at1 load)) := by
        simp only [List.map_append, List.map_cons]
        rw [map_exch pr.1 qr.1 hA, map_exch pr.1 qr.1 hB, exch_p pr.1 pr.2 qr.1 hpq, exch_q qr.1 qr.2]
        exact List.Perm.append_left _ (List.Perm.swap _ _ _)
      obtain ⟨t, t1, t2, t3, t4, t5⟩ := ih (exch load p q) (by rw [exch_len]; exact ln) (by omega)
      refine ⟨t, by rw [t1, exch_len], fun x hx hn => ?_, t3.trans pm, t4, .inr ?_⟩
      · rw [t2 x hx hn]
        exact exch_other hx pr.1 qr.1 (fun z => hn (by rw [z]; simp)) (fun z => hn (by rw [z]; simp))
      · rcases t5 with rfl | t5
        · exact lt
        · exact Nat.lt_trans t5 lt
theorem along1_inv {line c load : List Int} (ln : Line load.length line) (hc : c.Sublist line) : along1 load load c = load ∨ inv (along line (along1 load load c)) < inv (along line load) := by
  obtain ⟨t, t1, t2, t3, t4, t5⟩ := chain_settles hc _ load ln (Nat.le_refl _)
  have nd : c.Nodup := ln.nd.sublist hc
  have rg : ∀ x ∈ c, 1 ≤ x ∧ x ≤ (load.length : Int) := fun x hx => ln.rg x (hc.mem hx)
  have e : along1 load load c = t := by
    refine ext_at1 (by rw [along1_len, t1]) fun p h1 h2 => ?_
    by_cases hp : p ∈ c
    · have e1 : c.map (at1 (along1 load load c)) = srt (c.map (at1 load)) := put_own c _ load nd rg (Int.le_refl _) (by rw [srt_len, List.length_map])
      have e2 : c.map (at1 t) = srt (c.map (at1 load)) := srt_of t3 t4
      exact List.map_inj_left.mp (e1.trans e2.symm) p hp
    · rw [t2 p h1 hp]
      exact put_other h1 fun x hx => ⟨(rg x hx).1, fun z => hp (z ▸ hx)⟩
  rw [e]
  exact t5
/-- a family whose chains go along the line -/
theorem family_inv {line : List Int} (f : List (List Int)) : ∀ (load r : List Int), Line r.length line → f.flatten.Nodup → (∀ c ∈ f, c.Sublist line) → (∀ x ∈ f.flatten, at1 r x = at1 load x) →
    f.foldl (along1 load) r = r ∨ inv (along line (f.foldl (along1 load) r)) < inv (along line r) := by
  induction f with
  | nil => intro load r _ _ _ _; exact .inl rfl
  | cons c f ih =>
    intro load r ln nd hs hv
    rw [List.flatten_cons] at nd hv
    obtain ⟨n1, n2, n3⟩ := List.nodup_append.mp nd
    have hc := hs c List.mem_cons_self
    have ev : c.map (at1 r) = c.map (at1 load) := List.map_congr_left fun x hx => hv x (List.mem_append_left _ hx)
    have e : along1 load r c = along1 r r c := by unfold along1; rw [ev]
    rw [List.foldl_cons, e]
    have rgc : ∀ x ∈ c, 1 ≤ x := fun x hx => (ln.rg x (hc.mem hx)).1
    have hv' : ∀ x ∈ f.flatten, at1 (along1 r r c) x = at1 load x := fun x hx => by
      rw [← hv x (List.mem_append_right _ hx)]
      obtain ⟨l, hl, hxl⟩ := List.mem_flatten.mp hx
      exact put_other (ln.rg x ((hs l (List.mem_cons_of_mem _ hl)).mem hxl)).1 fun y hy => ⟨rgc y hy, n3 y hy x hx⟩
    have st := along1_inv ln hc
    have ih' := ih load (along1 r r c) (by rw [along1_len]; exact ln) n2 (fun d hd => hs d (List.mem_cons_of_mem _ hd)) hv'
    rcases st with h1 | h1
    · rw [h1] at ih' ⊢
      exact ih'
    · rcases ih' with h2 | h2
      · rw [h2]
        exact .inr h1
      · exact .inr (Nat.lt_trans h2 h1)
structure Lined (n : Nat) (line : List Int) (f : List (List Int)) : Prop where
  va : Valid n f
  sub : ∀ c ∈ f, c.Sublist line
theorem sort_inv {line load : List Int} {f : List (List Int)} (ln : Line load.length line) (h : Lined load.length line f) : sortAlong load f = load ∨ inv (along line (sortAlong load f)) < inv (along line load) :=
  family_inv f load load ln h.va.nd h.sub fun _ _ => rfl
/-- sorted already: nothing changes -/
theorem sort_still {load : List Int} {f : List (List Int)} (v : Valid load.length f) (h : isSorted load f = true) : sortAlong load f = load := by
  refine ext_at1 (sortAlong_len _ _) fun p h1 h2 => ?_
  by_cases hp : p ∈ f.flatten
  · obtain ⟨c, hc, hpc⟩ := List.mem_flatten.mp hp
    have e1 := sortAlong_own v hc
    have e2 : c.map (at1 load) = srt (c.map (at1 load)) := srt_of (.refl _) (ascends_iff (List.all_eq_true.mp h c hc))
    exact List.map_inj_left.mp (e1.trans e2.symm) p hpc
  · exact fold_along_other h1 f load fun x hx => ⟨(v.rg x hx).1, fun z => hp (z ▸ hx)⟩
theorem still_sorted {load : List Int} {f : List (List Int)} (v : Valid load.length f) (h : sortAlong load f = load) : isSorted load f = true := by
  have := sorted_after v
  rw [h] at this
  exact this
end Kt

set_option Elab.async false
set_option linter.all false
set_option maxRecDepth 100000
set_option maxHeartbeats 4000000
/-! Lists of lists in the heap: kept, grown, changed at one place. -/
namespace Kt
open PySem L2 PyProof.Rows
/-- a family whose chains are new behind H0 -/
def FamN (H0 H : Hp) (a : Addr) (f : List (List Int)) : Prop := ∃ as, Refs H a as ∧ Paired (LI H) as f ∧ ∀ x ∈ as, H0 x = none
theorem FamN.fam {H0 H : Hp} {a : Addr} {f : List (List Int)} (h : FamN H0 H a f) : Fam H a f := let ⟨as, h1, h2, _⟩ := h; ⟨as, h1, h2⟩
theorem paired_upd {H : Hp} {D : Addr} {o : HO} {as : List Addr} {f : List (List Int)} (p : Paired (LI H) as f) (h : ∀ a ∈ as, a ≠ D) : Paired (LI (upd H D o)) as f := by
  induction p with
  | nil => exact .nil
  | cons r t ih => exact .cons ((upd_ne (h _ List.mem_cons_self)).trans r) (ih fun a ha => h a (List.mem_cons_of_mem _ ha))
theorem paired_keep {H H' : Hp} {ds : List Addr} {as : List Addr} {f : List (List Int)} (p : Paired (LI H) as f) (b : ButL ds H H') (h : ∀ a ∈ as, a ∉ ds) : Paired (LI H') as f := by
  induction p with
  | nil => exact .nil
  | cons r t ih => exact .cons (b _ _ (h _ List.mem_cons_self) r) (ih fun a ha => h a (List.mem_cons_of_mem _ ha))
theorem paired_there {H : Hp} {as : List Addr} {f : List (List Int)} (p : Paired (LI H) as f) {D : Addr} (h : H D = none) : ∀ a ∈ as, a ≠ D := by
  induction p with
  | nil => intro a ha; cases ha
  | cons r t ih =>
    intro a ha
    rcases List.mem_cons.mp ha with rfl | ha
    · exact ne_of_none r h
    · exact ih a ha
theorem paired_ne_dr {H : Hp} {d : Addr} {n k : Int} {c : Bool} {as : List Addr} {f : List (List Int)} (p : Paired (LI H) as f) (h : H d = some (DrO n k c)) : ∀ a ∈ as, a ≠ d := by
  induction p with
  | nil => intro a ha; cases ha
  | cons r t ih =>
    intro a ha
    rcases List.mem_cons.mp ha with rfl | ha
    · exact fun z => dr_ne_ints (Option.some.inj (h.symm.trans (z ▸ r)))
    · exact ih a ha
theorem refs_snoc {H : Hp} {D : Addr} {as : List Addr} {l : Addr} : Refs (upd H D (.lst (as.map V.ref ++ [V.ref l]))) D (as ++ [l]) := by
  unfold Refs
  rw [upd_same, List.map_append]
  rfl
theorem refs_li {H : Hp} {a : Addr} {as : List Addr} {xs : List Int} (h : Refs H a as) (h' : LI H a xs) : as = [] ∧ xs = [] := by
  have e : (HO.lst (as.map V.ref)) = .lst (xs.map V.int) := Option.some.inj (h.symm.trans h')
  injection e with e
  cases as with
  | nil =>
    cases xs with
    | nil => exact ⟨rfl, rfl⟩
    | cons x xs => cases e
  | cons y as =>
    cases xs with
    | nil => cases e
    | cons x xs =>
      rw [List.map_cons, List.map_cons] at e
      injection e with e _
      cases e
/-- one of several lists is changed -/
theorem paired_set {H : Hp} {x : Addr} {c' : List Int} : ∀ {as : List Addr} {f : List (List Int)} {j : Nat}, Paired (LI H) as f → as.Nodup → as[j]? = some x → Paired (LI (upd H x (.lst (c'.map V.int)))) as (f.set j c')
  | _, _, _, .nil, _, h => by simp at h
  | a :: as, c :: f, 0, .cons r t, nd, h => by
    simp at h
    subst h
    obtain ⟨n1, n2⟩ := List.nodup_cons.mp nd
    exact .cons upd_same (paired_upd t fun b hb z => n1 (by rw [← z]; exact hb))
  | a :: as, c :: f, j + 1, .cons r t, nd, h => by
    obtain ⟨n1, n2⟩ := List.nodup_cons.mp nd
    have h' : as[j]? = some x := by simpa using h
    have hx := List.mem_of_getElem? h'
    exact .cons ((upd_ne (fun z => n1 (by rw [z]; exact hx))).trans r) (paired_set t n2 h')
theorem flatten_set {f : List (List Int)} {j : Nat} {c : List Int} {x : Int} (h : f[j]? = some c) : (f.set j (c ++ [x])).flatten.Perm (x :: f.flatten) := by
  induction f generalizing j with
  | nil => simp at h
  | cons d f ih =>
    cases j with
    | zero =>
      simp at h
      subst h
      rw [List.set_cons_zero, List.flatten_cons, List.flatten_cons, List.append_assoc]
      exact List.perm_middle
    | succ j =>
      rw [List.set_cons_succ, List.flatten_cons, List.flatten_cons]
      refine (List.Perm.append_left d (ih (by simpa using h))).trans ?_
      exact List.perm_middle
theorem flatten_replicate_nil (m : Nat) : (List.replicate m ([] : List Int)).flatten = [] := by
  induction m with
  | zero => rfl
  | succ m ih => rw [List.replicate_succ, List.flatten_cons, ih]; rfl
theorem paired_replicate {H : Hp} : ∀ {as : List Addr}, (∀ a ∈ as, LI H a []) → Paired (LI H) as (List.replicate as.length [])
  | [], _ => .nil
  | a :: as, h => .cons (h a List.mem_cons_self) (paired_replicate fun b hb => h b (List.mem_cons_of_mem _ hb))
/-- families at places, none of them at D, nor their chains -/
def FamX (H : Hp) (D a : Addr) (f : List (List Int)) : Prop := a ≠ D ∧ ∃ as, Refs H a as ∧ Paired (LI H) as f ∧ ∀ x ∈ as, x ≠ D
theorem FamX.fam {H : Hp} {D a : Addr} {f : List (List Int)} (h : FamX H D a f) : Fam H a f := let ⟨_, as, h1, h2, _⟩ := h; ⟨as, h1, h2⟩
theorem FamX.off {H : Hp} {D a : Addr} {f : List (List Int)} {o : HO} (h : FamX H D a f) : FamX (upd H D o) D a f := let ⟨h0, as, h1, h2, h3⟩ := h; ⟨h0, as, (upd_ne h0).trans h1, paired_upd h2 h3, h3⟩
theorem FamX.but {H H' : Hp} {D a d : Addr} {f : List (List Int)} {n k : Int} {c : Bool} (h : FamX H D a f) (hd : H d = some (DrO n k c)) (s : But d H H') : FamX H' D a f := let ⟨h0, as, h1, h2, h3⟩ := h; ⟨h0, as, h1.but hd s, Paired.mapP h2 fun _ _ q => q.but hd s, h3⟩
theorem FamN.off {H0 H : Hp} {D a : Addr} {f : List (List Int)} (h : FamN H0 H a f) (ha : H0 a = none) (hD : H0 D ≠ none) : FamX H D a f := let ⟨as, h1, h2, h3⟩ := h; ⟨fun z => hD (z ▸ ha), as, h1, h2, fun x hx z => hD (z ▸ h3 x hx)⟩
theorem fams_off {H : Hp} {D : Addr} {o : HO} {as : List Addr} {r : List (List (List Int))} (p : Paired (FamX H D) as r) : Paired (FamX (upd H D o) D) as r := Paired.mapP p fun _ _ q => q.off
/-- how far the draws are -/
def Dws (H : Hp) (as : List Addr) (b : Int) : Prop := ∀ a ∈ as, ∃ n k c, H a = some (DrO n k c) ∧ 0 ≤ k ∧ k ≤ b
theorem Dws.mono {H : Hp} {as : List Addr} {b b' : Int} (h : Dws H as b) (hb : b ≤ b') : Dws H as b' := fun a ha => let ⟨n, k, c, e, h1, h2⟩ := h a ha; ⟨n, k, c, e, h1, by omega⟩
theorem Dws.same {H H' : Hp} {as : List Addr} {b : Int} (h : Dws H as b) (s : Same H H') : Dws H' as b := fun a ha => let ⟨n, k, c, e, h1, h2⟩ := h a ha; ⟨n, k, c, s _ _ e, h1, h2⟩
theorem Dws.but {H H' : Hp} {as : List Addr} {b : Int} {d : Addr} {n k : Int} {c : Bool} (h : Dws H as b) (s : But d H H') (e : H' d = some (DrO n k c)) (h0 : 0 ≤ k) (h1 : k ≤ b) : Dws H' as b := fun a ha => by
  by_cases z : a = d
  · rw [z]
    exact ⟨n, k, c, e, h0, h1⟩
  · obtain ⟨n', k', c', e', h2, h3⟩ := h a ha
    exact ⟨n', k', c', s _ _ z e', h2, h3⟩
end Kt

set_option Elab.async false
set_option linter.all false
set_option maxRecDepth 100000
set_option maxHeartbeats 4000000
/-! What sorting along a family keeps; unlike values; families as data. -/
namespace Kt
open PySem L2 PyProof.Rows
theorem fold_keeps {n : Nat} {Φ : List Int → Prop} (f : List (List Int)) : ∀ (load r : List Int), f.flatten.Nodup → (∀ x ∈ f.flatten, 1 ≤ x ∧ x ≤ (n : Int)) → (∀ x ∈ f.flatten, at1 r x = at1 load x) → r.length = n → Φ r →
    (∀ r c, c ∈ f → r.length = n → Φ r → Φ (along1 r r c)) → Φ (f.foldl (along1 load) r) := by
  induction f with
  | nil => intro load r _ _ _ _ h _; exact h
  | cons c f ih =>
    intro load r nd rg hv hl h step
    rw [List.flatten_cons] at nd rg hv
    obtain ⟨n1, n2, n3⟩ := List.nodup_append.mp nd
    have ev : c.map (at1 r) = c.map (at1 load) := List.map_congr_left fun x hx => hv x (List.mem_append_left _ hx)
    have e : along1 load r c = along1 r r c := by unfold along1; rw [ev]
    rw [List.foldl_cons, e]
    refine ih load _ n2 (fun x hx => rg x (List.mem_append_right _ hx)) (fun x hx => ?_) (by rw [along1_len]; exact hl) (step r c List.mem_cons_self hl h) fun r' c' hc' => step r' c' (List.mem_cons_of_mem _ hc')
    rw [← hv x (List.mem_append_right _ hx)]
    exact put_other (rg x (List.mem_append_right _ hx)).1 fun y hy => ⟨(rg y (List.mem_append_left _ hy)).1, n3 y hy x hx⟩
theorem sort_keeps {Φ : List Int → Prop} {load : List Int} {f : List (List Int)} (v : Valid load.length f) (h : Φ load) (step : ∀ r c, c ∈ f → r.length = load.length → Φ r → Φ (along1 r r c)) : Φ (sortAlong load f) :=
  fold_keeps f load load v.nd v.rg (fun _ _ => rfl) rfl h step
/-- unlike values -/
def Inj (load : List Int) : Prop := ∀ p q : Int, 1 ≤ p → p ≤ (load.length : Int) → 1 ≤ q → q ≤ (load.length : Int) → at1 load p = at1 load q → p = q
theorem inj_of_nodup {load : List Int} (nd : load.Nodup) : Inj load := by
  intro p q p1 p2 q1 q2 h
  have hp : (p - 1).toNat < load.length := by omega
  have hq : (q - 1).toNat < load.length := by omega
  have e1 := at1_get p1 p2
  have e2 := at1_get q1 q2
  rw [List.getElem?_eq_getElem hp] at e1
  rw [List.getElem?_eq_getElem hq] at e2
  have := (List.getElem_inj nd).mp ((Option.some.inj e1).trans (h.trans (Option.some.inj e2).symm))
  omega
theorem map_inj_nodup {g : Int → Int} : ∀ {c : List Int}, (c.map g).Nodup → ∀ p ∈ c, ∀ q ∈ c, g p = g q → p = q
  | [], _, p, hp, _, _, _ => by cases hp
  | x :: c, nd, p, hp, q, hq, h => by
    rw [List.map_cons] at nd
    obtain ⟨n1, n2⟩ := List.nodup_cons.mp nd
    rcases List.mem_cons.mp hp with e1 | hp'
    · rcases List.mem_cons.mp hq with e2 | hq'
      · rw [e1, e2]
      · exact absurd (show g x ∈ c.map g from List.mem_map.mpr ⟨q, hq', by rw [← e1]; exact h.symm⟩) n1
    · rcases List.mem_cons.mp hq with e2 | hq'
      · exact absurd (show g x ∈ c.map g from List.mem_map.mpr ⟨p, hp', by rw [← e2]; exact h⟩) n1
      · exact map_inj_nodup n2 p hp' q hq' h
theorem nodup_map_inj {g : Int → Int} {c : List Int} (nd : c.Nodup) (h : ∀ p ∈ c, ∀ q ∈ c, g p = g q → p = q) : (c.map g).Nodup := by
  rw [List.Nodup, List.pairwise_map]
  exact (List.Pairwise.and_mem.mp nd).imp fun {a b} ⟨ha, hb, hn⟩ e => hn (h a ha b hb e)
theorem inj_along {r c : List Int} (nd : c.Nodup) (rg : ∀ x ∈ c, 1 ≤ x ∧ x ≤ (r.length : Int)) (h : Inj r) : Inj (along1 r r c) := by
  have own : c.map (at1 (along1 r r c)) = srt (c.map (at1 r)) := put_own c _ r nd rg (Int.le_refl _) (by rw [srt_len, List.length_map])
  have cn : (c.map (at1 r)).Nodup := nodup_map_inj nd fun p hp q hq e => h p q (rg p hp).1 (rg p hp).2 (rg q hq).1 (rg q hq).2 e
  have cn2 : (c.map (at1 (along1 r r c))).Nodup := by rw [own]; exact (srt_perm _).nodup_iff.mpr cn
  have from_ : ∀ p ∈ c, ∃ p' ∈ c, at1 (along1 r r c) p = at1 r p' := fun p hp => by
    have h1 : at1 (along1 r r c) p ∈ c.map (at1 (along1 r r c)) := List.mem_map.mpr ⟨p, hp, rfl⟩
    rw [own] at h1
    obtain ⟨p', hp', e⟩ := List.mem_map.mp ((srt_perm _).mem_iff.mp h1)
    exact ⟨p', hp', e.symm⟩
  have off : ∀ p, 1 ≤ p → p ∉ c → at1 (along1 r r c) p = at1 r p := fun p p1 hp => put_other p1 fun x hx => ⟨(rg x hx).1, fun z => hp (z ▸ hx)⟩
  intro p q p1 p2 q1 q2 e
  rw [along1_len] at p2 q2
  by_cases hp : p ∈ c
  · by_cases hq : q ∈ c
    · exact map_inj_nodup cn2 p hp q hq e
    · obtain ⟨p', hp', e'⟩ := from_ p hp
      rw [e', off q q1 hq] at e
      have := h p' q (rg p' hp').1 (rg p' hp').2 q1 q2 e
      exact absurd (this ▸ hp') hq
  · by_cases hq : q ∈ c
    · obtain ⟨q', hq', e'⟩ := from_ q hq
      rw [e', off p p1 hp] at e
      have := h p q' p1 p2 (rg q' hq').1 (rg q' hq').2 e
      exact absurd (this ▸ hq') hp
    · rw [off p p1 hp, off q q1 hq] at e
      exact h p q p1 p2 q1 q2 e
theorem chain_nodup {f : List (List Int)} {c : List Int} (nd : f.flatten.Nodup) (hc : c ∈ f) : c.Nodup := by
  induction f with
  | nil => cases hc
  | cons d f ih =>
    rw [List.flatten_cons] at nd
    obtain ⟨n1, n2, _⟩ := List.nodup_append.mp nd
    rcases List.mem_cons.mp hc with e | e
    · rw [e]; exact n1
    · exact ih n2 e
theorem inj_sort {load : List Int} {f : List (List Int)} (v : Valid load.length f) (h : Inj load) : Inj (sortAlong load f) :=
  sort_keeps v h fun r c hc hl hr => inj_along (chain_nodup v.nd hc) (fun x hx => by rw [hl]; exact v.rg x (flatten_mem hc hx)) hr
theorem afterRow_still : ∀ (r : List (List (List Int))) (load : List Int), (∀ f ∈ r, Valid load.length f ∧ isSorted load f = true) → afterRow load r = load
  | [], _, _ => rfl
  | f :: r, load, h => by
    have e : afterRow load (f :: r) = afterRow (sortAlong load f) r := rfl
    obtain ⟨h1, h2⟩ := h f List.mem_cons_self
    rw [e, sort_still h1 h2]
    exact afterRow_still r load fun g hg => h g (List.mem_cons_of_mem _ hg)
/-! ### as data -/
theorem lay_list {ds : List PyData} {D : Nat} (h : ∀ d ∈ ds, PyData.canLay0 d = true ∧ PyData.depth d ≤ D) : PyData.canLay0 (.list ds) = true ∧ PyData.depth (.list ds) ≤ D + 1 := by
  rw [PyData.canLay0, PyData.depth]
  suffices z : PyData.canLayAll0 ds = true ∧ PyData.depthAll ds ≤ D from ⟨z.1, Nat.succ_le_succ z.2⟩
  induction ds with
  | nil => exact ⟨by rw [PyData.canLayAll0], by rw [PyData.depthAll]; exact Nat.zero_le _⟩
  | cons d ds ih =>
    obtain ⟨h1, h2⟩ := h d List.mem_cons_self
    obtain ⟨h3, h4⟩ := ih fun x hx => h x (List.mem_cons_of_mem _ hx)
    exact ⟨by rw [PyData.canLayAll0, h1, h3]; rfl, by rw [PyData.depthAll]; exact Nat.max_le.mpr ⟨h2, h4⟩⟩
theorem lay_dL (xs : List Int) : PyData.canLay0 (dL xs) = true ∧ PyData.depth (dL xs) ≤ 1 := lay_list fun d hd => by
  obtain ⟨x, _, rfl⟩ := List.mem_map.mp hd
  exact ⟨by rw [PyData.canLay0], by rw [PyData.depth]; exact Nat.le_refl _⟩
theorem lay_dF (f : List (List Int)) : PyData.canLay0 (dF f) = true ∧ PyData.depth (dF f) ≤ 2 := lay_list fun d hd => by
  obtain ⟨x, _, rfl⟩ := List.mem_map.mp hd
  exact lay_dL x
theorem lay_dR (r : List (List (List Int))) : PyData.canLay0 (dR r) = true ∧ PyData.depth (dR r) ≤ 3 := lay_list fun d hd => by
  obtain ⟨x, _, rfl⟩ := List.mem_map.mp hd
  exact lay_dF x
theorem shaped_dR (r : List (List (List Int))) : SeqAt.shaped (dR r) = true := by
  obtain ⟨h1, h2⟩ := lay_dR r
  unfold SeqAt.shaped
  rw [h1, Bool.true_and]
  exact decide_eq_true (by omega)
theorem eqv_dR_nil (r : List (List (List Int))) : PyData.eqv (dR r) (.list []) = decide (r = []) := by
  unfold dR
  rw [PyData.eqv]
  cases r with
  | nil => rw [List.map_nil, PyData.eqvAll]; rfl
  | cons x r => rw [List.map_cons, PyData.eqvAll]; rfl
/-- families that stand, away from a new place -/
theorem famX_new {H : Hp} {D a : Addr} {f : List (List Int)} (h : Fam H a f) (hD : H D = none) : FamX H D a f := by
  obtain ⟨as, h1, h2⟩ := h
  exact ⟨ne_of_none h1 hD, as, h1, h2, paired_there h2 hD⟩
theorem FamX.same {H H' : Hp} {D a : Addr} {f : List (List Int)} (h : FamX H D a f) (s : Same H H') : FamX H' D a f := let ⟨h0, as, h1, h2, h3⟩ := h; ⟨h0, as, h1.same s, Paired.mapP h2 fun _ _ q => q.same s, h3⟩
theorem rgC_down {n : Nat} (hn : n ≤ 1000) : RgC (n : Int) 0 (-1) n := by
  have h := RgC.neg (i := (n : Int)) (j := 0) (by omega) (by omega) (by omega) (by omega)
  have e : ((n : Int) - 0).toNat = n := by omega
  rw [e] at h
  exact h
end Kt

set_option Elab.async false
set_option linter.all false
set_option maxRecDepth 100000
set_option maxHeartbeats 4000000
/-! The end of a law whose promise wants the guards. -/
namespace Kt
open PySem L2 PyProof.Rows
section
variable {P : Program} {w : World} {K : PySem.W.Frag} {mg mb : Str → Option Value} {k : Nat} {fa a : Addr} {fd : FuncData} {x : Str} {sp : Sp} {s1 : Shared} {vs : List Value} {ns : List Int}
/-- the object of the script -/
def scriptO (vs : List Value) : Obj := { cls := .type "list", data := .seq vs.toArray }
/-- the abstract heap at the entry: at most the script -/
theorem entry_heap (KX : K.In s1.heap) (ha : s1.heap.get? a = some (scriptO vs)) (hi : IntsAre vs ns) (hl : ns.length ≤ sizeLine) :
    ∃ H : Hp, (∀ b o, H b = some o → b = a ∧ o = .frz (scriptO vs) (.lst (ns.map V.int)) ∧ K.lookup a = none) ∧ SqL K H a (ns.map V.int) := by
  have rv := vals_ints hi
  cases hk : K.lookup a with
  | none =>
    refine ⟨fun b => if b = a then some (.frz (scriptO vs) (.lst (ns.map V.int))) else none, ?_, .inl (.inr ⟨scriptO vs, if_pos rfl⟩)⟩
    intro b o h
    have h' : (if b = a then some (HO.frz (scriptO vs) (.lst (ns.map V.int))) else none) = some o := h
    by_cases e : b = a
    · rw [if_pos e] at h'
      exact ⟨e, (Option.some.inj h').symm, rfl⟩
    · rw [if_neg e] at h'
      cases h'
  | some o =>
    have e := (KX a o hk).symm.trans ha
    cases e
    refine ⟨fun _ => none, ?_, .inr ⟨_, vs.toArray, _, hk, rfl, rfl, rfl, by rw [List.size_toArray, hi.length]; exact hl, by simpa using rv⟩⟩
    intro b o h
    have h' : (none : Option HO) = some o := h
    cases h'
theorem law_callG (KX : K.In s1.heap) (hns : s1.heap.Ns mainGlobals mg) (hb : s1.heap.Ns builtinsNs mb) (hbb : ∀ y : Str, y ≠ "__name__" → mb y = bootBuiltins y) (hlim : s1.heap.NoLimit) (hg : s1.gens = #[])
    (ha : s1.heap.get? a = some (scriptO vs)) (hi : IntsAre vs ns) (hl : ns.length ≤ sizeLine) (hr : Room k callerA)
    (F : ∀ base : Heap, K.In base → base.Ns mainGlobals mg → FnG P w K mg base k fa fd [x] sp) (bind : ∀ (s : Shared) (u : Value), BindsTo s fd ⟨[u], []⟩ [(x, u)])
    (ask : ∀ H : Hp, SqL K H a (ns.map V.int) → sp [.ref a] H (fun v _ => v = .bl true) E0) :
    codeAny (model P w) callerA (.call (.ref fa) ⟨[.ref a], []⟩) (fun r s' => r = .ok (.ret (.bool true)) ∧ OldK s1.heap s'.heap ∧ s'.os = s1.os ∧ AllBare s'.gens) s1 := by
  obtain ⟨H, only, hS⟩ := entry_heap KX ha hi hl
  have hok : HOk P w H s1.heap := fun b o h => by
    obtain ⟨rfl, rfl, _⟩ := only b o h
    exact ⟨ha, by rw [List.length_map]; exact hl, vs, 0, vals_ints hi, ha⟩
  have notdict : ∀ {b : Addr} {o : Obj} {es : Array DictEntry} {ep : Nat}, s1.heap.get? b = some o → o.data = .dict es ep → H b = none := fun {b o es ep} e d => by
    cases q : H b with
    | none => rfl
    | some u =>
      obtain ⟨rfl, _, _⟩ := only b u q
      rw [ha] at e
      cases e
      exact nomatch d
  have there : ∀ {b : Addr} {m : Str → Option Value}, s1.heap.Ns b m → (hidT s1.heap H).Ns b m := fun {b m} ⟨o, es, ep, e, d, r⟩ => ⟨o, es, ep, hidT_get e (notdict e d), d, r⟩
  have Kb : K.In (hidT s1.heap H) := fun b o e => hidT_get (KX b o e) (by
    cases q : H b with
    | none => rfl
    | some u =>
      obtain ⟨rfl, _, h⟩ := only b u q
      rw [h] at e
      cases e)
  have lim : (hidT s1.heap H).NoLimit := let ⟨mc, h1, h2⟩ := hlim; ⟨mc, there h1, h2⟩
  have M : Mod K mg (hidT s1.heap H) := ⟨Kb, there hns, ⟨mb, there hb, hbb⟩, lim⟩
  have none_in : ∀ b : Addr, b ∉ frs ([] : List Env) := fun b h => by
    have h' : b ∈ ([] : List Addr) := h
    cases h'
  have e0 : Env0 P w K mg (hidT s1.heap H) callerA [] s1 H := ⟨rfl, M, fun b o e => of_hidT e, Nat.le_of_eq (hidT_size _ _), trivial, fun b h => absurd h (none_in b), hok, .of_eq hg⟩
  have run := (F _ Kb (there hns)).go callerA [] s1 H ⟨[.ref a], []⟩ [.ref a] [.ref a] _ hr rfl e0 (bind s1 (.ref a)) (.cons rfl .nil) (ask H hS)
  refine codeAny_mono run fun r s' h => ?_
  match r, h with
  | .error _, h => exact False.elim h
  | .ok .next, h => exact False.elim h
  | .ok .brk, h => exact False.elim h
  | .ok .cont, h => exact False.elim h
  | .ok (.ret u), h =>
    obtain ⟨v, H', os, bare, un, hok', r', ev⟩ := h
    obtain rfl : v = .bl true := ev
    obtain rfl : u = Value.bool true := r'
    refine ⟨rfl, OldK.of_keep fun b o e => ?_, os, bare⟩
    cases q : H b with
    | none => exact un.keep b o e q (none_in b) (fun z => by cases z)
    | some u =>
      obtain ⟨rfl, rfl, _⟩ := only b u q
      have z := (hok' _ _ (un.frzs _ _ _ q)).1
      rw [ha] at e
      cases e
      exact z
end
/-- the goal that the head leaves -/
theorem walkG {l : PySem.W.OpenLaw} {n k : Nat} {q : Program} {loose : List Str} {XP : (Str → Option Value) → Heap → Prop} {YP : World → Heap → Prop} {d : DefRec} {K : Params → PySem.W.Frag} {sp : PySem.W.Frag → Sp} {x : Str}
    (hn : l.most = some n) (hn2 : n ≤ sizeLine) (hdf : d.params.defaults = []) (hr : Room k callerA) (hY : ∀ (w : World) (h : Heap), YP w h → (K w.params).In h)
    (F : ∀ (w : World) (mg : Str → Option Value) (fa : Addr) (h : Heap), (K w.params).In h → h.Ns mainGlobals mg → mg d.name = some (.ref fa) →
      ∃ fd : FuncData, (∀ (s : Shared) (u : Value), BindsTo s fd ⟨[u], []⟩ [(x, u)]) ∧ ∀ base : Heap, (K w.params).In base → base.Ns mainGlobals mg → FnG l.prog w (K w.params) mg base k fa fd [x] (sp (K w.params)))
    (ask : ∀ (K : PySem.W.Frag) (H : Hp) (a : Addr) (ns : List Int), ns.length ≤ n → SqL K H a (ns.map V.int) → sp K [.ref a] H (fun v _ => v = .bl true) E0) :
    PySem.W.WalkO q loose XP YP l.row.toRowW d [] (fun f vs => PySem.call f vs) := by
  refine Att.attach_call hn hdf fun w s0 s1 mg mb fa o pm cd doc a vs ns G Y ho hd hcd hmg hobj hints hlen hg => ?_
  obtain ⟨fd, hb, hF⟩ := F w mg fa _ (hY w _ Y) G.T.g hmg
  exact law_callG (hY w _ Y) G.T.g G.T.b G.T.builtins G.T.nolimit hg hobj hints (Nat.le_trans hlen hn2) hr hF hb fun H hS => ask _ H a ns hlen hS
end Kt

set_option Elab.async false
set_option linter.all false
set_option maxRecDepth 100000
set_option maxHeartbeats 4000000
namespace K22
open PySem L2 Kt PyProof.Rows
def tp (i : Nat) : Stmt := PySem.Challenge.pw_keptsorted_k22_whole_coming_to_rest.main.body.getD i (.Pass ⟨0, 0, 0, 0⟩)
abbrev sWhole : Stmt := tp 6
abbrev sWithin : Stmt := tp 7
abbrev sChFill : Stmt := tp 8
abbrev sChFam : Stmt := tp 9
abbrev sChRow : Stmt := tp 10
abbrev sFault : Stmt := tp 11
abbrev sSortBy : Stmt := tp 13
abbrev sIsBy : Stmt := tp 14
abbrev sAfterRow : Stmt := tp 15
abbrev sAlong : Stmt := tp 16
abbrev sAsc : Stmt := tp 17
/-- the built-ins stand under their own names -/
structure Nb (mg : Str → Option Value) : Prop where
  len : mg "len" = none
  isi : mg "isinstance" = none
  int : mg "int" = none
  bool : mg "bool" = none
  list : mg "list" = none
  enum : mg "enumerate" = none
  set : mg "set" = none
  zip : mg "zip" = none
  sorted : mg "sorted" = none
  range : mg "range" = none
  repr : mg "repr" = none
  min : mg "min" = none
section
variable {P : Program} {w : World} {K : PySem.W.Frag} {mg : Str → Option Value} {base : Heap}
/-! ### is_whole, is_whole_within -/
def spWhole : Sp := fun vs H Q _ => ∃ i : Int, vs = [.int i] ∧ Q (.bl true) H
theorem scWhole : FnScope ["thing"] ["thing"] (defScope sWhole) := ⟨rfl, rfl, rfl, by decide +kernel, rfl, by decide +kernel, by decide +kernel⟩
theorem ok_whole {f : Addr} {fd : FuncData} (F : Fun K "is_whole" "is_whole" sWhole f fd) (N : Nb mg) : FnOk P w K mg base CX0 1 f fd ["thing"] spWhole := by
  refine F.ok scWhole (fun vs H Q E h => ?_) (fun cdv A outer s H vs Q E hr h => ?_)
  · obtain ⟨i, rfl, _⟩ := h
    rfl
  · obtain ⟨i, rfl, k⟩ := h
    refine ⟨_, pss_one (ps_ret (pe_and (pe_callB call_isi (by rfl) N.isi (by decide +kernel) (pa_cons (pv 0) (pa_cons (pe_bltn (v := .ty "int") (by rfl) N.int (by decide +kernel) rfl) pa_nil)))
      (pe_one (pe_not (pe_callB call_isi (by rfl) N.isi (by decide +kernel) (pa_cons (pv 0) (pa_cons (pe_bltn (v := .ty "bool") (by rfl) N.bool (by decide +kernel) rfl) pa_nil))))))), ?_⟩
    refine ⟨_, rfl, _, _, _, _, _, rfl, .ty "int", .base (.int i), kit_ty (by decide +kernel), true, rfl, iteT ?_⟩
    exact ⟨_, rfl, _, _, _, _, _, rfl, .ty "bool", .base (.int i), kit_ty (by decide +kernel), false, rfl, k⟩
def spWithin : Sp := fun vs H Q _ => ∃ i a b : Int, vs = [.int i, .int a, .int b] ∧ Q (.bl (decide (a ≤ i) && decide (i ≤ b))) H
theorem scWithin : FnScope ["thing", "least", "most"] ["thing", "least", "most"] (defScope sWithin) := ⟨rfl, rfl, rfl, by decide +kernel, rfl, by decide +kernel, by decide +kernel⟩
theorem ok_within {f f1 : Addr} {fd fd1 : FuncData} (F : Fun K "is_whole_within" "is_whole_within" sWithin f fd) (G : FnOk P w K mg base CX0 1 f1 fd1 ["thing"] spWhole) (b1 : Binds K fd1 ["thing"] []) (m1 : mg "is_whole" = some (.ref f1)) (k1 : PySem.W.keepIn K (.ref f1) = true) :
    FnOk P w K mg base CX0 2 f fd ["thing", "least", "most"] spWithin := by
  refine F.ok scWithin (fun vs H Q E h => ?_) (fun cdv A outer s H vs Q E hr h => ?_)
  · obtain ⟨i, a, b, rfl, _⟩ := h
    rfl
  · obtain ⟨i, a, b, rfl, k⟩ := h
    refine ⟨_, pss_one (ps_ret (pe_and (pe_call G hr (by rfl) m1 k1 b1 .nil pass0 (pa_cons (pv 0) pa_nil)) (pe_one (pe_chain op_le op_le (pv 1) (pv 0) (pv 2))))), ?_⟩
    refine ⟨_, rfl, i, rfl, true, rfl, iteT ?_⟩
    refine ⟨_, rfl, _, rfl, _, _, rfl, rfl, _, rfl, ?_⟩
    by_cases h1 : a ≤ i
    · refine ite2 (fun _ => ⟨_, rfl, _, _, rfl, rfl, ?_⟩) fun z => absurd (decide_eq_true h1) z
      rw [decide_eq_true h1, Bool.true_and] at k
      exact k
    · refine ite2 (fun z => absurd (of_decide_eq_true z) h1) fun _ => ?_
      rw [decide_eq_false h1, Bool.false_and] at k
      exact k
end
end K22

namespace K22
open PySem L2 Kt PyProof.Rows
section
variable {P : Program} {w : World} {K : PySem.W.Frag} {mg : Str → Option Value} {base : Heap}
/-! ### check_filling -/
def spChFill : Sp := fun vs H Q _ => ∃ (a : Addr) (xs : List Int), vs = [.ref a] ∧ LI H a xs ∧ 1 ≤ xs.length ∧ xs.length ≤ 40 ∧ ∀ H', Same H H' → Q .non H'
theorem scChFill : FnScope ["filling", "index", "thing"] ["filling"] (defScope sChFill) := ⟨rfl, rfl, rfl, by decide +kernel, rfl, by decide +kernel, by decide +kernel⟩
theorem ok_chFill {f f1 : Addr} {fd fd1 : FuncData} {tm : Tok} (F : Fun K "check_filling" "check_filling" sChFill f fd) (N : Nb mg) (mm : mg "MOST_PLACES" = some (.int 40 tm)) (G : FnOk P w K mg base CX0 1 f1 fd1 ["thing"] spWhole) (b1 : Binds K fd1 ["thing"] [])
    (m1 : mg "is_whole" = some (.ref f1)) (k1 : PySem.W.keepIn K (.ref f1) = true) : FnOk P w K mg base CX0 2 f fd ["filling"] spChFill := by
  refine F.ok scChFill (fun vs H Q E h => ?_) (fun cdv A outer s H vs Q E hr h => ?_)
  · obtain ⟨a, xs, rfl, _⟩ := h
    rfl
  · obtain ⟨a, xs, rfl, hx, h1, h40, k⟩ := h
    refine ⟨_, pss_cons (ps_if (PW.pt (pw_or (pt_not (pt_val (pe_callB call_isi (by rfl) N.isi (by decide +kernel) (pa_cons (pv 0) (pa_cons (pe_bltn (v := .ty "list") (by rfl) N.list (by decide +kernel) rfl) pa_nil)))))
        (pw_or1 (pt_not (pt_chain op_le op_le pe_int (pe_callB call_len_seq (by rfl) N.len PySem.boot_len (pa_cons (pv 0) pa_nil)) (pe_glob (v := .int 40) rfl mm ⟨_, rfl⟩)))))) (pss_one ps_never) pss_nil)
      (pss_one (ps_for PassesOwn.never rfl (pi_enum (by rfl) N.enum (pa_cons (pv 0) pa_nil)) (pg_tup rfl (pgs_cons (pg_name (i := 1) scChFill.nd rfl (.inl rfl)) (pgs_cons (pg_name (i := 2) scChFill.nd rfl (.inl rfl)) pgs_nil)))
        (pss_one (ps_if (pt_not (pt_val (pe_call G hr (by rfl) m1 k1 b1 .nil pass0 (pa_cons (pv 2) pa_nil)))) (pss_one ps_never) pss_nil)))), ?_⟩
    refine ⟨_, rfl, _, _, _, _, _, rfl, .ty "list", .base (.lst hx), kit_ty (by decide +kernel), true, rfl, iteF ?_⟩
    refine ⟨_, rfl, a, _, rfl, .inl (SqL.of hx), _, _, rfl, rfl, _, rfl, ?_⟩
    have e1 : decide ((1 : Int) ≤ ((xs.map V.int).length : Int)) = true := decide_eq_true (by rw [List.length_map]; omega)
    have e2 : decide (((xs.map V.int).length : Int) ≤ (40 : Int)) = true := decide_eq_true (by rw [List.length_map]; omega)
    rw [e1]
    refine iteT ⟨_, _, rfl, rfl, _, rfl, ?_⟩
    rw [e2]
    refine iteF ?_
    refine ⟨_, rfl, a, _, rfl, SqL.of hx, for_it walk_enum (fun _ σ H' => (∃ x y, σ = [some (.ref a), x, y]) ∧ Same H H') ⟨⟨_, _, rfl⟩, Same.refl H⟩ (fun i σ H' _ q => SqL.of (q.2 _ _ hx)) ?_ (fun σ H' q => k _ q.2)⟩
    rintro i v σ H1 H2 hi ⟨⟨x, y, rfl⟩, sm⟩ ⟨T, u, z, rfl, hT, rfl, hu, hz⟩
    obtain ⟨n, _, rfl⟩ := map_get hz
    refine ⟨T, _, rfl, SqT.of upd_same, rfl, _, _, rfl, _, _, rfl, rfl, ?_⟩
    refine ⟨_, rfl, n, rfl, true, rfl, iteF ?_⟩
    exact ⟨⟨_, _, rfl⟩, sm.trans (same_upd hT)⟩
/-! ### fault_of_family -/
def spFault : Sp := fun vs H Q _ => ∃ (n : Nat) (a : Addr) (fm : List (List Int)), vs = [.int n, .ref a] ∧ Fam H a fm ∧ Valid n fm ∧ n ≤ 40 ∧ ∀ H', Same H H' → Q .non H'
theorem scFault : FnScope ["places", "family", "met", "at", "chain", "index", "thing"] ["places", "family"] (defScope sFault) := ⟨rfl, rfl, rfl, by decide +kernel, rfl, by decide +kernel, by decide +kernel⟩
/-- what was met before the j-th place of the i-th chain -/
def seen (f : List (List Int)) (i : Nat) (c : List Int) (j : Nat) : List Int := (f.take i).flatten ++ c.take j
theorem seen_next {f : List (List Int)} {i : Nat} {c : List Int} (h : f[i]? = some c) : seen f i c c.length = (f.take (i + 1)).flatten := by
  unfold seen
  rw [List.take_length, List.take_add_one, h, Option.toList_some, List.flatten_append]
  simp
theorem seen_step {f : List (List Int)} {i j : Nat} {c : List Int} {x : Int} (h : c[j]? = some x) : seen f i c (j + 1) = seen f i c j ++ [x] := by
  unfold seen
  rw [List.take_add_one, h, Option.toList_some, List.append_assoc]
theorem seen_pre {f : List (List Int)} {i j : Nat} {c : List Int} (h : f[i]? = some c) : ∃ r, f.flatten = seen f i c j ++ r := by
  have e : f = f.take i ++ c :: f.drop (i + 1) := by
    have hi := (List.getElem?_eq_some_iff.mp h)
    obtain ⟨h1, h2⟩ := hi
    rw [← h2, List.getElem_cons_drop, List.take_append_drop]
  refine ⟨c.drop j ++ (f.drop (i + 1)).flatten, ?_⟩
  unfold seen
  conv => lhs; rw [e]
  rw [List.flatten_append, List.flatten_cons, List.append_assoc, ← List.append_assoc (c.take j), List.take_append_drop]
theorem seen_new {f : List (List Int)} {i j : Nat} {c : List Int} {x : Int} (nd : f.flatten.Nodup) (h : f[i]? = some c) (hx : c[j]? = some x) : x ∉ seen f i c j := by
  obtain ⟨r, e⟩ := seen_pre (j := j + 1) h
  rw [seen_step hx] at e
  rw [e] at nd
  obtain ⟨n1, _, _⟩ := List.nodup_append.mp nd
  obtain ⟨_, _, n2⟩ := List.nodup_append.mp n1
  exact fun z => n2 x z x List.mem_cons_self rfl
theorem seen_len {n : Nat} {f : List (List Int)} {i j : Nat} {c : List Int} (v : Valid n f) (h : f[i]? = some c) : (seen f i c j).length ≤ n := by
  obtain ⟨r, e⟩ := seen_pre (j := j) h
  have := v.len
  rw [e, List.length_append] at this
  omega
/-- the set of those met -/
def MetO (w : World) (m : Addr) (l : List Int) : HO := SetO w m (fun k => decide (k ∈ l)) l.length
theorem met_new (w : World) (m : Addr) : SetO w m (fun _ => false) 0 = MetO w m [] := by
  unfold MetO
  congr 1
  all_goals (funext k; simp)
theorem met_add (w : World) (m : Addr) (l : List Int) (x : Int) (h : x ∉ l) : SetO w m (fun j => decide (j ∈ l) || decide (j = x)) (if decide (x ∈ l) = true then l.length else l.length + 1) = MetO w m (l ++ [x]) := by
  unfold MetO
  rw [if_neg (by simpa using h), List.length_append]
  congr 1
  all_goals (funext k; simp)
def SetAt (H0 H : Hp) (w : World) (m : Addr) (l : List Int) : Prop := Same H0 H ∧ H0 m = none ∧ H m = some (MetO w m l)
theorem ok_fault {f f2 : Addr} {fd fd2 : FuncData} (F : Fun K "fault_of_family" "fault_of_family" sFault f fd) (N : Nb mg) (G : FnOk P w K mg base CX0 2 f2 fd2 ["thing", "least", "most"] spWithin) (b2 : Binds K fd2 ["thing", "least", "most"] [])
    (m2 : mg "is_whole_within" = some (.ref f2)) (k2 : PySem.W.keepIn K (.ref f2) = true) : FnOk P w K mg base CX0 3 f fd ["places", "family"] spFault := by
  refine F.ok scFault (fun vs H Q E h => ?_) (fun cdv A outer s H vs Q E hr h => ?_)
  · obtain ⟨n, a, fm, rfl, _⟩ := h
    rfl
  · obtain ⟨n, a, fm, rfl, ⟨as, hf, hp⟩, v, hn, k⟩ := h
    refine ⟨_, pss_cons (ps_if (pt_not (pt_val (pe_callB call_isi (by rfl) N.isi (by decide +kernel) (pa_cons (pv 1) (pa_cons (pe_bltn (v := .ty "list") (by rfl) N.list (by decide +kernel) rfl) pa_nil))))) (pss_one ps_never) pss_nil)
      (pss_cons (ps_set (i := 2) scFault.nd rfl (.inl rfl) (pe_callTy0 cr_set0 (by rfl) N.set (by decide +kernel)))
      (pss_cons (ps_for PassesOwn.never rfl (pi_enum (by rfl) N.enum (pa_cons (pv 1) pa_nil)) (pg_tup rfl (pgs_cons (pg_name (i := 3) scFault.nd rfl (.inl rfl)) (pgs_cons (pg_name (i := 4) scFault.nd rfl (.inl rfl)) pgs_nil)))
        (pss_cons (ps_if (pt_not (pt_val (pe_callB call_isi (by rfl) N.isi (by decide +kernel) (pa_cons (pv 4) (pa_cons (pe_bltn (v := .ty "list") (by rfl) N.list (by decide +kernel) rfl) pa_nil))))) (pss_one ps_never) pss_nil)
        (pss_one (ps_for PassesOwn.never rfl (pi_enum (by rfl) N.enum (pa_cons (pv 4) pa_nil)) (pg_tup rfl (pgs_cons (pg_name (i := 5) scFault.nd rfl (.inl rfl)) (pgs_cons (pg_name (i := 6) scFault.nd rfl (.inl rfl)) pgs_nil)))
          (pss_cons (ps_if (PW.pt (pw_or (pt_not (pt_val (pe_call G hr (by rfl) m2 k2 b2 .nil pass0 (pa_cons (pv 6) (pa_cons pe_int (pa_cons (pv 0) pa_nil)))))) (pw_or1 (pt_cmpR or_sin (pv 6) (pv 2) (by rfl))))) (pss_one ps_never) pss_nil)
          (pss_one (ps_expr (pe_sadd (pv 2) (pa_cons (pv 6) pa_nil)))))))))
      (pss_one (ps_ret pe_non)))), ?_⟩
    refine ⟨_, rfl, _, _, _, _, _, rfl, .ty "list", .base (.lst hf), kit_ty (by decide +kernel), true, rfl, iteF ?_⟩
    refine ⟨rfl, fun m hm => ?_⟩
    refine ⟨_, rfl, a, _, rfl, SqL.of ((upd_ne (ne_of_none hf hm)).trans hf), for_it walk_enum (fun i σ H' => (∃ x y z u, σ = [some (.int n), some (.ref a), some (.ref m), x, y, z, u]) ∧ SetAt H H' w m (fm.take i).flatten) ⟨⟨_, _, _, _, rfl⟩, same_upd hm, hm, ?_⟩ (fun i σ H' _ q => SqL.of (q.2.1 _ _ hf)) ?_ (fun σ H' q => k _ q.2.1)⟩
    · rw [upd_same, met_new]
      rfl
    rintro i v1 σ H1 H2 hi ⟨⟨x, y, z, u, rfl⟩, sm, hm0, hm1⟩ ⟨T, t1, t2, rfl, hT, rfl, e1, e2⟩
    obtain ⟨ca, hca, rfl⟩ := map_get e2
    obtain ⟨c, hc, hL⟩ := pget hp hca
    have s2 : Same H (upd H1 T (.tup [t1, V.ref ca])) := sm.trans (same_upd hT)
    have hL2 := hL.same s2
    have nmT : m ≠ T := ne_of_none hm1 hT
    refine ⟨T, _, rfl, SqT.of upd_same, rfl, _, _, rfl, _, _, rfl, rfl, ?_⟩
    refine ⟨_, rfl, _, _, _, _, _, rfl, .ty "list", .base (.lst hL2), kit_ty (by decide +kernel), true, rfl, iteF ?_⟩
    refine ⟨_, rfl, ca, _, rfl, SqL.of hL2, for_it walk_enum (fun j σ H' => (∃ x y z, σ = [some (.int n), some (.ref a), some (.ref m), x, some (.ref ca), y, z]) ∧ SetAt H H' w m (seen fm i c j)) ⟨⟨_, _, _, rfl⟩, s2, hm0, ?_⟩ (fun j σ H' _ q => SqL.of (hL.same q.2.1)) ?_ ?_⟩
    · rw [upd_ne nmT, hm1]
      unfold seen
      simp
    · rintro j v2 σ H3 H4 hj ⟨⟨x, y, z, rfl⟩, sm3, _, hm3⟩ ⟨T2, t3, t4, rfl, hT2, rfl, e3, e4⟩
      obtain ⟨p, hpj, rfl⟩ := map_get e4
      have nmT2 : m ≠ T2 := ne_of_none hm3 hT2
      obtain ⟨r1, r2⟩ := v.rg p (flatten_mem (List.mem_of_getElem? hc) (List.mem_of_getElem? hpj))
      have new := seen_new v.nd hc hpj
      have hm4 : upd H3 T2 (.tup [t3, V.int p]) m = some (MetO w m (seen fm i c j)) := (upd_ne nmT2).trans hm3
      refine ⟨T2, _, rfl, SqT.of upd_same, rfl, _, _, rfl, _, _, rfl, rfl, ?_⟩
      refine ⟨_, rfl, _, rfl, p, 1, n, rfl, ?_⟩
      have d1 : (decide (1 ≤ p) && decide (p ≤ (n : Int))) = true := by simp [r1, r2]
      rw [d1]
      refine ⟨true, rfl, iteF ?_⟩
      refine ⟨_, rfl, _, rfl, p, m, _, _, rfl, rfl, hm4, _, rfl, ?_⟩
      have d2 : decide (p ∈ seen fm i c j) = false := decide_eq_false new
      rw [d2]
      refine iteF ?_
      refine ⟨_, rfl, ⟨m, _, _, rfl, hm4⟩, _, rfl, m, p, _, _, rfl, rfl, hm4, ?_, ?_⟩
      · have := seen_len (j := j) v hc
        show _ + 1 < 4096
        omega
      · have fin : SetAt H (upd (upd H3 T2 (.tup [t3, V.int p])) m (SetO w m (fun i' => decide (i' ∈ seen fm i c j) || decide (i' = p)) (if decide (p ∈ seen fm i c j) = true then (seen fm i c j).length else (seen fm i c j).length + 1))) w m (seen fm i c (j + 1)) := by
          rw [met_add w m _ p new, ← seen_step hpj]
          refine ⟨fun b o e => ?_, hm0, upd_same⟩
          have nbm : b ≠ m := fun q => by rw [q, hm0] at e; cases e
          rw [upd_ne nbm]
          exact (sm3.trans (same_upd hT2)) b o e
        exact ⟨⟨_, _, _, rfl⟩, fin⟩
    · rintro σ H' ⟨⟨x, y, z, rfl⟩, q⟩
      rw [List.length_map, seen_next hc] at q
      exact ⟨⟨_, _, _, _, rfl⟩, q⟩
end
end K22

namespace K22
open PySem L2 Kt PyProof.Rows
section
variable {P : Program} {w : World} {K : PySem.W.Frag} {mg : Str → Option Value} {base : Heap}
/-! ### check_family, check_row -/
theorem scChFam : FnScope ["places", "family", "fault", "chain", "index"] ["places", "family"] (defScope sChFam) := ⟨rfl, rfl, rfl, by decide +kernel, rfl, by decide +kernel, by decide +kernel⟩
theorem ok_chFam {f f3 : Addr} {fd fd3 : FuncData} (F : Fun K "check_family" "check_family" sChFam f fd) (G : FnOk P w K mg base CX0 3 f3 fd3 ["places", "family"] spFault) (b3 : Binds K fd3 ["places", "family"] [])
    (m3 : mg "fault_of_family" = some (.ref f3)) (k3 : PySem.W.keepIn K (.ref f3) = true) : FnOk P w K mg base CX0 4 f fd ["places", "family"] spFault := by
  refine F.ok scChFam (fun vs H Q E h => ?_) (fun cdv A outer s H vs Q E hr h => ?_)
  · obtain ⟨n, a, fm, rfl, _⟩ := h
    rfl
  · obtain ⟨n, a, fm, rfl, hf, v, hn, k⟩ := h
    refine ⟨_, pss_cons (ps_set (i := 2) scChFam.nd rfl (.inl rfl) (pe_call G hr (by rfl) m3 k3 b3 .nil pass0 (pa_cons (pv 0) (pa_cons (pv 1) pa_nil))))
      (pss_one (ps_if (pt_cmpR op_notN (pv 2) pe_non (nomark _)) (pss_cons ps_never (pss_one ps_never)) pss_nil)), ?_⟩
    refine ⟨_, rfl, _, rfl, n, a, fm, rfl, hf, v, hn, fun H1 s1 => ?_⟩
    refine ⟨_, rfl, rfl, _, rfl, ?_⟩
    exact iteF (k _ s1)
def spChRow : Sp := fun vs H Q _ => ∃ (n : Nat) (a : Addr) (r : List (List (List Int))), vs = [.int n, .ref a] ∧ RowA H a r ∧ (∀ f ∈ r, Valid n f) ∧ n ≤ 40 ∧ ∀ H', Same H H' → Q .non H'
theorem scChRow : FnScope ["places", "row", "at", "family", "fault", "chain", "index"] ["places", "row"] (defScope sChRow) := ⟨rfl, rfl, rfl, by decide +kernel, rfl, by decide +kernel, by decide +kernel⟩
theorem ok_chRow {f f3 : Addr} {fd fd3 : FuncData} (F : Fun K "check_row" "check_row" sChRow f fd) (N : Nb mg) (G : FnOk P w K mg base CX0 3 f3 fd3 ["places", "family"] spFault) (b3 : Binds K fd3 ["places", "family"] [])
    (m3 : mg "fault_of_family" = some (.ref f3)) (k3 : PySem.W.keepIn K (.ref f3) = true) : FnOk P w K mg base CX0 4 f fd ["places", "row"] spChRow := by
  refine F.ok scChRow (fun vs H Q E h => ?_) (fun cdv A outer s H vs Q E hr h => ?_)
  · obtain ⟨n, a, fm, rfl, _⟩ := h
    rfl
  · obtain ⟨n, a, r, rfl, ⟨as, ha, hp⟩, v, hn, k⟩ := h
    refine ⟨_, pss_cons (ps_if (pt_not (pt_val (pe_callB call_isi (by rfl) N.isi (by decide +kernel) (pa_cons (pv 1) (pa_cons (pe_bltn (v := .ty "list") (by rfl) N.list (by decide +kernel) rfl) pa_nil))))) (pss_one ps_never) pss_nil)
      (pss_one (ps_for PassesOwn.never rfl (pi_enum (by rfl) N.enum (pa_cons (pv 1) pa_nil)) (pg_tup rfl (pgs_cons (pg_name (i := 2) scChRow.nd rfl (.inl rfl)) (pgs_cons (pg_name (i := 3) scChRow.nd rfl (.inl rfl)) pgs_nil)))
        (pss_cons (ps_set (i := 4) scChRow.nd rfl (.inl rfl) (pe_call G hr (by rfl) m3 k3 b3 .nil pass0 (pa_cons (pv 0) (pa_cons (pv 3) pa_nil))))
        (pss_one (ps_if (pt_cmpR op_notN (pv 4) pe_non (nomark _)) (pss_cons ps_never (pss_one ps_never)) pss_nil))))), ?_⟩
    refine ⟨_, rfl, _, _, _, _, _, rfl, .ty "list", .base (.lst ha), kit_ty (by decide +kernel), true, rfl, iteF ?_⟩
    refine ⟨_, rfl, a, _, rfl, SqL.of ha, for_it walk_enum (fun i σ H' => (∃ x y z u t, σ = [some (.int n), some (.ref a), x, y, z, u, t]) ∧ Same H H') ⟨⟨_, _, _, _, _, rfl⟩, Same.refl H⟩ (fun i σ H' _ q => SqL.of (q.2 _ _ ha)) ?_ (fun σ H' q => k _ q.2)⟩
    rintro i v1 σ H1 H2 hi ⟨⟨x, y, z, u, t, rfl⟩, sm⟩ ⟨T, t1, t2, rfl, hT, rfl, e1, e2⟩
    obtain ⟨fa, hfa, rfl⟩ := map_get e2
    obtain ⟨c, hc, hF⟩ := pget hp hfa
    have s2 : Same H (upd H1 T (.tup [t1, V.ref fa])) := sm.trans (same_upd hT)
    refine ⟨T, _, rfl, SqT.of upd_same, rfl, _, _, rfl, _, _, rfl, rfl, ?_⟩
    refine ⟨_, rfl, _, rfl, n, fa, c, rfl, hF.same s2, v c (List.mem_of_getElem? hc), hn, fun H3 s3 => ?_⟩
    refine ⟨_, rfl, rfl, _, rfl, ?_⟩
    exact iteF ⟨⟨_, _, _, _, _, rfl⟩, s2.trans s3⟩
/-! ### sorted_along, ascends_along -/
def spAlong : Sp := fun vs H Q _ => ∃ (a b : Addr) (xs : List Int) (fm : List (List Int)), vs = [.ref a, .ref b] ∧ LI H a xs ∧ Fam H b fm ∧ Valid xs.length fm ∧ xs.length ≤ 40 ∧
  ∀ H' p, Same H H' → H p = none → LI H' p (sortAlong xs fm) → Q (.ref p) H'
theorem scAlong : FnScope ["filling", "family", "result", "chain", "place", "values", "value"] ["filling", "family"] (defScope sAlong) := ⟨rfl, rfl, rfl, by decide +kernel, rfl, by decide +kernel, by decide +kernel⟩
theorem ok_along {f : Addr} {fd : FuncData} (F : Fun K "sorted_along" "sorted_along" sAlong f fd) (N : Nb mg) : FnOk P w K mg base CX0 1 f fd ["filling", "family"] spAlong := by
  refine F.ok scAlong (fun vs H Q E h => ?_) (fun cdv A outer s H vs Q E hr h => ?_)
  · obtain ⟨a, b, xs, fm, rfl, _⟩ := h
    rfl
  · obtain ⟨a, b, xs, fm, rfl, hx, ⟨as, hb, hp⟩, v, hn, k⟩ := h
    refine ⟨_, pss_cons (ps_set (i := 2) scAlong.nd rfl (.inl rfl) (pe_callTy call_list_of (by rfl) N.list (by decide +kernel) (pa_cons (pv 0) pa_nil)))
      (pss_cons (ps_for PassesOwn.never rfl (pi_list (pv 1)) (pg_name (i := 3) scAlong.nd rfl (.inl rfl))
        (pss_cons (ps_set (i := 5) scAlong.nd rfl (.inl rfl) (pe_callB cr_sortedI (by rfl) N.sorted (by decide +kernel) (pa_cons
          (pe_lc (own := [("place", 4)]) (g := gName 4) (tt := tYes) rfl scAlong.nd (pi_list (pv 3)) (blkOk_by (N := ["filling", "family", "result", "chain", "place", "values", "value"]) (sc := defScope sAlong) (by decide +kernel))
            (fun _ _ _ _ _ => pg_name (i := 4) scAlong.nd rfl (Or.inl rfl)) (fun _ _ _ _ _ => pts_nil) (fun _ _ _ _ _ => pe_ix (show IxR _ (rIxL K) from ix_list) (pv 0) (pe_op op_sub (pv 4) pe_int) (fun _ _ => rfl))) pa_nil)))
        (pss_one (ps_for PassesOwn.never rfl (pi_zip (by rfl) N.zip (pa_cons (pv 3) (pa_cons (pv 5) pa_nil))) (pg_tup rfl (pgs_cons (pg_name (i := 4) scAlong.nd rfl (.inl rfl)) (pgs_cons (pg_name (i := 6) scAlong.nd rfl (.inl rfl)) pgs_nil)))
          (pss_one (ps_asg (pv 6) (pg_sub (pv 2) (pe_op op_sub (pv 4) pe_int) set_list)))))))
      (pss_one (ps_ret (pv 2)))), ?_⟩
    refine ⟨_, rfl, a, _, rfl, .inl (SqL.of hx), fun r hr0 => ?_⟩
    refine ⟨_, rfl, b, rfl, ⟨_, SqL.of ((upd_ne (ne_of_none hb hr0)).trans hb)⟩, for_it walk_list (fun i σ H' => (∃ x y z u, σ = [some (.ref a), some (.ref b), some (.ref r), x, y, z, u]) ∧ RAt H H' r ((fm.take i).foldl (along1 xs) xs))
      ⟨⟨_, _, _, _, rfl⟩, same_upd hr0, hr0, upd_same⟩ (fun i σ H' _ q => SqL.of (q.2.1 _ _ hb)) ?_ ?_⟩
    · rintro i v1 σ H1 H2 hi ⟨⟨x, y, z, u, rfl⟩, sm, _, hR⟩ ⟨rfl, e2⟩
      obtain ⟨ca, hca, rfl⟩ := map_get e2
      obtain ⟨c, hc, hL⟩ := pget hp hca
      have vc := valid_chain v hc
      have hL1 := hL.same sm
      have hx1 := hx.same sm
      -- the comprehension
      refine ⟨_, rfl, ca, rfl, ⟨_, SqL.of hL1⟩, fun D hD => lc_it (walk_list (xs := c.map V.int)) (fun j H' => H' = upd H2 D (.lst (((c.take j).map (at1 xs)).map V.int))) rfl (fun j H' _ q => ?_) ?_ ?_⟩
      · rw [q]
        exact SqL.of ((upd_ne (ne_of_none hL1 hD)).trans hL1)
      · rintro j y H4 H5 hj rfl ⟨rfl, ej⟩
        obtain ⟨p, hpj, rfl⟩ := map_get ej
        obtain ⟨p1, p2⟩ := vc p (List.mem_of_getElem? hpj)
        refine ⟨rfl, tyes ?_⟩
        refine ⟨_, rfl, _, rfl, _, _, rfl, rfl, a, _, _, _, rfl, rfl, SqL.of ((upd_ne (ne_of_none hx1 hD)).trans hx1), atI_of (by omega) (get_map (at1_get p1 p2)), _, upd_same, ?_, ?_⟩
        · rw [List.length_map, List.length_map]
          have := List.length_take_le j c
          have hl := v.len
          have h2 : (c.take j).length ≤ 40 := by
            have h3 : c.length ≤ fm.flatten.length := by
              obtain ⟨rr, er⟩ := seen_pre (j := c.length) hc
              rw [er]
              unfold seen
              rw [List.length_append, List.length_append, List.length_take]
              omega
            rw [List.length_take]
            omega
          rw [sizeLine_eq]
          omega
        · rw [upd_upd, List.take_add_one, hpj, Option.toList_some, List.map_append, List.map_append]
          rfl
      · rintro H' rfl
        refine ⟨D, c.map (at1 xs), rfl, SqL.of ?_, fun ns va perm up hva => ?_⟩
        · rw [upd_same, List.length_map, List.take_length]
        · have hns : ns = srt (c.map (at1 xs)) := srt_of perm up
          rw [List.length_map, List.take_length] at hva ⊢
          have hrD : H2 r ≠ none := by rw [hR]; exact fun z => nomatch z
          have nrD : r ≠ D := ne_of_none hR hD
          have hR4 : LI (upd H2 D (.lst ((c.map (at1 xs)).map V.int))) r ((fm.take i).foldl (along1 xs) xs) := (upd_ne nrD).trans hR
          have nrv : r ≠ va := ne_of_none hR4 hva
          generalize hH4 : upd (upd H2 D (.lst ((c.map (at1 xs)).map V.int))) va (.lst (ns.map V.int)) = H4
          have s4 : Same H2 H4 := by rw [← hH4]; exact (same_upd hD).trans (same_upd hva)
          have hv4 : LI H4 va ns := by rw [← hH4]; exact upd_same
          have hL4 := hL1.same s4
          have hR5 : LI H4 r ((fm.take i).foldl (along1 xs) xs) := hR.same s4
          have len : ns.length = c.length := by rw [hns, srt_len, List.length_map]
          refine ⟨_, rfl, _, rfl, ca, va, _, _, rfl, SqL.of hL4, SqL.of hv4, for_it (walk_zip (n := c.length) (by rw [List.length_map, List.length_map]; omega))
            (fun j σ H' => (∃ y z, σ = [some (.ref a), some (.ref b), some (.ref r), some (.ref ca), y, some (.ref va), z]) ∧ But r H4 H' ∧ LI H' r (put ((fm.take i).foldl (along1 xs) xs) (c.take j) (ns.take j))) ⟨⟨_, _, rfl⟩, But.refl _ _, hR5⟩
            (fun j σ H' _ q => ⟨SqL.of (q.2.1 _ _ (ne_of_none (hL.same (Same.refl H)) ‹H r = none›) hL4), SqL.of (q.2.1 _ _ (Ne.symm nrv) hv4)⟩) ?_ ?_⟩
          · rintro j v2 σ H5 H6 hj ⟨⟨y, z, rfl⟩, b5, hR6⟩ ⟨T, t1, t2, rfl, hT, rfl, e3, e4⟩
            obtain ⟨p, hpj, rfl⟩ := map_get e3
            obtain ⟨q, hqj, rfl⟩ := map_get e4
            obtain ⟨p1, p2⟩ := vc p (List.mem_of_getElem? hpj)
            have nrT : r ≠ T := ne_of_none hR6 hT
            refine ⟨T, _, rfl, SqT.of upd_same, rfl, _, _, rfl, _, _, rfl, rfl, ?_⟩
            refine ⟨_, rfl, _, rfl, _, rfl, _, _, rfl, rfl, r, _, _, (p - 1).toNat, rfl, rfl, (upd_ne nrT).trans hR6, ixN_of (by omega) ?_, ?_⟩
            · rw [List.length_map, put_len, fold_along_len]
              omega
            · refine ⟨⟨_, _, rfl⟩, fun bb o hb' e => ?_, ?_⟩
              · rw [upd_ne hb']
                exact (same_upd hT) _ _ (b5 bb o hb' e)
              · rw [put_step hpj hqj]
                exact li_set
          · rintro σ H' ⟨⟨y, z, rfl⟩, b5, hR6⟩
            rw [List.take_length, ← len, List.take_length] at hR6
            refine ⟨⟨_, _, _, _, rfl⟩, same_but (sm.trans s4) ‹H r = none› b5, ‹H r = none›, ?_⟩
            rw [fold_step hc]
            show LI H' r (put _ c (srt _))
            rw [← hns]
            exact hR6
    · rintro σ H' ⟨⟨x, y, z, u, rfl⟩, sm, hr1, hR⟩
      have el : (as.map V.ref).length = fm.length := by rw [List.length_map]; exact hp.length
      rw [el, List.take_length] at hR
      exact ⟨_, rfl, k _ _ sm hr1 hR⟩
end
end K22

namespace K22
open PySem L2 Kt PyProof.Rows
section
variable {P : Program} {w : World} {K : PySem.W.Frag} {mg : Str → Option Value} {base : Heap}
def spAsc : Sp := fun vs H Q _ => ∃ (a b : Addr) (xs : List Int) (fm : List (List Int)), vs = [.ref a, .ref b] ∧ LI H a xs ∧ Fam H b fm ∧ Valid xs.length fm ∧ ∀ H', Same H H' → Q (.bl (isSorted xs fm)) H'
theorem scAsc : FnScope ["filling", "family", "chain", "place", "following"] ["filling", "family"] (defScope sAsc) := ⟨rfl, rfl, rfl, by decide +kernel, rfl, by decide +kernel, by decide +kernel⟩
theorem ok_asc {f : Addr} {fd : FuncData} (F : Fun K "ascends_along" "ascends_along" sAsc f fd) (N : Nb mg) : FnOk P w K mg base CX0 1 f fd ["filling", "family"] spAsc := by
  refine F.ok scAsc (fun vs H Q E h => ?_) (fun cdv A outer s H vs Q E hr h => ?_)
  · obtain ⟨a, b, xs, fm, rfl, _⟩ := h
    rfl
  · obtain ⟨a, b, xs, fm, rfl, hx, ⟨as, hb, hp⟩, v, k⟩ := h
    refine ⟨_, pss_cons (ps_for PassesOwn.never rfl (pi_list (pv 1)) (pg_name (i := 2) scAsc.nd rfl (.inl rfl))
        (pss_one (ps_for PassesOwn.never rfl (pi_zip (by rfl) N.zip (pa_cons (pv 2) (pa_cons (pe_slice sl_list (pv 2) (po_some pe_int) po_none) pa_nil))) (pg_tup rfl (pgs_cons (pg_name (i := 3) scAsc.nd rfl (.inl rfl)) (pgs_cons (pg_name (i := 4) scAsc.nd rfl (.inl rfl)) pgs_nil)))
          (pss_one (ps_if (pt_cmpR op_gt (pe_ix ix_list (pv 0) (pe_op op_sub (pv 3) pe_int) (fun _ _ => rfl)) (pe_ix ix_list (pv 0) (pe_op op_sub (pv 4) pe_int) (fun _ _ => rfl)) (nomark _)) (pss_one (ps_ret pe_bl)) pss_nil)))))
      (pss_one (ps_ret pe_bl)), ?_⟩
    refine ⟨_, rfl, b, rfl, ⟨_, SqL.of hb⟩, for_it walk_list (fun i σ H' => (∃ x y z, σ = [some (.ref a), some (.ref b), x, y, z]) ∧ Same H H' ∧ (fm.take i).all (ascends xs) = true)
      ⟨⟨_, _, _, rfl⟩, Same.refl H, rfl⟩ (fun i σ H' _ q => SqL.of (q.2.1 _ _ hb)) ?_ ?_⟩
    · rintro i v1 σ H1 H2 hi ⟨⟨x, y, z, rfl⟩, sm, al⟩ ⟨rfl, e2⟩
      obtain ⟨ca, hca, rfl⟩ := map_get e2
      obtain ⟨c, hc, hL⟩ := pget hp hca
      have vc := valid_chain v hc
      have hL1 := hL.same sm
      refine ⟨_, rfl, _, rfl, _, rfl, ca, _, rfl, SqL.of hL1, fun t ht => ?_⟩
      rw [cut_tail]
      have s3 : Same H (upd H2 t (.lst (c.tail.map V.int))) := sm.trans (same_upd ht)
      have hT : LI (upd H2 t (.lst (c.tail.map V.int))) t c.tail := upd_same
      have hL3 := hL.same s3
      refine ⟨ca, t, _, _, rfl, SqL.of hL3, SqL.of hT, for_it (walk_zip rfl) (fun j σ H' => (∃ y z, σ = [some (.ref a), some (.ref b), some (.ref ca), y, z]) ∧ Same H H' ∧ LI H' t c.tail ∧ ((c.zip c.tail).take j).all (fun q => decide (at1 xs q.1 ≤ at1 xs q.2)) = true)
        ⟨⟨_, _, rfl⟩, s3, hT, rfl⟩ (fun j σ H' _ q => ⟨SqL.of (hL.same q.2.1), SqL.of q.2.2.1⟩) ?_ ?_⟩
      · rintro j v2 σ H4 H5 hj ⟨⟨y, z, rfl⟩, s4, hT4, al2⟩ ⟨T, t1, t2, rfl, hTn, rfl, e3, e4⟩
        obtain ⟨p, hpj, rfl⟩ := map_get e3
        obtain ⟨q, hqj, rfl⟩ := map_get e4
        obtain ⟨p1, p2⟩ := vc p (List.mem_of_getElem? hpj)
        obtain ⟨q1, q2⟩ := vc q (tail_mem hqj)
        have s5 : Same H (upd H4 T (.tup [V.int p, V.int q])) := s4.trans (same_upd hTn)
        have hx5 := hx.same s5
        have hpq := pair_at hpj hqj
        refine ⟨T, _, rfl, SqT.of upd_same, rfl, _, _, rfl, _, _, rfl, rfl, ?_⟩
        refine ⟨_, rfl, _, rfl, _, _, rfl, rfl, a, _, _, _, rfl, rfl, SqL.of hx5, atI_of (by omega) (get_map (at1_get p1 p2)), ?_⟩
        refine ⟨_, rfl, _, rfl, _, _, rfl, rfl, a, _, _, _, rfl, rfl, SqL.of hx5, atI_of (by omega) (get_map (at1_get q1 q2)), ?_⟩
        refine ⟨_, _, rfl, rfl, _, rfl, ?_⟩
        refine ite2 (fun bad => ?_) (fun ok => ?_)
        · have e : isSorted xs fm = false := by
            refine all_false (List.mem_of_getElem? hc) (all_false (List.mem_of_getElem? hpq) ?_)
            have := of_decide_eq_true bad
            exact decide_eq_false (by show ¬ (at1 xs p ≤ at1 xs q); omega)
          have kk := k _ s5
          rw [e] at kk
          exact kk
        · refine ⟨⟨_, _, rfl⟩, s5, hT4.same (same_upd hTn), ?_⟩
          rw [all_step hpq, al2, Bool.true_and]
          have : ¬ (at1 xs q < at1 xs p) := fun z => ok (decide_eq_true z)
          exact decide_eq_true (by show at1 xs p ≤ at1 xs q; omega)
      · rintro σ H' ⟨⟨y, z, rfl⟩, s4, hT4, al2⟩
        refine ⟨⟨_, _, _, rfl⟩, s4, ?_⟩
        rw [all_step hc, al, Bool.true_and]
        have e : (c.zip c.tail).take (min (c.map V.int).length (c.tail.map V.int).length) = c.zip c.tail := by
          rw [List.length_map, List.length_map]
          exact List.take_of_length_le (by rw [List.length_zip]; omega)
        rw [e] at al2
        exact al2
    · rintro σ H' ⟨⟨x, y, z, rfl⟩, sm, al⟩
      have el : (as.map V.ref).length = fm.length := by rw [List.length_map]; exact hp.length
      rw [el, List.take_length] at al
      have e : isSorted xs fm = true := al
      have kk := k _ sm
      rw [e] at kk
      exact kk
/-! ### sort_by, is_sorted_by, after_row -/
def spSortBy : Sp := fun vs H Q _ => ∃ (a b : Addr) (xs : List Int) (fm : List (List Int)), vs = [.ref a, .ref b] ∧ LI H a xs ∧ Fam H b fm ∧ Valid xs.length fm ∧ 1 ≤ xs.length ∧ xs.length ≤ 40 ∧
  ∀ H' p, Same H H' → H p = none → LI H' p (sortAlong xs fm) → Q (.ref p) H'
def spIsBy : Sp := fun vs H Q _ => ∃ (a b : Addr) (xs : List Int) (fm : List (List Int)), vs = [.ref a, .ref b] ∧ LI H a xs ∧ Fam H b fm ∧ Valid xs.length fm ∧ 1 ≤ xs.length ∧ xs.length ≤ 40 ∧
  ∀ H', Same H H' → Q (.bl (isSorted xs fm)) H'
def spAfter : Sp := fun vs H Q _ => ∃ (a b : Addr) (xs : List Int) (r : List (List (List Int))), vs = [.ref a, .ref b] ∧ LI H a xs ∧ RowA H b r ∧ (∀ f ∈ r, Valid xs.length f) ∧ 1 ≤ xs.length ∧ xs.length ≤ 40 ∧
  ∀ H' p, Same H H' → H p = none → LI H' p (afterRow xs r) → Q (.ref p) H'
theorem scSortBy : FnScope ["filling", "family"] ["filling", "family"] (defScope sSortBy) := ⟨rfl, rfl, rfl, by decide +kernel, rfl, by decide +kernel, by decide +kernel⟩
theorem scIsBy : FnScope ["filling", "family"] ["filling", "family"] (defScope sIsBy) := ⟨rfl, rfl, rfl, by decide +kernel, rfl, by decide +kernel, by decide +kernel⟩
theorem scAfter : FnScope ["filling", "row", "result", "family"] ["filling", "row"] (defScope sAfterRow) := ⟨rfl, rfl, rfl, by decide +kernel, rfl, by decide +kernel, by decide +kernel⟩
variable {f c1 c2 c3 c4 c5 : Addr} {fd d1 d2 d3 d4 d5 : FuncData}
theorem ok_sortBy (F : Fun K "sort_by" "sort_by" sSortBy f fd) (N : Nb mg) (G1 : FnOk P w K mg base CX0 2 c1 d1 ["filling"] spChFill) (b1 : Binds K d1 ["filling"] []) (m1 : mg "check_filling" = some (.ref c1)) (k1 : PySem.W.keepIn K (.ref c1) = true)
    (G2 : FnOk P w K mg base CX0 4 c2 d2 ["places", "family"] spFault) (b2 : Binds K d2 ["places", "family"] []) (m2 : mg "check_family" = some (.ref c2)) (k2 : PySem.W.keepIn K (.ref c2) = true)
    (G3 : FnOk P w K mg base CX0 1 c3 d3 ["filling", "family"] spAlong) (b3 : Binds K d3 ["filling", "family"] []) (m3 : mg "sorted_along" = some (.ref c3)) (k3 : PySem.W.keepIn K (.ref c3) = true) :
    FnOk P w K mg base CX0 5 f fd ["filling", "family"] spSortBy := by
  refine F.ok scSortBy (fun vs H Q E h => ?_) (fun cdv A outer s H vs Q E hr h => ?_)
  · obtain ⟨a, b, xs, fm, rfl, _⟩ := h
    rfl
  · obtain ⟨a, b, xs, fm, rfl, hx, hf, v, h1, h40, k⟩ := h
    refine ⟨_, pss_cons (ps_expr (pe_call G1 (hr.mono (by decide)) (by rfl) m1 k1 b1 .nil pass0 (pa_cons (pv 0) pa_nil)))
      (pss_cons (ps_expr (pe_call G2 hr (by rfl) m2 k2 b2 .nil pass0 (pa_cons (pe_callB call_len_seq (by rfl) N.len PySem.boot_len (pa_cons (pv 0) pa_nil)) (pa_cons (pv 1) pa_nil))))
      (pss_one (ps_ret (pe_call G3 (hr.mono (by decide)) (by rfl) m3 k3 b3 .nil pass0 (pa_cons (pv 0) (pa_cons (pv 1) pa_nil)))))), ?_⟩
    refine ⟨_, rfl, a, xs, rfl, hx, h1, h40, fun H1 s1 => ?_⟩
    refine ⟨_, rfl, a, _, rfl, .inl (SqL.of (hx.same s1)), _, rfl, ?_⟩
    rw [li_len]
    refine ⟨xs.length, b, fm, rfl, hf.same s1, v, h40, fun H2 s2 => ?_⟩
    have s12 := s1.trans s2
    refine ⟨_, rfl, _, rfl, a, b, xs, fm, rfl, hx.same s12, hf.same s12, v, h40, fun H3 p s3 hp hL => ?_⟩
    exact k H3 p (s12.trans s3) (s12.free hp) hL
theorem ok_isBy (F : Fun K "is_sorted_by" "is_sorted_by" sIsBy f fd) (N : Nb mg) (G1 : FnOk P w K mg base CX0 2 c1 d1 ["filling"] spChFill) (b1 : Binds K d1 ["filling"] []) (m1 : mg "check_filling" = some (.ref c1)) (k1 : PySem.W.keepIn K (.ref c1) = true)
    (G2 : FnOk P w K mg base CX0 4 c2 d2 ["places", "family"] spFault) (b2 : Binds K d2 ["places", "family"] []) (m2 : mg "check_family" = some (.ref c2)) (k2 : PySem.W.keepIn K (.ref c2) = true)
    (G3 : FnOk P w K mg base CX0 1 c3 d3 ["filling", "family"] spAsc) (b3 : Binds K d3 ["filling", "family"] []) (m3 : mg "ascends_along" = some (.ref c3)) (k3 : PySem.W.keepIn K (.ref c3) = true) :
    FnOk P w K mg base CX0 5 f fd ["filling", "family"] spIsBy := by
  refine F.ok scIsBy (fun vs H Q E h => ?_) (fun cdv A outer s H vs Q E hr h => ?_)
  · obtain ⟨a, b, xs, fm, rfl, _⟩ := h
    rfl
  · obtain ⟨a, b, xs, fm, rfl, hx, hf, v, h1, h40, k⟩ := h
    refine ⟨_, pss_cons (ps_expr (pe_call G1 (hr.mono (by decide)) (by rfl) m1 k1 b1 .nil pass0 (pa_cons (pv 0) pa_nil)))
      (pss_cons (ps_expr (pe_call G2 hr (by rfl) m2 k2 b2 .nil pass0 (pa_cons (pe_callB call_len_seq (by rfl) N.len PySem.boot_len (pa_cons (pv 0) pa_nil)) (pa_cons (pv 1) pa_nil))))
      (pss_one (ps_ret (pe_call G3 (hr.mono (by decide)) (by rfl) m3 k3 b3 .nil pass0 (pa_cons (pv 0) (pa_cons (pv 1) pa_nil)))))), ?_⟩
    refine ⟨_, rfl, a, xs, rfl, hx, h1, h40, fun H1 s1 => ?_⟩
    refine ⟨_, rfl, a, _, rfl, .inl (SqL.of (hx.same s1)), _, rfl, ?_⟩
    rw [li_len]
    refine ⟨xs.length, b, fm, rfl, hf.same s1, v, h40, fun H2 s2 => ?_⟩
    have s12 := s1.trans s2
    exact ⟨_, rfl, _, rfl, a, b, xs, fm, rfl, hx.same s12, hf.same s12, v, fun H3 s3 => k H3 (s12.trans s3)⟩
theorem ok_after (F : Fun K "after_row" "after_row" sAfterRow f fd) (N : Nb mg) (G1 : FnOk P w K mg base CX0 2 c1 d1 ["filling"] spChFill) (b1 : Binds K d1 ["filling"] []) (m1 : mg "check_filling" = some (.ref c1)) (k1 : PySem.W.keepIn K (.ref c1) = true)
    (G2 : FnOk P w K mg base CX0 4 c2 d2 ["places", "row"] spChRow) (b2 : Binds K d2 ["places", "row"] []) (m2 : mg "check_row" = some (.ref c2)) (k2 : PySem.W.keepIn K (.ref c2) = true)
    (G3 : FnOk P w K mg base CX0 1 c3 d3 ["filling", "family"] spAlong) (b3 : Binds K d3 ["filling", "family"] []) (m3 : mg "sorted_along" = some (.ref c3)) (k3 : PySem.W.keepIn K (.ref c3) = true) :
    FnOk P w K mg base CX0 5 f fd ["filling", "row"] spAfter := by
  refine F.ok scAfter (fun vs H Q E h => ?_) (fun cdv A outer s H vs Q E hr h => ?_)
  · obtain ⟨a, b, xs, fm, rfl, _⟩ := h
    rfl
  · obtain ⟨a, b, xs, r, rfl, hx, hf, v, h1, h40, k⟩ := h
    refine ⟨_, pss_cons (ps_expr (pe_call G1 (hr.mono (by decide)) (by rfl) m1 k1 b1 .nil pass0 (pa_cons (pv 0) pa_nil)))
      (pss_cons (ps_expr (pe_call G2 hr (by rfl) m2 k2 b2 .nil pass0 (pa_cons (pe_callB call_len_seq (by rfl) N.len PySem.boot_len (pa_cons (pv 0) pa_nil)) (pa_cons (pv 1) pa_nil))))
      (pss_cons (ps_set (i := 2) scAfter.nd rfl (.inl rfl) (pe_callTy call_list_of (by rfl) N.list (by decide +kernel) (pa_cons (pv 0) pa_nil)))
      (pss_cons (ps_for PassesOwn.never rfl (pi_list (pv 1)) (pg_name (i := 3) scAfter.nd rfl (.inl rfl))
        (pss_one (ps_set (i := 2) scAfter.nd rfl (.inl rfl) (pe_call G3 (hr.mono (by decide)) (by rfl) m3 k3 b3 .nil pass0 (pa_cons (pv 2) (pa_cons (pv 3) pa_nil))))))
      (pss_one (ps_ret (pv 2)))))), ?_⟩
    refine ⟨_, rfl, a, xs, rfl, hx, h1, h40, fun H1 s1 => ?_⟩
    refine ⟨_, rfl, a, _, rfl, .inl (SqL.of (hx.same s1)), _, rfl, ?_⟩
    rw [li_len]
    refine ⟨xs.length, b, r, rfl, hf.same s1, v, h40, fun H2 s2 => ?_⟩
    have s12 := s1.trans s2
    refine ⟨_, rfl, a, _, rfl, .inl (SqL.of (hx.same s12)), fun q hq => ?_⟩
    obtain ⟨as, hb, hp⟩ := id hf
    have s3 := s12.trans (same_upd (o := .lst (xs.map V.int)) hq)
    refine ⟨_, rfl, b, rfl, ⟨_, SqL.of (hb.same s3)⟩, for_it walk_list (fun i σ H' => ∃ q' x, σ = [some (.ref a), some (.ref b), some (.ref q'), x] ∧ RAt H H' q' (afterRow xs (r.take i))) ⟨q, _, rfl, s3, s12.free hq, upd_same⟩
      (fun i σ H' _ ⟨_, _, _, q⟩ => SqL.of (hb.same q.1)) ?_ ?_⟩
    · rintro i v1 σ H4 H5 hi ⟨q', x, rfl, s4, hq0, hL⟩ ⟨rfl, e2⟩
      obtain ⟨fa, hfa, rfl⟩ := map_get e2
      obtain ⟨g, hg, hF⟩ := pget hp hfa
      have el : (afterRow xs (r.take i)).length = xs.length := afterRow_len _ _
      refine ⟨_, rfl, _, rfl, q', fa, _, g, rfl, hL, hF.same s4, by rw [el]; exact v g (List.mem_of_getElem? hg), by rw [el]; exact h40, fun H6 p s6 hp6 hL6 => ?_⟩
      refine ⟨p, _, rfl, s4.trans s6, s4.free hp6, ?_⟩
      have := fold_step (g := sortAlong) (r := xs) hg
      unfold afterRow at hL6 ⊢
      rw [this]
      exact hL6
    · rintro σ H' ⟨q', x, rfl, s4, hq0, hL⟩
      have el : (as.map V.ref).length = r.length := by rw [List.length_map]; exact hp.length
      rw [el, List.take_length] at hL
      exact ⟨_, rfl, k _ _ s4 hq0 hL⟩
end
end K22


set_option Elab.async false
set_option linter.all false
set_option maxRecDepth 100000
set_option maxHeartbeats 4000000
namespace K22
open PySem L2 Kt PyProof.Rows
abbrev sLDraws : Stmt := tp 19
abbrev sLNext : Stmt := tp 20
abbrev sLLoad : Stmt := tp 21
abbrev sLMixed : Stmt := tp 22
abbrev sLAlong : Stmt := tp 23
abbrev sLRests : Stmt := tp 24
abbrev sLRight : Stmt := tp 25
abbrev sLRing : Stmt := tp 26
abbrev sLaw : Stmt := tp 27
section
variable {P : Program} {w : World} {K : PySem.W.Frag} {mg : Str → Option Value} {base : Heap}
/-! ### the draws -/
theorem bigpos : (0 : Int) < (((10 : Int) ^ (60 : Int).toNat) ^ (60 : Int).toNat) ^ (4 : Int).toNat := Int.pow_pos (Int.pow_pos (Int.pow_pos (by decide)))
def spLDraws : Sp := fun vs H Q _ => ∃ c : Int, vs = [.int c] ∧ ∀ p n (b : Bool), H p = none → Q (.ref p) (upd H p (DrO n 0 b))
theorem scLDraws : FnScope ["cell"] ["cell"] (defScope sLDraws) := ⟨rfl, rfl, rfl, by decide +kernel, rfl, by decide +kernel, by decide +kernel⟩
theorem ok_ldraws {f : Addr} {fd : FuncData} (F : Fun K "_law_draws" "_law_draws" sLDraws f fd) (N : Nb mg) : FnOk P w K mg base CX0 1 f fd ["cell"] spLDraws := by
  refine F.ok scLDraws (fun vs H Q E h => ?_) (fun cdv A outer s H vs Q E hr h => ?_)
  · obtain ⟨c, rfl, _⟩ := h
    rfl
  · obtain ⟨c, rfl, k⟩ := h
    refine ⟨_, pss_one (ps_ret (pe_lst (pa_cons (pe_op op_mod (pe_callTy call_int1 (by rfl) N.int (by decide +kernel) (pa_cons (pv 0) pa_nil)) (pe_op op_powW (pe_op op_powW (pe_op op_pow pe_int pe_int) pe_int) pe_int))
      (pa_cons pe_int (pa_cons (pe_cmpR op_ge (pv 0) (pe_op op_pow pe_int pe_int) (nomark _)) pa_nil))))), ?_⟩
    refine ⟨_, rfl, .inl ⟨_, rfl, ?_⟩⟩
    refine ⟨_, _, rfl, rfl, ⟨by decide, by decide, by decide⟩, ?_⟩
    refine ⟨_, _, rfl, rfl, ⟨by decide, by decide +kernel⟩, ?_⟩
    refine ⟨_, _, rfl, rfl, ⟨by decide, by decide +kernel⟩, ?_⟩
    refine ⟨_, _, rfl, rfl, bigpos, ?_⟩
    refine ⟨_, rfl, _, _, rfl, rfl, ⟨by decide, by decide, by decide⟩, _, _, rfl, rfl, ?_⟩
    exact ⟨by show 3 ≤ sizeLine; decide, fun p hp => k p _ _ hp⟩
def spLNext : Sp := fun vs H Q _ => ∃ (d : Addr) (n k : Int) (c : Bool), vs = [.ref d] ∧ H d = some (DrO n k c) ∧ 0 ≤ k ∧ k < 1000000000 ∧ ∀ r n', 0 ≤ r → Q (.int r) (upd H d (DrO n' (k + 1) c))
theorem scLNext : FnScope ["draws", "k", "drawn"] ["draws"] (defScope sLNext) := ⟨rfl, rfl, rfl, by decide +kernel, rfl, by decide +kernel, by decide +kernel⟩
theorem at3_0 {x y z : V} : atI [x, y, z] 0 = some x := rfl
theorem at3_1 {x y z : V} : atI [x, y, z] 1 = some y := rfl
theorem at3_2 {x y z : V} : atI [x, y, z] 2 = some z := rfl
theorem ok_lnext {f : Addr} {fd : FuncData} (F : Fun K "_law_next" "_law_next" sLNext f fd) (N : Nb mg) : FnOk P w K mg base CX0 1 f fd ["draws"] spLNext := by
  refine F.ok scLNext (fun vs H Q E h => ?_) (fun cdv A outer s H vs Q E hr h => ?_)
  · obtain ⟨d, n, k, c, rfl, _⟩ := h
    rfl
  · obtain ⟨d, n, k, c, rfl, hd, k0, k1, q⟩ := h
    refine ⟨_, pss_cons (ps_asg (pe_op op_add (pe_ix ix_list (pv 0) pe_int (fun _ _ => rfl)) pe_int) (pg_sub (pv 0) pe_int set_list))
      (pss_cons (ps_set (i := 1) scLNext.nd rfl (.inl rfl) (pe_ix ix_list (pv 0) pe_int (fun _ _ => rfl)))
      (pss_cons (ps_if (pt_val (pe_ix ix_list (pv 0) pe_int (fun _ _ => rfl)))
        (pss_cons (ps_set (i := 2) scLNext.nd rfl (.inl rfl) (pe_op op_mod (pe_callTy call_int1 (by rfl) N.int (by decide +kernel) (pa_cons (pe_ix ix_list (pv 0) pe_int (fun _ _ => rfl)) pa_nil)) (pe_op op_pow pe_int pe_int)))
        (pss_cons (ps_asg (pe_op op_fdiv (pe_ix ix_list (pv 0) pe_int (fun _ _ => rfl)) (pe_op op_pow pe_int pe_int)) (pg_sub (pv 0) pe_int set_list))
        (pss_one (ps_ret (pv 2))))) pss_nil)
      (pss_cons (ps_set (i := 2) scLNext.nd rfl (.inl rfl) (pe_op op_mod (pe_callTy call_int1 (by rfl) N.int (by decide +kernel) (pa_cons
          (pe_op op_mul (pe_op op_add (pe_op op_add (pe_op op_mod (pe_callTy call_int1 (by rfl) N.int (by decide +kernel) (pa_cons (pe_ix ix_list (pv 0) pe_int (fun _ _ => rfl)) pa_nil)) pe_int)
            (pe_op op_mul (pe_op op_mul (pv 1) (pv 1)) pe_int)) (pv 1)) pe_int) pa_nil)) pe_int))
      (pss_cons (ps_set (i := 2) scLNext.nd rfl (.inl rfl) (pe_op op_mod (pe_callTy call_int1 (by rfl) N.int (by decide +kernel) (pa_cons (pe_op op_mul (pv 2) (pv 2)) pa_nil)) pe_int))
      (pss_one (ps_ret (pe_op op_fdiv (pe_op op_mod (pe_callTy call_int1 (by rfl) N.int (by decide +kernel) (pa_cons (pe_op op_mul (pv 2) (pe_op op_add (pv 2) pe_int)) pa_nil)) pe_int) pe_int))))))), ?_⟩
    refine ⟨_, rfl, d, _, _, _, rfl, rfl, SqL.of hd, at3_1, _, _, rfl, rfl, ?_⟩
    refine ⟨_, rfl, d, _, _, 1, rfl, rfl, hd, rfl, ?_⟩
    have hd1 : upd H d (DrO n (k + 1) c) d = some (DrO n (k + 1) c) := upd_same
    refine ⟨_, rfl, d, _, _, _, rfl, rfl, SqL.of hd1, at3_1, ?_⟩
    refine ⟨_, rfl, d, _, _, _, rfl, rfl, SqL.of hd1, at3_2, _, rfl, ?_⟩
    refine ite2 (fun _ => ?_) (fun _ => ?_)
    · refine ⟨_, rfl, d, _, _, _, rfl, rfl, SqL.of hd1, at3_0, .inl ⟨_, rfl, ?_⟩⟩
      refine ⟨_, _, rfl, rfl, ⟨by decide, by decide, by decide⟩, _, _, rfl, rfl, (by show (0 : Int) < (10 : Int) ^ (6 : Int).toNat; decide), ?_⟩
      refine ⟨_, rfl, d, _, _, _, rfl, rfl, SqL.of hd1, at3_0, ?_⟩
      refine ⟨_, _, rfl, rfl, ⟨by decide, by decide, by decide⟩, _, _, rfl, rfl, ⟨by decide, by decide⟩, ?_⟩
      refine ⟨_, rfl, d, _, _, 0, rfl, rfl, hd1, rfl, ?_⟩
      refine ⟨_, rfl, ?_⟩
      have fin := q (n % 1000000) (n / 1000000) (by omega)
      have e : upd (upd H d (DrO n (k + 1) c)) d (.lst (([V.int n, V.int (k + 1), V.bl c] : List V).set 0 (V.int (n / 1000000)))) = upd H d (DrO (n / 1000000) (k + 1) c) := upd_upd
      rw [← e] at fin
      exact fin
    · have kk : -(2 ^ 64) < k + 1 ∧ k + 1 < 2 ^ 64 := ⟨by omega, by omega⟩
      refine ⟨_, rfl, d, _, _, _, rfl, rfl, SqL.of hd1, at3_0, .inl ⟨_, rfl, ?_⟩⟩
      refine ⟨_, _, rfl, rfl, (by show (0 : Int) < 1000003; decide), ?_⟩
      refine ⟨_, rfl, _, rfl, _, _, rfl, rfl, .inl kk, ?_⟩
      refine ⟨_, _, rfl, rfl, .inr ⟨by decide, by decide⟩, ?_⟩
      refine ⟨_, _, rfl, rfl, ?_⟩
      refine ⟨_, rfl, _, _, rfl, rfl, ?_⟩
      refine ⟨_, _, rfl, rfl, .inr ⟨by decide, by decide⟩, .inl ⟨_, rfl, ?_⟩⟩
      refine ⟨_, _, rfl, rfl, (by show (0 : Int) < 2147483629; decide), ?_⟩
      have bnd : ∀ z : Int, 0 ≤ z % 2147483629 ∧ z % 2147483629 < 2147483629 := fun z => by omega
      have bnd2 : ∀ z : Int, 0 ≤ z % 2147483587 ∧ z % 2147483587 < 2147483587 := fun z => by omega
      have low : ∀ z : Int, 0 ≤ z → z < 2147483629 → -(2 ^ 64) < z ∧ z < 2 ^ 64 := fun z h1 h2 => ⟨by omega, by omega⟩
      refine ⟨_, rfl, _, rfl, _, _, rfl, rfl, .inl (low _ (bnd _).1 (bnd _).2), .inl ⟨_, rfl, ?_⟩⟩
      refine ⟨_, _, rfl, rfl, (by show (0 : Int) < 2147483587; decide), ?_⟩
      refine ⟨_, rfl, _, rfl, _, _, rfl, rfl, ?_⟩
      refine ⟨_, _, rfl, rfl, .inl (low _ (bnd2 _).1 (Int.lt_trans (bnd2 _).2 (by decide))), .inl ⟨_, rfl, ?_⟩⟩
      refine ⟨_, _, rfl, rfl, (by show (0 : Int) < 2147483579; decide), ?_⟩
      refine ⟨_, _, rfl, rfl, ⟨by decide, by decide⟩, ?_⟩
      exact q _ _ (by omega)
def spLLoad : Sp := fun vs H Q _ => ∃ (d : Addr) (n : Nat) (m k : Int) (c : Bool), vs = [.ref d, .int n] ∧ 1 ≤ n ∧ n ≤ 40 ∧ H d = some (DrO m k c) ∧ 0 ≤ k ∧ k < 900000000 ∧
  ∀ H' p xs, DrAt H H' d c k (k + 200) → H p = none → LI H' p xs → xs.length = n → (∀ x ∈ xs, Small x) → Q (.ref p) H'
theorem scLLoad : FnScope ["draws", "many", "kind", "scale", "left", "told", "turn"] ["draws", "many"] (defScope sLLoad) := ⟨rfl, rfl, rfl, by decide +kernel, rfl, by decide +kernel, by decide +kernel⟩
theorem ok_lload {f g : Addr} {fd gd : FuncData} (F : Fun K "_law_load" "_law_load" sLLoad f fd) (N : Nb mg) (G : FnOk P w K mg base CX0 1 g gd ["draws"] spLNext) (b1 : Binds K gd ["draws"] []) (m1 : mg "_law_next" = some (.ref g)) (k1 : PySem.W.keepIn K (.ref g) = true) :
    FnOk P w K mg base CX0 2 f fd ["draws", "many"] spLLoad := by
  refine F.ok scLLoad (fun vs H Q E h => ?_) (fun cdv A outer s H vs Q E hr h => ?_)
  · obtain ⟨d, n, m, k, c, rfl, _⟩ := h
    rfl
  · obtain ⟨d, n, m, k, c, rfl, n1, n40, hd, k0, kb, q⟩ := h
    have I := fun (X : Cx) => @call_int1 X
    refine ⟨_, pss_cons (ps_set (i := 2) scLLoad.nd rfl (.inr rfl) (pe_op op_mod (pe_callTy call_int1 (by rfl) N.int (by decide +kernel) (pa_cons (pe_call G hr (by rfl) m1 k1 b1 .nil pass0 (pa_cons (pv 0) pa_nil)) pa_nil)) pe_int))
      (pss_cons (ps_if (pt_cmpR op_gt (pv 2) pe_int (nomark _))
        (pss_cons (ps_set (i := 3) scLLoad.nd rfl (.inr rfl) (pe_ix ix_list (pe_lst (pa_cons pe_int (pa_cons pe_int (pa_cons (pe_op op_pow pe_int pe_int) pa_nil)))) (pe_op op_mod (pe_callTy call_int1 (by rfl) N.int (by decide +kernel) (pa_cons (pe_call G hr (by rfl) m1 k1 b1 .nil pass0 (pa_cons (pv 0) pa_nil)) pa_nil)) pe_int) (fun _ _ => rfl)))
        (pss_one (ps_ret (pe_lc (own := [("turn", 6)]) (g := gName 6) (tt := tYes) rfl scLLoad.nd (pi_range1 (by rfl) N.range (pa_cons (pv 1) pa_nil)) (blkOk_by (N := ["draws", "many", "kind", "scale", "left", "told", "turn"]) (sc := defScope sLLoad) (by decide +kernel))
          (fun _ _ _ _ _ => pg_name (i := 6) scLLoad.nd rfl (Or.inl rfl)) (fun _ _ _ _ _ => pts_nil)
          (fun _ _ _ _ _ => pe_op op_mul (pe_op op_sub (pe_op op_mod (pe_callTy (show CallR _ (.type "int") (fun xs H Q => (∃ i, xs = [.int i] ∧ Q (.int i) H) ∨ ∃ k, xs = [.bl k] ∧ Q (.int (if k then 1 else 0)) H) from call_int1) (by rfl) N.int (by decide +kernel) (pa_cons (pe_call G hr (by rfl) m1 k1 b1 .nil pass0 (pa_cons (pv 0) pa_nil)) pa_nil))
              (pe_ix (show IxR _ (rIxL K) from ix_list) (pe_lst (pa_cons pe_int (pa_cons pe_int (pa_cons (pe_op op_pow pe_int pe_int) pa_nil)))) (pe_op op_sub (pv 2) pe_int) (fun _ _ => rfl))) (pv 2)) (pv 3)))))) pss_nil)
      (pss_cons (ps_set (i := 4) scLLoad.nd rfl (.inl rfl) (pe_listRg rfl (by rfl) N.list (prg_2 (by rfl) N.range pe_int (pe_op op_add (pv 1) pe_int))))
      (pss_cons (ps_set (i := 5) scLLoad.nd rfl (.inl rfl) (pe_lst pa_nil))
      (pss_cons (ps_while PassesOwn.never (pt_cmpR (op_neD hr.units) (pv 4) (pe_lst pa_nil) (nomark _))
        (pss_one (ps_expr (pe_bm PySem.F.plainAttrs_list PySem.F.slot_list_append PySem.F.type_list_append mt_append (pv 5) (pa_cons
          (pe_bm PySem.F.plainAttrs_list PySem.F.slot_list_pop PySem.F.type_list_pop mt_popAt (pv 4) (pa_cons (pe_op op_mod (pe_callTy call_int1 (by rfl) N.int (by decide +kernel) (pa_cons (pe_call G hr (by rfl) m1 k1 b1 .nil pass0 (pa_cons (pv 0) pa_nil)) pa_nil))
            (pe_callB call_len_seq (by rfl) N.len PySem.boot_len (pa_cons (pv 4) pa_nil))) pa_nil)) pa_nil)))))
      (pss_one (ps_ret (pv 5))))))), ?_⟩
    refine ⟨_, rfl, d, m, k, c, rfl, hd, k0, by omega, fun r1 m1' hr1 => .inl ⟨_, rfl, ?_⟩⟩
    refine ⟨_, _, rfl, rfl, (by show (0 : Int) < 4; decide), ?_⟩
    have B1 : But d H (upd H d (DrO m1' (k + 1) c)) := But.upd
    have e1 : upd H d (DrO m1' (k + 1) c) d = some (DrO m1' (k + 1) c) := upd_same
    generalize upd H d (DrO m1' (k + 1) c) = H1 at B1 e1 ⊢
    have kd0 : 0 ≤ r1 % 4 := by omega
    have kd4 : r1 % 4 < 4 := by omega
    refine ⟨_, rfl, _, _, rfl, rfl, _, rfl, ?_⟩
    refine ite2 (fun pos => ?_) (fun npos => ?_)
    · have kd1 : 1 ≤ (r1 % 4) := by
        have := of_decide_eq_true pos
        omega
      refine ⟨_, _, rfl, rfl, ⟨by decide, by decide, by decide⟩, by show 3 ≤ sizeLine; decide, fun t ht => ?_⟩
      have B2 := B1.new (o := .lst [V.int 1, V.int 1, V.int ((10 : Int) ^ (53 : Int).toNat)]) ht
      have e2 := (upd_ne (o := .lst [V.int 1, V.int 1, V.int ((10 : Int) ^ (53 : Int).toNat)]) (ne_of_none e1 ht)).trans e1
      have t2 : upd H1 t (.lst [V.int 1, V.int 1, V.int ((10 : Int) ^ (53 : Int).toNat)]) t = some (.lst [V.int 1, V.int 1, V.int ((10 : Int) ^ (53 : Int).toNat)]) := upd_same
      have ntd : t ≠ d := (ne_of_none e1 ht).symm
      generalize upd H1 t (.lst [V.int 1, V.int 1, V.int ((10 : Int) ^ (53 : Int).toNat)]) = H2 at B2 e2 t2
      refine ⟨_, rfl, d, m1', k + 1, c, rfl, e2, by omega, by omega, fun r2 m2 hr2 => .inl ⟨_, rfl, ?_⟩⟩
      refine ⟨_, _, rfl, rfl, (by show (0 : Int) < 3; decide), ?_⟩
      have B3 : But d H (upd H2 d (DrO m2 (k + 1 + 1) c)) := B2.draw
      have e3 : upd H2 d (DrO m2 (k + 1 + 1) c) d = some (DrO m2 (k + 1 + 1) c) := upd_same
      have t3 := (upd_ne (o := DrO m2 (k + 1 + 1) c) ntd).trans t2
      generalize upd H2 d (DrO m2 (k + 1 + 1) c) = H3 at B3 e3 t3
      obtain ⟨sc, hsc, hsc2⟩ := tab3 (x := 1) (y := 1) (z := (10 : Int) ^ (53 : Int).toNat) (i := r2 % 3) (by omega) (by omega)
      have hsc3 : sc = 1 ∨ sc = (10 : Int) ^ (53 : Int).toNat := by
        rcases hsc2 with h | h | h
        · exact .inl h
        · exact .inl h
        · exact .inr h
      refine ⟨_, _, _, _, rfl, rfl, SqL.of t3, hsc, ?_⟩
      refine ⟨_, rfl, n, rfl, by omega, by omega, fun D hD => lc_it (walk_range (lo := 0) (n := (n : Int).toNat)) (fun i H' => ∃ xs, LI H' D xs ∧ xs.length = i ∧ (∀ x ∈ xs, Small x) ∧ DrAt H H' d c k (k + 2 + i)) ?_ (fun _ _ _ _ => True.intro) ?_ ?_⟩
      · have ndD : d ≠ D := ne_of_none e3 hD
        exact ⟨[], upd_same, rfl, fun x hx => (by cases hx), B3.new hD, m2, k + 1 + 1, (upd_ne ndD).trans e3, by omega, by omega⟩
      · rintro i v H4 H5 hi ⟨xs, hL, hlen, hsm, B4, m4, k4, e4, l4, u4⟩ ⟨rfl, rfl⟩
        have hi40 : i < 40 := by omega
        have nDd : D ≠ d := (ne_of_none e3 hD).symm
        refine ⟨rfl, tyes ?_⟩
        refine ⟨_, rfl, d, m4, k4, c, rfl, e4, by omega, by omega, fun r3 m5 hr3 => .inl ⟨_, rfl, ?_⟩⟩
        refine ⟨_, _, rfl, rfl, ⟨by decide, by decide, by decide⟩, by show 3 ≤ sizeLine; decide, fun u hu => ?_⟩
        have B5 : But d H (upd H5 d (DrO m5 (k4 + 1) c)) := B4.draw
        have hD5 := (upd_ne (o := DrO m5 (k4 + 1) c) nDd).trans hL
        have e5 : upd H5 d (DrO m5 (k4 + 1) c) d = some (DrO m5 (k4 + 1) c) := upd_same
        generalize upd H5 d (DrO m5 (k4 + 1) c) = H6 at B5 hD5 e5 hu
        have B6 := B5.new (o := .lst [V.int 2, V.int 4, V.int ((10 : Int) ^ (6 : Int).toNat)]) hu
        have hD6 := (upd_ne (o := .lst [V.int 2, V.int 4, V.int ((10 : Int) ^ (6 : Int).toNat)]) (ne_of_none hD5 hu)).trans hD5
        have e6 := (upd_ne (o := .lst [V.int 2, V.int 4, V.int ((10 : Int) ^ (6 : Int).toNat)]) (ne_of_none e5 hu)).trans e5
        have u6 : upd H6 u (.lst [V.int 2, V.int 4, V.int ((10 : Int) ^ (6 : Int).toNat)]) u = some (.lst [V.int 2, V.int 4, V.int ((10 : Int) ^ (6 : Int).toNat)]) := upd_same
        generalize upd H6 u (.lst [V.int 2, V.int 4, V.int ((10 : Int) ^ (6 : Int).toNat)]) = H7 at B6 hD6 e6 u6
        obtain ⟨md, hmd, hmd2⟩ := tab3 (x := 2) (y := 4) (z := (10 : Int) ^ (6 : Int).toNat) (i := (r1 % 4) - 1) (by omega) (by omega)
        have e10 : (10 : Int) ^ (6 : Int).toNat = 1000000 := by decide
        rw [e10] at hmd2
        have md0 : 0 < md := by omega
        have md1 : md ≤ 1000000 := by omega
        refine ⟨_, rfl, _, _, rfl, rfl, _, _, _, _, rfl, rfl, SqL.of u6, hmd, ?_⟩
        refine ⟨_, _, rfl, rfl, md0, ?_⟩
        have b1 : 0 ≤ r3 % md := Int.emod_nonneg _ (by omega)
        have b2 : r3 % md < md := Int.emod_lt_of_pos _ md0
        refine ⟨_, rfl, _, _, rfl, rfl, ?_⟩
        refine ⟨_, rfl, _, _, rfl, rfl, .inl ⟨by omega, by omega⟩, ?_⟩
        refine ⟨_, hD6, by rw [List.length_map, hlen, sizeLine_eq]; omega, ?_⟩
        refine ⟨xs ++ [(r3 % md - (r1 % 4)) * sc], ?_, by rw [List.length_append, hlen]; rfl, fun x hx => ?_, B6.own ?_, m5, k4 + 1, (upd_ne nDd.symm).trans e6, by omega, by omega⟩
        · unfold LI
          rw [upd_same, List.map_append]
          rfl
        · rcases List.mem_append.mp hx with hx | hx
          · exact hsm x hx
          · rw [List.mem_singleton.mp hx]
            exact small_mul (by omega) hsc3
        · exact but_free B3 hD nDd
      · rintro H' ⟨xs, hL, hlen, hsm, B4, m4, k4, e4, l4, u4⟩
        exact q H' D xs ⟨B4, m4, k4, e4, by omega, by omega⟩ (but_free B3 hD (ne_of_none e3 hD).symm) hL (by omega) hsm
    · have npos' : (r1 % 4) = 0 := by
        have : ¬ (0 < (r1 % 4)) := fun z => npos (decide_eq_true z)
        omega
      refine ⟨_, rfl, _, _, rfl, rfl, _, _, rfl, rfl, RgOk.of_le (by decide) (by omega) (by decide) (by omega), fun l hl => ?_⟩
      rw [rgV_upto]
      have hlen0 : (upto 1 ((n : Int) + 1)).length = n := by rw [upto_len]; omega
      have ndl : d ≠ l := ne_of_none e1 hl
      refine ⟨Nat.zero_le _, fun t ht => ?_⟩
      have hl0 : H l = none := but_free B1 hl ndl.symm
      have B2 := B1.new (o := .lst ((upto 1 ((n : Int) + 1)).map V.int)) hl
      have e2 := (upd_ne (o := .lst ((upto 1 ((n : Int) + 1)).map V.int)) ndl).trans e1
      have l2 : LI (upd H1 l (.lst ((upto 1 ((n : Int) + 1)).map V.int))) l (upto 1 ((n : Int) + 1)) := upd_same
      generalize upd H1 l (.lst ((upto 1 ((n : Int) + 1)).map V.int)) = H2 at B2 e2 l2 ht ⊢
      have ndt : d ≠ t := ne_of_none e2 ht
      have nlt : l ≠ t := ne_of_none l2 ht
      have ht0 : H t = none := but_free B2 ht ndt.symm
      refine while_by (fun σ H' => ∃ (L T : List Int) (z : Option V) (y : Option V), σ = [some (.ref d), some (.int n), some (.int (r1 % 4)), y, some (.ref l), some (.ref t), z] ∧ LI H' l L ∧ LI H' t T ∧ T.length + L.length = n ∧
          (∀ x ∈ L, Small x) ∧ (∀ x ∈ T, Small x) ∧ DrAt H H' d c k (k + 2 + (T.length : Int))) (fun σ H' => lenAt H' (σ.getD 4 none)) ?_ ?_ mono_ne
      · refine ⟨_, [], _, _, rfl, (upd_ne nlt).trans l2, upd_same, by rw [hlen0]; simp, fun x hx => ?_, fun x hx => (by cases hx), B2.new ht, m1', k + 1, (upd_ne ndt).trans e2, by omega, by omega⟩
        obtain ⟨h1, h2⟩ := upto_mem hx
        exact small_of (n := n) h1 (by omega) n40
      · rintro σ H' ⟨L, T, z, y, rfl, hL, hT, hlen, hsL, hsT, B4, m4, k4, e4, l4, u4⟩
        refine ask_ne rfl hL fun q' hq' => ?_
        have ndq : d ≠ q' := ne_of_none e4 hq'
        have B5 := B4.new (o := .lst []) hq'
        have e5 := (upd_ne (o := .lst []) ndq).trans e4
        have L5 := hL.same (same_upd (o := .lst []) hq')
        have T5 := hT.same (same_upd (o := .lst []) hq')
        generalize upd H' q' (.lst []) = H5 at B5 e5 L5 T5 ⊢
        by_cases hLe : L = []
        · rw [decide_eq_true hLe]
          refine iteF ?_
          have hTn : T.length = n := by
            rw [hLe] at hlen
            simpa using hlen
          exact ⟨_, rfl, q H5 t T ⟨B5, m4, k4, e5, by omega, by omega⟩ ht0 T5 hTn hsT⟩
        · rw [decide_eq_false hLe]
          refine iteT ?_
          have Lpos : 0 < L.length := List.length_pos_iff.mpr hLe
          refine ⟨_, rfl, .inl ⟨rfl, _, .inl (.inl T5)⟩, _, rfl, .inl ⟨rfl, _, .inl (.inl L5)⟩, ?_⟩
          refine ⟨_, rfl, d, m4, k4, c, rfl, e5, by omega, by omega, fun r6 m6 hr6 => .inl ⟨_, rfl, ?_⟩⟩
          have B6 : But d H (upd H5 d (DrO m6 (k4 + 1) c)) := B5.draw
          have e6 : upd H5 d (DrO m6 (k4 + 1) c) d = some (DrO m6 (k4 + 1) c) := upd_same
          have L6 : LI (upd H5 d (DrO m6 (k4 + 1) c)) l L := (upd_ne ndl.symm).trans L5
          have T6 : LI (upd H5 d (DrO m6 (k4 + 1) c)) t T := (upd_ne ndt.symm).trans T5
          generalize upd H5 d (DrO m6 (k4 + 1) c) = H6 at B6 e6 L6 T6 ⊢
          refine ⟨_, rfl, l, _, rfl, .inl (SqL.of L6), ?_⟩
          rw [li_len]
          have Lp : (0 : Int) < (L.length : Int) := by omega
          refine ⟨_, _, rfl, rfl, Lp, ?_⟩
          have i0 : 0 ≤ r6 % (L.length : Int) := Int.emod_nonneg _ (by omega)
          have i1 : r6 % (L.length : Int) < (L.length : Int) := Int.emod_lt_of_pos _ Lp
          have hix : (r6 % (L.length : Int)).toNat < L.length := by omega
          obtain ⟨x, hx⟩ : ∃ x, L[(r6 % (L.length : Int)).toNat]? = some x := ⟨_, List.getElem?_eq_getElem hix⟩
          refine ⟨l, _, (r6 % (L.length : Int)), (r6 % (L.length : Int)).toNat, V.int x, rfl, rfl, L6, by omega, by omega, by rw [List.length_map]; exact Kt.seqIndex_of i0 i1, get_map hx, ?_⟩
          rw [map_erase]
          have nlt' : t ≠ l := nlt.symm
          refine ⟨t, _, V.int x, rfl, rfl, (upd_ne nlt').trans T6, by rw [List.length_map, sizeLine_eq]; omega, ?_⟩
          have pm := pop_perm hx
          have hl' : (L.eraseIdx (r6 % (L.length : Int)).toNat).length + 1 = L.length := by
            have := pm.length_eq
            simpa using this
          have T7 : LI (upd (upd H6 l (.lst ((L.eraseIdx (r6 % (L.length : Int)).toNat).map V.int))) t (.lst (T.map V.int ++ [V.int x]))) t (T ++ [x]) := by
            unfold LI
            rw [upd_same, List.map_append]
            rfl
          have L7 : LI (upd (upd H6 l (.lst ((L.eraseIdx (r6 % (L.length : Int)).toNat).map V.int))) t (.lst (T.map V.int ++ [V.int x]))) l (L.eraseIdx (r6 % (L.length : Int)).toNat) := (upd_ne nlt).trans upd_same
          refine ⟨⟨_, _, _, _, rfl, L7, T7, ?_, fun x' hx' => hsL x' (pm.mem_iff.mp (List.mem_cons_of_mem _ hx')), fun x' hx' => ?_, (B6.own hl0).own ht0, m6, k4 + 1, (upd_ne ndt).trans ((upd_ne ndl).trans e6), by omega, ?_⟩, ?_⟩
          · rw [List.length_append, List.length_singleton]
            omega
          · rcases List.mem_append.mp hx' with h | h
            · exact hsT x' h
            · rw [List.mem_singleton.mp h]
              exact hsL x (List.mem_of_getElem? hx)
          · rw [List.length_append, List.length_singleton]
            omega
          · show lenAt _ (some (.ref l)) < lenAt _ (some (.ref l))
            rw [lenAt_of L7, lenAt_of hL]
            omega
end
end K22

set_option Elab.async false
set_option linter.all false
set_option maxRecDepth 100000
set_option maxHeartbeats 4000000
namespace K22
open PySem L2 Kt PyProof.Rows
section
variable {P : Program} {w : World} {K : PySem.W.Frag} {mg : Str → Option Value} {base : Heap}
def spLMixed : Sp := fun vs H Q _ => ∃ (d a : Addr) (xs : List Int) (m k : Int) (c : Bool), vs = [.ref d, .ref a] ∧ LI H a xs ∧ xs.length ≤ 100 ∧ H d = some (DrO m k c) ∧ 0 ≤ k ∧ k < 900000000 ∧
  ∀ H' p ys, DrAt H H' d c k (k + (xs.length : Int)) → H p = none → LI H' p ys → ys.Perm xs → Q (.ref p) H'
theorem scLMixed : FnScope ["draws", "things", "left", "told"] ["draws", "things"] (defScope sLMixed) := ⟨rfl, rfl, rfl, by decide +kernel, rfl, by decide +kernel, by decide +kernel⟩
theorem ok_lmixed {f g : Addr} {fd gd : FuncData} (F : Fun K "_law_mixed" "_law_mixed" sLMixed f fd) (N : Nb mg) (G : FnOk P w K mg base CX0 1 g gd ["draws"] spLNext) (b1 : Binds K gd ["draws"] []) (m1 : mg "_law_next" = some (.ref g)) (k1 : PySem.W.keepIn K (.ref g) = true) :
    FnOk P w K mg base CX0 2 f fd ["draws", "things"] spLMixed := by
  refine F.ok scLMixed (fun vs H Q E h => ?_) (fun cdv A outer s H vs Q E hr h => ?_)
  · obtain ⟨d, a, xs, m, k, c, rfl, _⟩ := h
    rfl
  · obtain ⟨d, a, xs, m, k, c, rfl, hx, x100, hd, k0, kb, q⟩ := h
    refine ⟨_, pss_cons (ps_set (i := 2) scLMixed.nd rfl (.inl rfl) (pe_callTy call_list_of (by rfl) N.list (by decide +kernel) (pa_cons (pv 1) pa_nil)))
      (pss_cons (ps_set (i := 3) scLMixed.nd rfl (.inl rfl) (pe_lst pa_nil))
      (pss_cons (ps_while PassesOwn.never (pt_cmpR (op_neD hr.units) (pv 2) (pe_lst pa_nil) (nomark _))
        (pss_one (ps_expr (pe_bm PySem.F.plainAttrs_list PySem.F.slot_list_append PySem.F.type_list_append mt_append (pv 3) (pa_cons
          (pe_bm PySem.F.plainAttrs_list PySem.F.slot_list_pop PySem.F.type_list_pop mt_popAt (pv 2) (pa_cons (pe_op op_mod (pe_callTy call_int1 (by rfl) N.int (by decide +kernel) (pa_cons (pe_call G hr (by rfl) m1 k1 b1 .nil pass0 (pa_cons (pv 0) pa_nil)) pa_nil))
            (pe_callB call_len_seq (by rfl) N.len PySem.boot_len (pa_cons (pv 2) pa_nil))) pa_nil)) pa_nil)))))
      (pss_one (ps_ret (pv 3))))), ?_⟩
    refine ⟨_, rfl, a, _, rfl, .inl (SqL.of hx), fun l hl => ?_⟩
    have ndl : d ≠ l := ne_of_none hd hl
    obtain ⟨H2, f2, s2, l2⟩ := disp_li hl xs
    rw [f2]
    have e2 := s2 _ _ hd
    refine ⟨Nat.zero_le _, fun t ht => ?_⟩
    have ndt : d ≠ t := ne_of_none e2 ht
    have nlt : l ≠ t := ne_of_none l2 ht
    have ht0 : H t = none := s2.free ht
    refine while_by (fun σ H' => ∃ (L T : List Int), σ = [some (.ref d), some (.ref a), some (.ref l), some (.ref t)] ∧ LI H' l L ∧ LI H' t T ∧ (T ++ L).Perm xs ∧ DrAt H H' d c k (k + (T.length : Int))) (fun σ H' => lenAt H' (σ.getD 2 none)) ?_ ?_ mono_ne
    · exact ⟨xs, [], rfl, (upd_ne nlt).trans l2, upd_same, .refl _, (But.same s2).new ht, m, k, (upd_ne ndt).trans e2, by omega, by simp⟩
    · rintro σ H' ⟨L, T, rfl, hL, hT, pm, B4, m4, k4, e4, l4, u4⟩
      have hlen : T.length + L.length = xs.length := by
        have := pm.length_eq
        rw [List.length_append] at this
        exact this
      refine ask_ne rfl hL fun q' hq' => ?_
      have B5 := B4.new (o := .lst []) hq'
      have e5 := (upd_ne (o := .lst []) (ne_of_none e4 hq')).trans e4
      have L5 := hL.same (same_upd (o := .lst []) hq')
      have T5 := hT.same (same_upd (o := .lst []) hq')
      generalize upd H' q' (.lst []) = H5 at B5 e5 L5 T5 ⊢
      by_cases hLe : L = []
      · rw [decide_eq_true hLe]
        refine iteF ?_
        rw [hLe, List.append_nil] at pm
        exact ⟨_, rfl, q H5 t T ⟨B5, m4, k4, e5, by omega, by omega⟩ ht0 T5 pm⟩
      · rw [decide_eq_false hLe]
        refine iteT ?_
        have Lpos : 0 < L.length := List.length_pos_iff.mpr hLe
        refine ⟨_, rfl, .inl ⟨rfl, _, .inl (.inl T5)⟩, _, rfl, .inl ⟨rfl, _, .inl (.inl L5)⟩, ?_⟩
        refine ⟨_, rfl, d, m4, k4, c, rfl, e5, by omega, by omega, fun r6 m6 hr6 => .inl ⟨_, rfl, ?_⟩⟩
        have B6 : But d H (upd H5 d (DrO m6 (k4 + 1) c)) := B5.draw
        have e6 : upd H5 d (DrO m6 (k4 + 1) c) d = some (DrO m6 (k4 + 1) c) := upd_same
        have L6 : LI (upd H5 d (DrO m6 (k4 + 1) c)) l L := (upd_ne ndl.symm).trans L5
        have T6 : LI (upd H5 d (DrO m6 (k4 + 1) c)) t T := (upd_ne ndt.symm).trans T5
        generalize upd H5 d (DrO m6 (k4 + 1) c) = H6 at B6 e6 L6 T6 ⊢
        refine ⟨_, rfl, l, _, rfl, .inl (SqL.of L6), ?_⟩
        rw [li_len]
        have Lp : (0 : Int) < (L.length : Int) := by omega
        refine ⟨_, _, rfl, rfl, Lp, ?_⟩
        have i0 : 0 ≤ r6 % (L.length : Int) := Int.emod_nonneg _ (by omega)
        have i1 : r6 % (L.length : Int) < (L.length : Int) := Int.emod_lt_of_pos _ Lp
        have hix : (r6 % (L.length : Int)).toNat < L.length := by omega
        obtain ⟨x, hxx⟩ : ∃ x, L[(r6 % (L.length : Int)).toNat]? = some x := ⟨_, List.getElem?_eq_getElem hix⟩
        refine ⟨l, _, r6 % (L.length : Int), (r6 % (L.length : Int)).toNat, V.int x, rfl, rfl, L6, by omega, by omega, by rw [List.length_map]; exact Kt.seqIndex_of i0 i1, get_map hxx, ?_⟩
        rw [map_erase]
        refine ⟨t, _, V.int x, rfl, rfl, (upd_ne nlt.symm).trans T6, by rw [List.length_map, sizeLine_eq]; omega, ?_⟩
        have pmx := pop_perm hxx
        have hl' : (L.eraseIdx (r6 % (L.length : Int)).toNat).length + 1 = L.length := by
          have := pmx.length_eq
          simpa using this
        have T7 : LI (upd (upd H6 l (.lst ((L.eraseIdx (r6 % (L.length : Int)).toNat).map V.int))) t (.lst (T.map V.int ++ [V.int x]))) t (T ++ [x]) := by
          unfold LI
          rw [upd_same, List.map_append]
          rfl
        have L7 : LI (upd (upd H6 l (.lst ((L.eraseIdx (r6 % (L.length : Int)).toNat).map V.int))) t (.lst (T.map V.int ++ [V.int x]))) l (L.eraseIdx (r6 % (L.length : Int)).toNat) := (upd_ne nlt).trans upd_same
        refine ⟨⟨_, T ++ [x], rfl, L7, T7, ?_, (B6.own hl).own ht0, m6, k4 + 1, (upd_ne ndt).trans ((upd_ne ndl).trans e6), by omega, by rw [List.length_append]; simp; omega⟩, ?_⟩
        · refine List.Perm.trans ?_ pm
          rw [List.append_assoc]
          exact List.Perm.append_left T pmx
        · show lenAt _ (some (.ref l)) < lenAt _ (some (.ref l))
          rw [lenAt_of L7, lenAt_of hL]
          omega
def spLAlong : Sp := fun vs H Q _ => ∃ (d a : Addr) (line : List Int) (m k : Int) (c : Bool), vs = [.ref d, .ref a] ∧ LI H a line ∧ 1 ≤ line.length ∧ line.length ≤ 40 ∧ line.Nodup ∧ H d = some (DrO m k c) ∧ 0 ≤ k ∧ k < 900000000 ∧
  ∀ H' p f, DrAt H H' d c k (k + 100) → H p = none → FamN H H' p f → (∀ c ∈ f, c.Sublist line) → f.flatten.Nodup → f.length ≤ 40 → Q (.ref p) H'
theorem scLAlong : FnScope ["draws", "line", "told", "place", "turn"] ["draws", "line"] (defScope sLAlong) := ⟨rfl, rfl, rfl, by decide +kernel, rfl, by decide +kernel, by decide +kernel⟩
theorem ok_lalong {f g : Addr} {fd gd : FuncData} (F : Fun K "_law_along" "_law_along" sLAlong f fd) (N : Nb mg) (G : FnOk P w K mg base CX0 1 g gd ["draws"] spLNext) (b1 : Binds K gd ["draws"] []) (m1 : mg "_law_next" = some (.ref g)) (k1 : PySem.W.keepIn K (.ref g) = true) :
    FnOk P w K mg base CX0 2 f fd ["draws", "line"] spLAlong := by
  refine F.ok scLAlong (fun vs H Q E h => ?_) (fun cdv A outer s H vs Q E hr h => ?_)
  · obtain ⟨d, a, xs, m, k, c, rfl, _⟩ := h
    rfl
  · obtain ⟨d, a, line, m, k, c, rfl, hx, x1, x40, nd, hd, k0, kb, q⟩ := h
    refine ⟨_, pss_cons (ps_setLc (own := [("turn", 4)]) (g := gName 4) (tt := tYes) (i := 2) rfl scLAlong.nd rfl rfl (sw_true rfl rfl rfl (by decide +kernel))
          (pi_range1 (by rfl) N.range (pa_cons (pe_op op_add pe_int (pe_op op_mod (pe_callTy call_int1 (by rfl) N.int (by decide +kernel) (pa_cons (pe_call G hr (by rfl) m1 k1 b1 .nil pass0 (pa_cons (pv 0) pa_nil)) pa_nil)) (pe_callB call_len_seq (by rfl) N.len PySem.boot_len (pa_cons (pv 1) pa_nil)))) pa_nil))
          (blkOk_by (N := ["draws", "line", "told", "place", "turn"]) (sc := defScope sLAlong) (by decide +kernel)) (fun _ _ _ _ _ => pg_name (i := 4) scLAlong.nd rfl (Or.inl rfl)) (fun _ _ _ _ _ => pts_nil) (fun _ _ _ _ _ => pe_lst pa_nil))
      (pss_cons (ps_for PassesOwn.never rfl (pi_list (pv 1)) (pg_name (i := 3) scLAlong.nd rfl (.inl rfl))
        (pss_one (ps_if (pt_cmpR op_gt (pe_op op_mod (pe_callTy call_int1 (by rfl) N.int (by decide +kernel) (pa_cons (pe_call G hr (by rfl) m1 k1 b1 .nil pass0 (pa_cons (pv 0) pa_nil)) pa_nil)) pe_int) pe_int (nomark _))
          (pss_one (ps_expr (pe_bm PySem.F.plainAttrs_list PySem.F.slot_list_append PySem.F.type_list_append mt_append (pe_ix ix_list (pv 2) (pe_op op_mod (pe_callTy call_int1 (by rfl) N.int (by decide +kernel) (pa_cons (pe_call G hr (by rfl) m1 k1 b1 .nil pass0 (pa_cons (pv 0) pa_nil)) pa_nil))
            (pe_callB call_len_seq (by rfl) N.len PySem.boot_len (pa_cons (pv 2) pa_nil))) (fun _ _ => rfl)) (pa_cons (pv 3) pa_nil)))) pss_nil)))
      (pss_one (ps_ret (pv 2)))), ?_⟩
    refine ⟨_, rfl, d, m, k, c, rfl, hd, k0, by omega, fun r1 m1' hr1 => .inl ⟨_, rfl, ?_⟩⟩
    have B1 : But d H (upd H d (DrO m1' (k + 1) c)) := But.upd
    have e1 : upd H d (DrO m1' (k + 1) c) d = some (DrO m1' (k + 1) c) := upd_same
    have x1' : LI (upd H d (DrO m1' (k + 1) c)) a line := hx.but hd B1
    generalize upd H d (DrO m1' (k + 1) c) = H1 at B1 e1 x1' ⊢
    refine ⟨_, rfl, a, _, rfl, .inl (SqL.of x1'), ?_⟩
    rw [li_len]
    have lp : (0 : Int) < (line.length : Int) := by omega
    have b0 : 0 ≤ r1 % (line.length : Int) := Int.emod_nonneg _ (by omega)
    have b1 : r1 % (line.length : Int) < (line.length : Int) := Int.emod_lt_of_pos _ lp
    refine ⟨_, _, rfl, rfl, lp, _, _, rfl, rfl, _, rfl, by omega, by omega, fun D hD => lc_it (walk_range (lo := 0) (n := (1 + r1 % (line.length : Int)).toNat)) (fun i H' => ∃ as, Refs H' D as ∧ as.length = i ∧ as.Nodup ∧ (∀ x ∈ as, LI H' x [] ∧ x ≠ D ∧ H1 x = none) ∧ Same H1 H') ?_ (fun _ _ _ _ => True.intro) ?_ ?_⟩
    · exact ⟨[], upd_same, rfl, .nil, fun x hx => (by cases hx), same_upd hD⟩
    · rintro i v H4 H5 hi ⟨as, hR, hl, hnd, hall, sm⟩ ⟨rfl, rfl⟩
      refine ⟨rfl, tyes ?_⟩
      refine ⟨Nat.zero_le _, fun p hp => ?_⟩
      have nDp : D ≠ p := ne_of_none hR hp
      refine ⟨_, (upd_ne nDp).trans hR, by rw [List.length_map, hl, sizeLine_eq]; omega, as ++ [p], refs_snoc, by rw [List.length_append, hl]; rfl, ?_, fun x hx => ?_, fun x o e => ?_⟩
      · refine List.nodup_append.mpr ⟨hnd, by simp, fun x hx y hy z => ?_⟩
        rw [List.mem_singleton.mp hy] at z
        exact ne_of_none (hall x hx).1 hp z
      · rcases List.mem_append.mp hx with h | h
        · obtain ⟨h1, h2, h3⟩ := hall x h
          exact ⟨(upd_ne h2).trans ((same_upd hp) _ _ h1), h2, h3⟩
        · rw [List.mem_singleton.mp h]
          exact ⟨(upd_ne nDp.symm).trans upd_same, nDp.symm, sm.free hp⟩
      · rw [upd_ne (ne_of_none e hD)]
        exact (same_upd hp) _ _ (sm _ _ e)
    · rintro H4 ⟨as, hR, hl, hnd, hall, sm⟩
      have e4 := sm _ _ e1
      have x4 := x1'.same sm
      have B4 : But d H H4 := B1.trans (But.same sm)
      have hD0 : H D = none := but_free B1 hD (ne_of_none e1 hD).symm
      have ndD : d ≠ D := ne_of_none e1 hD
      have hasd : ∀ x ∈ as, x ≠ d := fun x hx z => by
        have := (hall x hx).2.2
        rw [z, e1] at this
        cases this
      have as0 : ∀ x ∈ as, H x = none := fun x hx => but_free B1 (hall x hx).2.2 (hasd x hx)
      have nasa : ∀ x ∈ as, a ≠ x := fun x hx z => by
        have := (hall x hx).2.2
        rw [← z] at this
        exact (ne_of_none x1' this) rfl
      have naD : a ≠ D := ne_of_none x1' hD
      have alen : as.length ≤ 40 := by omega
      have apos : 0 < as.length := by omega
      refine ⟨_, rfl, a, rfl, ⟨_, SqL.of x4⟩, for_it walk_list (fun i σ H' => ∃ fm y z, σ = [some (.ref d), some (.ref a), some (.ref D), y, z] ∧ Refs H' D as ∧ Paired (LI H') as fm ∧ (∀ c ∈ fm, c.Sublist (line.take i)) ∧ fm.flatten.Nodup ∧ (∀ x ∈ fm.flatten, x ∈ line.take i) ∧ LI H' a line ∧ DrAt H H' d c k (k + 1 + 2 * (i : Int)))
        ⟨List.replicate as.length [], _, _, rfl, hR, paired_replicate fun x hx => (hall x hx).1, fun c hc => ?_, by rw [flatten_replicate_nil]; exact .nil, fun x hx => (by rw [flatten_replicate_nil] at hx; cases hx), x4, B4, m1', k + 1, e4, by omega, by omega⟩ (fun i σ H' _ ⟨_, _, _, _, _, _, _, _, _, h, _⟩ => SqL.of h) ?_ ?_⟩
      · rw [List.eq_of_mem_replicate hc]
        exact List.nil_sublist _
      · rintro i v σ H5 H6 hi ⟨fm, y, z, rfl, hR5, hp5, hsub, hnd5, hin, x5, B5, m5, k5, e5, l5, u5⟩ ⟨rfl, ev⟩
        obtain ⟨x, hxi, rfl⟩ := map_get ev
        have i40 : (i : Int) < 40 := by
          have := (List.getElem?_eq_some_iff.mp hxi).1
          omega
        have tk : line.take (i + 1) = line.take i ++ [x] := by rw [List.take_add_one, hxi]; rfl
        refine ⟨_, rfl, d, m5, k5, c, rfl, e5, by omega, by omega, fun r2 m6 hr2 => .inl ⟨_, rfl, ?_⟩⟩
        have B6 : But d H (upd H6 d (DrO m6 (k5 + 1) c)) := B5.draw
        have e6 : upd H6 d (DrO m6 (k5 + 1) c) d = some (DrO m6 (k5 + 1) c) := upd_same
        have R6 : Refs (upd H6 d (DrO m6 (k5 + 1) c)) D as := (upd_ne ndD.symm).trans hR5
        have p6 : Paired (LI (upd H6 d (DrO m6 (k5 + 1) c))) as fm := paired_upd hp5 hasd
        have x6 : LI (upd H6 d (DrO m6 (k5 + 1) c)) a line := x5.but e5 But.upd
        generalize upd H6 d (DrO m6 (k5 + 1) c) = H7 at B6 e6 R6 p6 x6 ⊢
        refine ⟨_, _, rfl, rfl, (by show (0 : Int) < 6; decide), _, _, rfl, rfl, _, rfl, ?_⟩
        refine ite2 (fun _ => ?_) (fun _ => ?_)
        · refine ⟨_, rfl, _, rfl, d, m6, k5 + 1, c, rfl, e6, by omega, by omega, fun r3 m7 hr3 => .inl ⟨_, rfl, ?_⟩⟩
          have B7 : But d H (upd H7 d (DrO m7 (k5 + 1 + 1) c)) := B6.draw
          have e7 : upd H7 d (DrO m7 (k5 + 1 + 1) c) d = some (DrO m7 (k5 + 1 + 1) c) := upd_same
          have R7 : Refs (upd H7 d (DrO m7 (k5 + 1 + 1) c)) D as := (upd_ne ndD.symm).trans R6
          have p7 : Paired (LI (upd H7 d (DrO m7 (k5 + 1 + 1) c))) as fm := paired_upd p6 hasd
          have x7 : LI (upd H7 d (DrO m7 (k5 + 1 + 1) c)) a line := x6.but e6 But.upd
          generalize upd H7 d (DrO m7 (k5 + 1 + 1) c) = H8 at B7 e7 R7 p7 x7 ⊢
          refine ⟨_, rfl, D, _, rfl, .inl (SqL.of R7), ?_⟩
          have la : ((as.map V.ref).length : Int) = (as.length : Int) := by rw [List.length_map]
          have lp2 : (0 : Int) < ((as.map V.ref).length : Int) := by omega
          refine ⟨_, _, rfl, rfl, lp2, ?_⟩
          have i0 : 0 ≤ r3 % ((as.map V.ref).length : Int) := Int.emod_nonneg _ (by omega)
          have i1 : r3 % ((as.map V.ref).length : Int) < ((as.map V.ref).length : Int) := Int.emod_lt_of_pos _ lp2
          have hix : (r3 % ((as.map V.ref).length : Int)).toNat < as.length := by omega
          obtain ⟨ca, hca⟩ : ∃ x, as[(r3 % ((as.map V.ref).length : Int)).toNat]? = some x := ⟨_, List.getElem?_eq_getElem hix⟩
          obtain ⟨cc, hcc, hcL⟩ := pget p7 hca
          have hcam := List.mem_of_getElem? hca
          refine ⟨_, _, _, _, rfl, rfl, SqL.of R7, atI_of i0 (get_map hca), .inl ⟨rfl, _, .inl (.inl hcL)⟩, ?_⟩
          have cl40 : cc.length ≤ 40 := by
            have h1 := (hsub cc (List.mem_of_getElem? hcc)).length_le
            rw [List.length_take] at h1
            omega
          refine ⟨_, rfl, ca, _, V.int x, rfl, rfl, hcL, by rw [List.length_map, sizeLine_eq]; omega, ?_⟩
          have ecc : cc.map V.int ++ [V.int x] = (cc ++ [x]).map V.int := by rw [List.map_append]; rfl
          rw [ecc]
          have fs := flatten_set (x := x) hcc
          have xn : x ∉ fm.flatten := fun z => by
            have h1 := hin x z
            have h2 := (List.take_sublist (i + 1) line).nodup nd
            rw [tk] at h2
            exact (List.nodup_append.mp h2).2.2 x h1 x (by simp) rfl
          refine ⟨fm.set (r3 % ((as.map V.ref).length : Int)).toNat (cc ++ [x]), _, _, rfl, (upd_ne (hall ca hcam).2.1.symm).trans R7, paired_set p7 hnd hca, fun c' hc' => ?_, ?_, fun y hy => ?_, (upd_ne (nasa ca hcam)).trans x7, B7.own (as0 ca hcam), m7, k5 + 1 + 1, (upd_ne (hasd ca hcam).symm).trans e7, by omega, by omega⟩
          · rw [tk]
            rcases List.mem_or_eq_of_mem_set hc' with h | h
            · exact (hsub c' h).trans (List.sublist_append_left _ _)
            · rw [h]
              exact (hsub cc (List.mem_of_getElem? hcc)).append (List.Sublist.refl _)
          · exact fs.nodup_iff.mpr (List.nodup_cons.mpr ⟨xn, hnd5⟩)
          · rw [tk]
            rcases List.mem_cons.mp (fs.mem_iff.mp hy) with h | h
            · rw [h]
              simp
            · exact List.mem_append_left _ (hin y h)
        · refine ⟨fm, _, _, rfl, R6, p6, fun c' hc' => ?_, hnd5, fun y hy => ?_, x6, B6, m6, k5 + 1, e6, by omega, by omega⟩
          · rw [tk]
            exact (hsub c' hc').trans (List.sublist_append_left _ _)
          · rw [tk]
            exact List.mem_append_left _ (hin y hy)
      · rintro σ H5 ⟨fm, y, z, rfl, hR5, hp5, hsub, hnd5, hin, x5, B5, m5, k5, e5, l5, u5⟩
        have fl : fm.length ≤ 40 := by
          have := hp5.length
          omega
        refine ⟨_, rfl, q H5 D fm ⟨B5, m5, k5, e5, by omega, ?_⟩ hD0 ⟨as, hR5, hp5, as0⟩ (fun c' hc' => (hsub c' hc').trans (List.take_sublist _ _)) hnd5 fl⟩
        rw [List.length_map] at u5
        omega
end
end K22

set_option Elab.async false
set_option linter.all false
set_option maxRecDepth 100000
set_option maxHeartbeats 8000000
namespace K22
open PySem L2 Kt PyProof.Rows
section
variable {P : Program} {w : World} {K : PySem.W.Frag} {mg : Str → Option Value} {base : Heap}
/-- how a def of the text stands, and its promise -/
structure At (P : Program) (w : World) (K : PySem.W.Frag) (mg : Str → Option Value) (base : Heap) (k : Nat) (x : Str) (ps : List Str) (sp : Sp) (f : Addr) (fd : FuncData) : Prop where
  ok : FnOk P w K mg base CX0 k f fd ps sp
  bd : Binds K fd ps []
  at_ : mg x = some (.ref f)
  kp : PySem.W.keepIn K (.ref f) = true
structure AtG (P : Program) (w : World) (K : PySem.W.Frag) (mg : Str → Option Value) (base : Heap) (k : Nat) (x : Str) (ps : List Str) (sp : Sp) (f : Addr) (fd : FuncData) : Prop where
  ok : FnG P w K mg base k f fd ps sp
  bd : Binds K fd ps []
  at_ : mg x = some (.ref f)
  kp : PySem.W.keepIn K (.ref f) = true
def spLRests : Sp := fun vs H Q _ => ∃ (d a b : Addr) (load : List Int) (lots : List (List (List Int))) (line : List Int) (m k : Int) (c : Bool), vs = [.ref d, .ref a, .ref b] ∧ LI H a load ∧ RowA H b lots ∧ Line load.length line ∧ (∀ f ∈ lots, Lined load.length line f) ∧
  1 ≤ load.length ∧ load.length ≤ 40 ∧ lots.length ≤ 40 ∧ H d = some (DrO m k c) ∧ 0 ≤ k ∧ k < 800000000 ∧ ∀ H', DrAt H H' d c k (k + 100000) → Q (.bl true) H'
theorem scLRests : FnScope ["draws", "load", "lots", "many", "changes", "quiet", "turn", "at", "after", "chains"] ["draws", "load", "lots"] (defScope sLRests) := ⟨rfl, rfl, rfl, by decide +kernel, rfl, by decide +kernel, by decide +kernel⟩
theorem ok_lrests {f c1 c2 c3 : Addr} {fd d1 d2 d3 : FuncData} (F : Fun K "_law_rests" "_law_rests" sLRests f fd) (N : Nb mg) (A1 : At P w K mg base 2 "_law_mixed" ["draws", "things"] spLMixed c1 d1)
    (A2 : At P w K mg base 5 "sort_by" ["filling", "family"] spSortBy c2 d2) (A3 : At P w K mg base 5 "is_sorted_by" ["filling", "family"] spIsBy c3 d3) : FnOk P w K mg base CX0 6 f fd ["draws", "load", "lots"] spLRests := by
  refine F.ok scLRests (fun vs H Q E h => ?_) (fun cdv A outer s H vs Q E hr h => ?_)
  · obtain ⟨d, a, b, load, lots, line, m, k, c, rfl, _⟩ := h
    rfl
  · obtain ⟨d, a, b, load, lots, line, m, k, c, rfl, hx, hrow, ln, hln, n1, n40, l40, hd, k0, kb, q⟩ := h
    have hr2 : Room 2 _ := hr.mono (by decide)
    refine ⟨_, pss_cons (ps_set (i := 3) scLRests.nd rfl (.inl rfl) (pe_callB call_len_seq (by rfl) N.len PySem.boot_len (pa_cons (pv 1) pa_nil)))
      (pss_cons (ps_set (i := 4) scLRests.nd rfl (.inl rfl) pe_int)
      (pss_cons (ps_set (i := 5) scLRests.nd rfl (.inl rfl) pe_int)
      (pss_cons (ps_for PassesOwn.never rfl (pi_range1 (by rfl) N.range (pa_cons (pe_op op_add (pe_op op_mul (pv 3) (pv 3)) pe_int) pa_nil)) (pg_name (i := 6) scLRests.nd rfl (.inl rfl))
        (pss_cons (ps_set (i := 5) scLRests.nd rfl (.inl rfl) pe_int)
        (pss_cons (ps_for PassesOwn.never rfl (pi_list (pe_call A1.ok hr2 (by rfl) A1.at_ A1.kp A1.bd .nil pass0 (pa_cons (pv 0) (pa_cons (pe_listRg rfl (by rfl) N.list (prg_1 (by rfl) N.range (pe_callB call_len_seq (by rfl) N.len PySem.boot_len (pa_cons (pv 2) pa_nil)))) pa_nil))))
            (pg_name (i := 7) scLRests.nd rfl (.inl rfl))
          (pss_cons (ps_set (i := 8) scLRests.nd rfl (.inl rfl) (pe_call A2.ok hr (by rfl) A2.at_ A2.kp A2.bd .nil pass0 (pa_cons (pv 1) (pa_cons (pe_ix ix_list (pv 2) (pv 7) (fun _ _ => rfl)) pa_nil))))
          (pss_cons (ps_set (i := 4) scLRests.nd rfl (.inl rfl) (pe_op op_add (pv 4) (pe_callTy call_int1 (by rfl) N.int (by decide +kernel) (pa_cons (pe_cmpR (op_neD hr.units) (pv 8) (pv 1) (nomark _)) pa_nil))))
          (pss_cons (ps_set (i := 5) scLRests.nd rfl (.inl rfl) (pe_op op_add (pv 5) (pe_callTy call_int1 (by rfl) N.int (by decide +kernel) (pa_cons (pe_cmpR (op_eqD hr.units) (pv 8) (pv 1) (nomark _)) pa_nil))))
          (pss_one (ps_set (i := 1) scLRests.nd rfl (.inr rfl) (pv 8)))))))
        (pss_one (ps_if (pt_cmpR op_eq (pv 5) (pe_callB call_len_seq (by rfl) N.len PySem.boot_len (pa_cons (pv 2) pa_nil)) (nomark _)) (pss_one ps_break) pss_nil)))))
      (pss_cons (ps_if (PW.pt (pw_or (pt_cmpR op_lt (pv 5) (pe_callB call_len_seq (by rfl) N.len PySem.boot_len (pa_cons (pv 2) pa_nil)) (nomark _))
          (pw_or1 (pt_cmpR op_gt (pe_op op_mul pe_int (pv 4)) (pe_op op_mul (pv 3) (pe_op op_sub (pv 3) pe_int)) (nomark _))))) (pss_one (ps_ret pe_bl)) pss_nil)
      (pss_one (ps_ret (pe_cmpR (op_eqD hr.units) (pe_lc (own := [("chains", 9)]) (g := gName 9) rfl scLRests.nd (pi_list (pv 2)) (blkOk_by (N := ["draws", "load", "lots", "many", "changes", "quiet", "turn", "at", "after", "chains"]) (sc := defScope sLRests) (by decide +kernel))
          (fun _ _ _ _ _ => pg_name (i := 9) scLRests.nd rfl (Or.inl rfl)) (fun _ _ _ _ _ => pts_one (pt_not (pt_val (pe_call A3.ok hr (by rfl) A3.at_ A3.kp A3.bd .nil pass0 (pa_cons (pv 1) (pa_cons (pv 9) pa_nil)))))) (fun _ _ _ _ _ => pv 9)) (pe_lst pa_nil) (nomark _)))))))), ?_⟩
    refine ⟨_, rfl, a, _, rfl, .inl (SqL.of hx), ?_⟩
    rw [li_len]
    have nn : (load.length : Int) * (load.length : Int) ≤ 40 * 40 := Int.mul_le_mul (by omega) (by omega) (by omega) (by omega)
    have nn0 : 0 ≤ (load.length : Int) * (load.length : Int) := Int.mul_nonneg (by omega) (by omega)
    have i0 := inv_le (along line load)
    have lnl : (along line load).length ≤ load.length := by
      unfold along
      rw [List.length_map]
      exact nodup_le _ _ ln.nd ln.rg
    have i1 : 2 * (inv (along line load) : Int) ≤ (load.length : Int) * ((load.length : Int) - 1) := by
      refine Int.le_trans i0 ?_
      by_cases z : (along line load).length = 0
      · rw [z]
        have : 0 ≤ (load.length : Int) * ((load.length : Int) - 1) := Int.mul_nonneg (by omega) (by omega)
        omega
      · exact Int.mul_le_mul (by omega) (by omega) (by omega) (by omega)
    have i2 : (load.length : Int) * ((load.length : Int) - 1) = (load.length : Int) * (load.length : Int) - (load.length : Int) := by rw [Int.mul_sub, Int.mul_one]
    refine ⟨_, rfl, _, rfl, _, _, rfl, rfl, .inl ⟨by omega, by omega⟩, _, _, rfl, rfl, _, rfl, by omega, by omega, ?_⟩
    refine for_it walk_range (fun t σ H' => ∃ (la : Addr) (cur : List Int) (ch qv : Int) (y6 y7 y8 y9 : Option V), σ = [some (.ref d), some (.ref la), some (.ref b), some (.int load.length), some (.int ch), some (.int qv), y6, y7, y8, y9] ∧ LI H' la cur ∧ cur.length = load.length ∧
        DrAt H H' d c k (k + 40 * (t : Int)) ∧ ch + (inv (along line cur) : Int) ≤ (inv (along line load) : Int) ∧ (t : Int) ≤ ch) ⟨a, load, 0, 0, _, _, _, _, rfl, hx, rfl, (DrAt.start hd).mono (by omega) (by omega), by omega, by omega⟩ (fun _ _ _ _ _ => True.intro) ?_ ?_
    · rintro t v σ H1 H2 ht ⟨la, cur, ch, qv, y6, y7, y8, y9, rfl, hL, hcl, D1, pot, tch⟩ ⟨rfl, rfl⟩
      have t2000 : (t : Int) < 2000 := by omega
      obtain ⟨B1, m1, k1, e1, l1, u1⟩ := D1
      have row1 := hrow.but hd B1
      obtain ⟨as, hb, hp⟩ := id row1
      have asl : as.length = lots.length := hp.length
      refine ⟨_, rfl, _, rfl, b, _, rfl, .inl (SqL.of hb), _, rfl, RgOk.of_le (by decide) (by rw [List.length_map]; omega) (by decide) (by rw [List.length_map]; omega), fun pl hpl => ?_⟩
      rw [rgV_upto, List.length_map, asl]
      obtain ⟨H3, f3, s3, l3⟩ := disp_li hpl (upto 0 (lots.length : Int))
      rw [f3]
      have e3 := s3 _ _ e1
      have ul : (upto 0 (lots.length : Int)).length = lots.length := by rw [upto_len]; omega
      refine ⟨d, pl, upto 0 (lots.length : Int), m1, k1, c, rfl, l3, by omega, e3, by omega, by omega, fun H4 pa ps D4 hpa hps pm => ?_⟩
      obtain ⟨B4, m4, k4, e4, l4, u4⟩ := D4
      rw [ul] at u4
      have psl : ps.length = lots.length := by rw [pm.length_eq, ul]
      have L4 := (hL.same s3).but e3 B4
      refine ⟨pa, rfl, ⟨_, SqL.of hps⟩, for_it (walk_list (xs := ps.map V.int)) (fun j σ H' => ∃ (la' : Addr) (cur' : List Int) (ch' qv' : Int) (z7 z8 : Option V), σ = [some (.ref d), some (.ref la'), some (.ref b), some (.int load.length), some (.int ch'), some (.int qv'), some (.int ((0 : Int) + (t : Nat))), z7, z8, y9] ∧
          LI H' la' cur' ∧ cur'.length = load.length ∧ Same H4 H' ∧ ch' + (inv (along line cur') : Int) ≤ (inv (along line load) : Int) ∧ 0 ≤ qv' ∧ qv' ≤ (j : Int) ∧ ch' = ch + ((j : Int) - qv') ∧
          (qv' = (j : Int) → cur' = cur ∧ ∀ x ∈ ps.take j, ∀ g, lots[x.toNat]? = some g → sortAlong cur g = cur)) ⟨la, cur, ch, 0, _, _, rfl, L4, hcl, Same.refl _, pot, by omega, by omega, by omega, fun _ => ⟨rfl, fun x hx => (by cases hx)⟩⟩ (fun j σ H' _ ⟨_, _, _, _, _, _, _, _, _, h, _⟩ => SqL.of (hps.same h)) ?_ ?_⟩
      · rintro j v σ H5 H6 hj ⟨la', cur', ch', qv', z7, z8, rfl, hL5, hcl5, s5, pot5, q0, qj, chq, all5⟩ ⟨rfl, ev⟩
        obtain ⟨x, hxj, rfl⟩ := map_get ev
        have xm : x ∈ upto 0 (lots.length : Int) := pm.mem_iff.mp (List.mem_of_getElem? hxj)
        obtain ⟨x0, xl⟩ := upto_mem xm
        have hxl : x.toNat < lots.length := by omega
        obtain ⟨g, hg⟩ : ∃ g, lots[x.toNat]? = some g := ⟨_, List.getElem?_eq_getElem hxl⟩
        have hgm := List.mem_of_getElem? hg
        have ax : x.toNat < as.length := by omega
        obtain ⟨fa, hfa⟩ : ∃ g, as[x.toNat]? = some g := ⟨_, List.getElem?_eq_getElem ax⟩
        obtain ⟨g', hg', hF⟩ := pget hp hfa
        have egg : g' = g := Option.some.inj (hg'.symm.trans hg)
        subst egg
        have hF6 := ((hF.same s3).but e3 B4).same s5
        have hb6 := ((hb.same s3).but e3 B4).same s5
        have lg := hln g' hgm
        have st := sort_inv (line := line) (load := cur') (f := g') (by rw [hcl5]; exact ln) (by rw [hcl5]; exact lg)
        refine ⟨_, rfl, _, rfl, _, rfl, b, _, x, _, rfl, rfl, SqL.of hb6, atI_of x0 (get_map hfa), la', fa, cur', g', rfl, hL5, hF6, by rw [hcl5]; exact lg.va, by omega, by omega, fun H7 p7 s7 hp7 hL7 => ?_⟩
        have cur7 := hL5.same s7
        have tk : ps.take (j + 1) = ps.take j ++ [x] := by rw [List.take_add_one, hxj]; rfl
        refine ⟨_, rfl, _, rfl, _, rfl, dL (sortAlong cur' g'), dL cur', hL7.dp, cur7.dp, shaped_dL _, shaped_dL _, ?_⟩
        rw [eqv_dL]
        by_cases hE : sortAlong cur' g' = cur'
        · rw [decide_eq_true hE]
          refine .inr ⟨_, rfl, ?_⟩
          refine ⟨_, _, rfl, rfl, ?_⟩
          refine ⟨_, rfl, _, rfl, _, rfl, dL (sortAlong cur' g'), dL cur', hL7.dp, cur7.dp, shaped_dL _, shaped_dL _, ?_⟩
          rw [eqv_dL, decide_eq_true hE]
          refine .inr ⟨_, rfl, ?_⟩
          refine ⟨_, _, rfl, rfl, ?_⟩
          refine ⟨_, rfl, p7, sortAlong cur' g', ch', qv' + 1, some (.int x), some (.ref p7), ?_, hL7, by rw [hE]; exact hcl5, s5.trans s7, by rw [hE]; exact pot5, by omega, by omega, by omega, fun hq => ?_⟩
          · show [some (V.ref d), some (V.ref p7), some (V.ref b), some (V.int load.length), some (V.int (ch' + 0)), some (V.int (qv' + 1)), some (V.int ((0 : Int) + (t : Nat))), some (V.int x), some (V.ref p7), y9] = _
            rw [Int.add_zero]
          · obtain ⟨a1, a2⟩ := all5 (by omega)
            refine ⟨by rw [hE]; exact a1, fun y hy g hg2 => ?_⟩
            rw [tk] at hy
            rcases List.mem_append.mp hy with h | h
            · exact a2 y h g hg2
            · rw [List.mem_singleton.mp h] at hg2
              have : g = g' := Option.some.inj (hg2.symm.trans hg)
              rw [this, ← a1]
              exact hE
        · rw [decide_eq_false hE]
          refine .inr ⟨_, rfl, ?_⟩
          refine ⟨_, _, rfl, rfl, ?_⟩
          refine ⟨_, rfl, _, rfl, _, rfl, dL (sortAlong cur' g'), dL cur', hL7.dp, cur7.dp, shaped_dL _, shaped_dL _, ?_⟩
          rw [eqv_dL, decide_eq_false hE]
          refine .inr ⟨_, rfl, ?_⟩
          refine ⟨_, _, rfl, rfl, ?_⟩
          have less := st.resolve_left hE
          refine ⟨_, rfl, p7, sortAlong cur' g', ch' + 1, qv', some (.int x), some (.ref p7), ?_, hL7, by rw [sortAlong_len]; exact hcl5, s5.trans s7, by omega, by omega, by omega, by omega, fun hq => by omega⟩
          show [some (V.ref d), some (V.ref p7), some (V.ref b), some (V.int load.length), some (V.int (ch' + 1)), some (V.int (qv' + 0)), some (V.int ((0 : Int) + (t : Nat))), some (V.int x), some (V.ref p7), y9] = _
          rw [Int.add_zero]
      · rintro σ H5 ⟨la', cur', ch', qv', z7, z8, rfl, hL5, hcl5, s5, pot5, q0, qj, chq, all5⟩
        rw [List.length_map] at qj chq all5
        have hb5 := ((hb.same s3).but e3 B4).same s5
        have B5 : But d H H5 := (B1.trans (But.same s3)).trans (B4.trans (But.same s5))
        have e5 := s5 _ _ e4
        have row5 := ((row1.same s3).but e3 B4).same s5
        refine ⟨_, rfl, _, rfl, b, _, rfl, .inl (SqL.of hb5), rfl, _, rfl, ?_⟩
        have lm : ((as.map V.ref).length : Int) = (lots.length : Int) := by rw [List.length_map, asl]
        refine ite2 (fun yes => ?_) (fun no => ?_)
        · have hq : qv' = ((as.map V.ref).length : Int) := by
            have := of_decide_eq_true yes
            injection this
          obtain ⟨a1, a2⟩ := all5 (by omega)
          have srt5 : ∀ g ∈ lots, isSorted cur' g = true := fun g hg => by
            obtain ⟨i, hi⟩ := List.getElem?_of_mem hg
            have il : i < lots.length := (List.getElem?_eq_some_iff.mp hi).1
            have im : (i : Int) ∈ ps := pm.mem_iff.mpr (by
              unfold upto
              refine List.mem_map.mpr ⟨i, ?_, by omega⟩
              rw [List.mem_range]
              omega)
            rw [List.take_of_length_le (by omega)] at a2
            have := a2 (i : Int) im g (by simpa using hi)
            rw [a1]
            exact still_sorted (by rw [hcl]; exact (hln g hg).va) this
          refine ⟨_, rfl, _, rfl, b, _, rfl, .inl (SqL.of hb5), _, _, rfl, rfl, _, rfl, ?_⟩
          have nlt : decide (qv' < ((as.map V.ref).length : Int)) = false := decide_eq_false (by omega)
          rw [nlt]
          refine iteF ?_
          refine ⟨_, rfl, _, _, rfl, rfl, .inl ⟨by decide, by decide⟩, ?_⟩
          refine ⟨_, rfl, _, rfl, _, _, rfl, rfl, _, _, rfl, rfl, .inl ⟨by omega, by omega⟩, ?_⟩
          have ngt : decide ((load.length : Int) * ((load.length : Int) - 1) < 2 * ch') = false := decide_eq_false (by
            have : 0 ≤ (inv (along line cur') : Int) := by omega
            omega)
          refine ⟨_, _, rfl, rfl, _, rfl, ?_⟩
          rw [ngt]
          refine iteF ?_
          refine ⟨_, rfl, b, rfl, ⟨_, SqL.of hb5⟩, fun De hDe => lc_it (walk_list (xs := as.map V.ref)) (fun _ H' => H' De = some (.lst []) ∧ Same H5 H') ⟨upd_same, same_upd hDe⟩ (fun _ H' _ q => SqL.of (hb5.same q.2)) ?_ ?_⟩
          · rintro j v H6 H7 hj ⟨hE, sE⟩ ⟨rfl, ev⟩
            obtain ⟨fa, hfa, rfl⟩ := map_get ev
            obtain ⟨g, hg, hF⟩ := pget hp hfa
            have hgm := List.mem_of_getElem? hg
            have hF7 := (((hF.same s3).but e3 B4).same s5).same sE
            refine ⟨rfl, ?_⟩
            refine ⟨_, rfl, _, rfl, la', fa, cur', g, rfl, hL5.same sE, hF7, by rw [hcl5]; exact (hln g hgm).va, by omega, by omega, fun H8 s8 => ?_⟩
            rw [srt5 g hgm]
            refine ⟨true, rfl, iteF ?_⟩
            exact ⟨s8 _ _ hE, sE.trans s8⟩
          · rintro H6 ⟨hE, sE⟩
            refine ⟨Nat.zero_le _, fun q2 hq2 => ?_⟩
            refine ⟨.list [], .list [], dp_empty ((same_upd hq2) _ _ hE), dp_empty upd_same, rfl, rfl, ?_⟩
            exact q _ ⟨B5.trans (But.same (sE.trans (same_upd hq2))), m4, k4, (sE.trans (same_upd hq2)) _ _ e5, by omega, by omega⟩
        · refine ⟨la', cur', ch', qv', _, _, _, _, rfl, hL5, hcl5, ⟨B5, m4, k4, e5, by omega, by push_cast; omega⟩, pot5, ?_⟩
          have hne : qv' ≠ ((as.map V.ref).length : Int) := fun z => no (decide_eq_true (by rw [z]))
          push_cast
          omega
    · rintro σ H1 ⟨la, cur, ch, qv, y6, y7, y8, y9, rfl, hL, hcl, D1, pot, tch⟩
      exfalso
      have : 0 ≤ (inv (along line cur) : Int) := by omega
      omega
end
end K22

set_option Elab.async false
set_option linter.all false
set_option maxRecDepth 100000
set_option maxHeartbeats 8000000
namespace K22
open PySem L2 Kt PyProof.Rows
section
variable {P : Program} {w : World} {K : PySem.W.Frag} {mg : Str → Option Value} {base : Heap}
/-- [chains for chains in lots if not is_sorted_by(load, chains)] -/
theorem unsorted_read {i j il : Nat} {σ : L2.St} {H : Hp} {Q : VK} {b la : Addr} {lots : List (List (List Int))} {load : List Int} (h1 : σ[i]? = some (some (.ref b))) (h2 : ∀ x, wipe ((wipe σ [j]).set j (some x)) [j] = wipe σ [j])
    (h3 : ∀ x, ((wipe σ [j]).set j (some x))[il]? = some (some (.ref la))) (h4 : ∀ x, ((wipe σ [j]).set j (some x))[j]? = some (some x)) (hrow : RowA H b lots) (hL : LI H la load) (hv : ∀ f ∈ lots, Valid load.length f)
    (n1 : 1 ≤ load.length) (n40 : load.length ≤ 40) (ll : lots.length ≤ 1000) (q : ∀ H' D, Same H H' → RowA H' D (lots.filter fun f => !isSorted load f) → Q (.ref D) H') :
    tLc (iList K (tVar i)) (gName j) (tNot (tB (tCall spIsBy [] E0 (tCons (tVar il) (tCons (tVar j) tNil))))) (tVar j) [j] σ H Q := by
  obtain ⟨as, hb, hp⟩ := id hrow
  refine ⟨_, h1, b, rfl, ⟨_, SqL.of hb⟩, fun D hD => lc_it (walk_list (xs := as.map V.ref)) (fun t H' => ∃ us gs, Refs H' D us ∧ Paired (FamX H' D) us gs ∧ gs = (lots.take t).filter (fun f => !isSorted load f) ∧ Same H H') ?_ (fun t H' _ ⟨_, _, _, _, _, s⟩ => SqL.of (hb.same s)) ?_ ?_⟩
  · exact ⟨[], [], upd_same, .nil, rfl, same_upd hD⟩
  · rintro t v H1 H2 ht ⟨us, gs, hR, hpu, hgs, s1⟩ ⟨rfl, ev⟩
    obtain ⟨fa, hfa, rfl⟩ := map_get ev
    obtain ⟨g, hg, hF⟩ := pget hp hfa
    have hgm := List.mem_of_getElem? hg
    have tk : lots.take (t + 1) = lots.take t ++ [g] := by rw [List.take_add_one, hg]; rfl
    refine ⟨h2 _, ?_⟩
    refine ⟨_, h3 _, _, h4 _, la, fa, load, g, rfl, hL.same s1, hF.same s1, hv g hgm, n1, n40, fun H3 s3 => ⟨_, rfl, ?_⟩⟩
    have s13 := s1.trans s3
    have R3 := hR.same s3
    have p3 : Paired (FamX H3 D) us gs := Paired.mapP hpu fun _ _ z => z.same s3
    cases hsrt : isSorted load g with
    | true =>
      refine iteF ?_
      refine ⟨us, gs, R3, p3, ?_, s13⟩
      rw [tk, List.filter_append, hgs]
      simp [hsrt]
    | false =>
      refine iteT ?_
      have nDfa : fa ≠ D := by
        obtain ⟨as', ha', _⟩ := hF
        exact ne_of_none ha' hD
      have fx : FamX H3 D fa g := (famX_new hF hD).same s13
      have ul : us.length ≤ 1000 := by
        have e1 := hpu.length
        have e2 : gs.length ≤ lots.length := by
          rw [hgs]
          exact Nat.le_trans (List.length_filter_le _ _) (by rw [List.length_take]; omega)
        omega
      refine ⟨_, h4 _, _, R3, by rw [List.length_map, sizeLine_eq]; omega, us ++ [fa], gs ++ [g], refs_snoc, Paired.snoc (fams_off p3) fx.off, ?_, fun x o e => ?_⟩
      · rw [tk, List.filter_append, hgs]
        simp [hsrt]
      · rw [upd_ne (ne_of_none e hD)]
        exact s13 _ _ e
  · rintro H1 ⟨us, gs, hR, hpu, hgs, s1⟩
    have el : (as.map V.ref).length = lots.length := by rw [List.length_map]; exact hp.length
    rw [el, List.take_length] at hgs
    rw [hgs] at hpu
    exact q H1 D s1 ⟨us, hR, Paired.mapP hpu fun _ _ z => z.fam⟩
/-- [chains for chains in lots if not is_sorted_by(load, chains)] == [] -/
theorem unsorted_test {i j il : Nat} {σ : L2.St} {H : Hp} {R : Bool → Hp → Prop} {b la : Addr} {lots : List (List (List Int))} {load : List Int} (h1 : σ[i]? = some (some (.ref b))) (h2 : ∀ x, wipe ((wipe σ [j]).set j (some x)) [j] = wipe σ [j])
    (h3 : ∀ x, ((wipe σ [j]).set j (some x))[il]? = some (some (.ref la))) (h4 : ∀ x, ((wipe σ [j]).set j (some x))[j]? = some (some x)) (hrow : RowA H b lots) (hL : LI H la load) (hv : ∀ f ∈ lots, Valid load.length f)
    (n1 : 1 ≤ load.length) (n40 : load.length ≤ 40) (ll : lots.length ≤ 1000) (q : ∀ H', Same H H' → R (decide ((lots.filter fun f => !isSorted load f) = [])) H') :
    tTest (tOp (rEqD K) (tLc (iList K (tVar i)) (gName j) (tNot (tB (tCall spIsBy [] E0 (tCons (tVar il) (tCons (tVar j) tNil))))) (tVar j) [j]) (tLst tNil)) σ H R := by
  show tLc (iList K (tVar i)) (gName j) (tNot (tB (tCall spIsBy [] E0 (tCons (tVar il) (tCons (tVar j) tNil))))) (tVar j) [j] σ H fun x H1 => tLst tNil σ H1 fun y H2 => rEqD K x y H2 fun z H' => ∃ k, z = .bl k ∧ R k H'
  refine unsorted_read h1 h2 h3 h4 hrow hL hv n1 n40 ll fun Ha Da sa rowa => ?_
  refine ⟨Nat.zero_le _, fun qa hqa => ?_⟩
  have sb := same_upd (o := .lst []) hqa
  refine ⟨dR _, .list [], (rowa.same sb).dp, dp_empty upd_same, shaped_dR _, rfl, ?_⟩
  rw [eqv_dR_nil]
  exact ⟨_, rfl, q _ (sa.trans sb)⟩
def spRight : Sp := fun vs H Q _ => ∃ (d : Addr) (n : Nat) (m k : Int) (c : Bool), vs = [.ref d, .int n] ∧ 1 ≤ n ∧ n ≤ 40 ∧ H d = some (DrO m k c) ∧ 0 ≤ k ∧ k < 700000000 ∧ ∀ H', DrAt H H' d c k (k + 300000) → Q (.bl true) H'
theorem scRight : FnScope ["draws", "many", "line", "lots", "load", "before", "turn", "chains"] ["draws", "many"] (defScope sLRight) := ⟨rfl, rfl, rfl, by decide +kernel, rfl, by decide +kernel, by decide +kernel⟩
theorem ok_right {f c1 c2 c3 c4 c5 c6 c7 : Addr} {fd d1 d2 d3 d4 d5 d6 d7 : FuncData} (F : Fun K "_law_right" "_law_right" sLRight f fd) (N : Nb mg) (A1 : At P w K mg base 2 "_law_mixed" ["draws", "things"] spLMixed c1 d1)
    (A2 : At P w K mg base 1 "_law_next" ["draws"] spLNext c2 d2) (A3 : At P w K mg base 2 "_law_along" ["draws", "line"] spLAlong c3 d3) (A4 : At P w K mg base 2 "_law_load" ["draws", "many"] spLLoad c4 d4)
    (A5 : At P w K mg base 6 "_law_rests" ["draws", "load", "lots"] spLRests c5 d5) (A6 : At P w K mg base 5 "is_sorted_by" ["filling", "family"] spIsBy c6 d6) (A7 : At P w K mg base 5 "after_row" ["filling", "row"] spAfter c7 d7) :
    FnG P w K mg base 7 f fd ["draws", "many"] spRight := by
  refine fnG_of F scRight (fun vs H Q h => ?_) (fun cdv A outer s H vs Q hr gu h => ?_)
  · obtain ⟨d, n, m, k, c, rfl, _⟩ := h
    rfl
  · obtain ⟨d, n, m, k, c, rfl, n1, n40, hd, k0, kb, q⟩ := h
    have hr1 : Room 1 _ := hr.mono (by decide)
    have hr2 : Room 2 _ := hr.mono (by decide)
    have hr5 : Room 5 _ := hr.mono (by decide)
    have RP := call_reprD (X := (cxOf CX0 P w K mg base ["draws", "many", "line", "lots", "load", "before", "turn", "chains"] "_law_right" (defScope sLRight) f cdv A outer s H E0).nox) gu hr.units
    refine ⟨_, pss_cons (ps_set (i := 2) scRight.nd rfl (.inr rfl) (pe_call A1.ok hr2 (by rfl) A1.at_ A1.kp A1.bd .nil pass0 (pa_cons (pv 0) (pa_cons (pe_listRg rfl (by rfl) N.list (prg_2 (by rfl) N.range pe_int (pe_op op_add (pv 1) pe_int))) pa_nil))))
      (pss_cons (ps_setLc (own := [("turn", 6)]) (g := gName 6) (tt := tYes) (i := 3) rfl scRight.nd rfl rfl (sw_true rfl rfl rfl (by decide +kernel))
          (pi_range1 (by rfl) N.range (pa_cons (pe_op op_add pe_int (pe_op op_mod (pe_callTy call_int1 (by rfl) N.int (by decide +kernel) (pa_cons (pe_call A2.ok hr1 (by rfl) A2.at_ A2.kp A2.bd .nil pass0 (pa_cons (pv 0) pa_nil)) pa_nil)) pe_int)) pa_nil))
          (blkOk_by (N := ["draws", "many", "line", "lots", "load", "before", "turn", "chains"]) (sc := defScope sLRight) (by decide +kernel)) (fun _ _ _ _ _ => pg_name (i := 6) scRight.nd rfl (Or.inl rfl)) (fun _ _ _ _ _ => pts_nil)
          (fun _ _ _ _ _ => pe_call A3.ok hr2 (by rfl) A3.at_ A3.kp A3.bd .nil pass0 (pa_cons (pv 0) (pa_cons (pv 2) pa_nil))))
      (pss_cons (ps_set (i := 4) scRight.nd rfl (.inr rfl) (pe_call A4.ok hr2 (by rfl) A4.at_ A4.kp A4.bd .nil pass0 (pa_cons (pv 0) (pa_cons (pv 1) pa_nil))))
      (pss_cons (ps_set (i := 5) scRight.nd rfl (.inl rfl) (pe_callB RP (by rfl) N.repr (by decide +kernel) (pa_cons (pe_lst (pa_cons (pv 4) (pa_cons (pv 3) pa_nil))) pa_nil)))
      (pss_cons (ps_if (PW.pt (pw_or (pt_not (pt_val (pe_call A5.ok hr (by rfl) A5.at_ A5.kp A5.bd .nil pass0 (pa_cons (pv 0) (pa_cons (pv 4) (pa_cons (pv 3) pa_nil))))))
          (pw_or1 (pt_not (pt_val (pe_call A5.ok hr (by rfl) A5.at_ A5.kp A5.bd .nil pass0 (pa_cons (pv 0) (pa_cons (pe_listRg3 rfl (by rfl) N.list (by rfl) N.range (pa_cons (pv 1) (pa_cons pe_int (pa_cons (pe_un un_neg pe_int) pa_nil)))) (pa_cons (pv 3) pa_nil)))))))))
          (pss_one (ps_ret pe_bl)) pss_nil)
      (pss_cons (ps_if (PW.pt (pw_and (pt_cmpR (op_eqD hr.units) (pe_lc (own := [("chains", 7)]) (g := gName 7) rfl scRight.nd (pi_list (pv 3)) (blkOk_by (N := ["draws", "many", "line", "lots", "load", "before", "turn", "chains"]) (sc := defScope sLRight) (by decide +kernel))
            (fun _ _ _ _ _ => pg_name (i := 7) scRight.nd rfl (Or.inl rfl)) (fun _ _ _ _ _ => pts_one (pt_not (pt_val (pe_call A6.ok hr5 (by rfl) A6.at_ A6.kp A6.bd .nil pass0 (pa_cons (pv 4) (pa_cons (pv 7) pa_nil)))))) (fun _ _ _ _ _ => pv 7)) (pe_lst pa_nil) (nomark _))
          (pw_and1 (pt_cmpR (op_neD hr.units) (pe_call A7.ok hr5 (by rfl) A7.at_ A7.kp A7.bd .nil pass0 (pa_cons (pv 4) (pa_cons (pv 3) pa_nil))) (pv 4) (nomark _))))) (pss_one (ps_ret pe_bl)) pss_nil)
      (pss_one (ps_ret (pe_cmpR op_eq (pe_callB RP (by rfl) N.repr (by decide +kernel) (pa_cons (pe_lst (pa_cons (pv 4) (pa_cons (pv 3) pa_nil))) pa_nil)) (pv 5) (nomark _))))))))), ?_⟩
    have two : 2 ≤ sizeLine := by decide
    -- line
    refine ⟨_, rfl, _, rfl, _, _, rfl, rfl, _, _, rfl, rfl, RgOk.of_le (by decide) (by omega) (by decide) (by omega), fun l hl => ?_⟩
    rw [rgV_upto]
    have ulen : (upto 1 ((n : Int) + 1)).length = n := by rw [upto_len]; omega
    obtain ⟨H1, f1, s1, l1⟩ := disp_li hl (upto 1 ((n : Int) + 1))
    rw [f1]
    have e1 := s1 _ _ hd
    refine ⟨d, l, _, m, k, c, rfl, l1, by omega, e1, by omega, by omega, fun H2 ln line D2 hln0 hln pm => ?_⟩
    obtain ⟨B2, m2, k2, e2, l2, u2⟩ := D2
    rw [ulen] at u2
    have lnl : line.length = n := by rw [pm.length_eq, ulen]
    have LN : Line n line := ⟨pm.nodup_iff.mpr (upto_nodup _ _), fun x hx => by
      obtain ⟨h1, h2⟩ := upto_mem (pm.mem_iff.mp hx)
      omega⟩
    have B02 : But d H H2 := (But.same s1).trans B2
    -- lots
    refine ⟨_, rfl, d, m2, k2, c, rfl, e2, by omega, by omega, fun r2 m3 hr2' => .inl ⟨_, rfl, ?_⟩⟩
    have B3 : But d H2 (upd H2 d (DrO m3 (k2 + 1) c)) := But.upd
    have e3 : upd H2 d (DrO m3 (k2 + 1) c) d = some (DrO m3 (k2 + 1) c) := upd_same
    have ln3 : LI (upd H2 d (DrO m3 (k2 + 1) c)) ln line := hln.but e2 B3
    generalize upd H2 d (DrO m3 (k2 + 1) c) = H3 at B3 e3 ln3 ⊢
    have r50 : 0 ≤ r2 % 5 := by omega
    have r55 : r2 % 5 < 5 := by omega
    refine ⟨_, _, rfl, rfl, (by show (0 : Int) < 5; decide), _, _, rfl, rfl, _, rfl, by omega, by omega, fun Dl hDl => lc_it (walk_range (lo := 0) (n := (1 + r2 % 5).toNat)) (fun t H' => ∃ fs r, Refs H' Dl fs ∧ Paired (FamX H' Dl) fs r ∧ r.length = t ∧ (∀ g ∈ r, Lined n line g ∧ g.length ≤ 40) ∧ But d H3 H' ∧
              ∃ n k, H' d = some (DrO n k c) ∧ k2 + 1 ≤ k ∧ k ≤ k2 + 1 + 100 * (t : Int)) ?_ (fun _ _ _ _ => True.intro) ?_ ?_⟩
    · exact ⟨[], [], upd_same, .nil, rfl, fun g hg => (by cases hg), But.same (same_upd hDl), m3, k2 + 1, (upd_ne (ne_of_none e3 hDl)).trans e3, by omega, by omega⟩
    · rintro t v H4 H5 ht ⟨fs, r, hRf, hp, hrl, hv, B4, m4, k4, e4, l4, u4⟩ ⟨rfl, rfl⟩
      refine ⟨rfl, tyes ?_⟩
      refine ⟨_, rfl, _, rfl, d, ln, line, m4, k4, c, rfl, ln3.but e3 B4, by omega, by omega, LN.nd, e4, by omega, by omega, fun H6 p g D6 hp0 hg hsub hnd hgl => ?_⟩
      obtain ⟨B6, m6, k6, e6, l6, u6⟩ := D6
      have nDd : Dl ≠ d := (ne_of_none e3 hDl).symm
      have RDl : Refs H6 Dl fs := B6 _ _ nDd hRf
      have lg : Lined n line g := ⟨⟨hnd, fun x hx => by
        obtain ⟨c', hc', hx'⟩ := List.mem_flatten.mp hx
        exact LN.rg x ((hsub c' hc').mem hx')⟩, hsub⟩
      refine ⟨_, RDl, ?_, fs ++ [p], r ++ [g], refs_snoc, ?_, by rw [List.length_append, hrl]; rfl, fun g' hg' => ?_, (B4.trans B6).own hDl, m6, k6, (upd_ne nDd.symm).trans e6, by omega, by push_cast; omega⟩
      · rw [List.length_map, hp.length, hrl, sizeLine_eq]
        omega
      · refine Paired.snoc (fams_off (Paired.mapP hp fun _ _ z => z.but e4 B6)) (FamX.off (hg.off hp0 ?_))
        rw [hRf]
        exact fun z => nomatch z
      · rcases List.mem_append.mp hg' with h | h
        · exact hv g' h
        · rw [List.mem_singleton.mp h]
          exact ⟨lg, hgl⟩
    · rintro H4 ⟨fs, lots, hRf, hp, hrl, hv, B4, m4, k4, e4, l4, u4⟩
      have ndDl : Dl ≠ d := (ne_of_none e3 hDl).symm
      have row4 : RowA H4 Dl lots := ⟨fs, hRf, Paired.mapP hp fun _ _ z => z.fam⟩
      have lots10 : lots.length ≤ 10 := by omega
      have B04 : But d H H4 := (B02.trans B3).trans B4
      -- load
      refine ⟨_, rfl, _, rfl, d, n, m4, k4, c, rfl, n1, n40, e4, by omega, by omega, fun H5 lo xs D5 hlo hloL hxl hsm => ?_⟩
      obtain ⟨B5, m5, k5, e5, l5, u5⟩ := D5
      have row5 := row4.but e4 B5
      have vx : ∀ g ∈ lots, Valid xs.length g := fun g hg => by rw [hxl]; exact (hv g hg).1.va
      have gl80 : ∀ g ∈ lots, g.length ≤ 80 := fun g hg => Nat.le_trans (hv g hg).2 (by decide)
      have okXF := ok_two ((ok_dL (xs := xs) (n := 40) (by omega) hsm).mono (by decide) (by decide : 40 * 64 + 3 ≤ 2052063)) (ok_dR vx (by omega) gl80 lots10)
      -- before
      refine ⟨_, rfl, _, rfl, two, fun p6 hp6 => ?_⟩
      have s6 : Same H5 (upd H5 p6 (.lst [.ref lo, .ref Dl])) := same_upd hp6
      have q6 : upd H5 p6 (.lst [.ref lo, .ref Dl]) p6 = some (.lst [.ref lo, .ref Dl]) := upd_same
      generalize upd H5 p6 (.lst [.ref lo, .ref Dl]) = H6 at s6 q6
      refine repr_of (dp_two q6 (hloL.same s6).dp (row5.same s6).dp) okXF (by decide) (by decide) ?_
      have e6 := s6 _ _ e5
      have lo6 := hloL.same s6
      have row6 := row5.same s6
      -- it rests
      refine ⟨_, rfl, _, rfl, _, rfl, d, lo, Dl, xs, lots, line, m5, k5, c, rfl, lo6, row6, by rw [hxl]; exact LN, fun g hg => by rw [hxl]; exact (hv g hg).1, by omega, by omega, by omega, e6, by omega, by omega, fun H7 D7 => ⟨true, rfl, iteF ?_⟩⟩
      obtain ⟨B7, m7, k7, e7, l7, u7⟩ := D7
      have lo7 := lo6.but e6 B7
      have row7 := row6.but e6 B7
      refine ⟨_, rfl, _, rfl, _, rfl, n, 0, -1, n, rfl, rgC_down (by omega), by omega, fun pd hpd => ?_⟩
      rw [stepV_eq]
      obtain ⟨H8, f8, s8, l8⟩ := disp_li hpd (Kt.stepI (n : Int) (-1) n)
      rw [f8]
      have sl : (Kt.stepI (n : Int) (-1) n).length = n := by unfold Kt.stepI; rw [List.length_map, List.length_range]
      have e8 := s8 _ _ e7
      refine ⟨_, rfl, d, pd, Dl, Kt.stepI (n : Int) (-1) n, lots, line, m7, k7, c, rfl, l8, row7.same s8, by rw [sl]; exact LN, fun g hg => by rw [sl]; exact (hv g hg).1, by omega, by omega, by omega, e8, by omega, by omega, fun H9 D9 => ⟨true, rfl, iteF ?_⟩⟩
      obtain ⟨B9, m9, k9, e9, l9, u9⟩ := D9
      have lo9 := (lo7.same s8).but e8 B9
      have row9 := (row7.same s8).but e8 B9
      have B09 : But d H H9 := (((B04.trans B5).trans (But.same s6)).trans B7).trans ((But.same s8).trans B9)
      have fin : ∀ Ha, Same H9 Ha → tCB (rReprD K) (tCons (tLst (tCons (tVar 4) (tCons (tVar 3) tNil))) tNil) [some (.ref d), some (.int n), some (.ref ln), some (.ref Dl), some (.ref lo), some (.str (txt [dL xs, dR lots])), none, none] Ha
          (fun x H1 => tVar 5 [some (.ref d), some (.int n), some (.ref ln), some (.ref Dl), some (.ref lo), some (.str (txt [dL xs, dR lots])), none, none] H1 fun y H2 => rEq x y H2 Q) := fun Ha sa => by
        refine ⟨_, rfl, _, rfl, two, fun pg hpg => ?_⟩
        have sg : Same Ha (upd Ha pg (.lst [.ref lo, .ref Dl])) := same_upd hpg
        have qg : upd Ha pg (.lst [.ref lo, .ref Dl]) pg = some (.lst [.ref lo, .ref Dl]) := upd_same
        generalize upd Ha pg (.lst [.ref lo, .ref Dl]) = Hg at sg qg
        have s9g := sa.trans sg
        refine repr_of (dp_two qg (lo9.same s9g).dp (row9.same s9g).dp) okXF (by decide) (by decide) ?_
        refine ⟨_, rfl, rfl, ?_⟩
        have z := q Hg ⟨B09.trans (But.same s9g), m9, k9, s9g _ _ e9, by omega, by omega⟩
        rw [← (decide_eq_true rfl : decide (V.str (txt [dL xs, dR lots]) = V.str (txt [dL xs, dR lots])) = true)] at z
        exact z
      refine unsorted_test (i := 3) (j := 7) (il := 4) (b := Dl) (la := lo) (lots := lots) (load := xs) (by rfl) (by intro _; rfl) (by intro _; rfl) (by intro _; rfl) row9 lo9 vx (by omega) (by omega) (by omega) fun Ha s9b => ?_
      refine ite2 (fun yes => ?_) (fun _ => ?_)
      · have none_ : lots.filter (fun f => !isSorted xs f) = [] := of_decide_eq_true yes
        have all_ : ∀ g ∈ lots, Valid xs.length g ∧ isSorted xs g = true := fun g hg => by
          refine ⟨vx g hg, ?_⟩
          have := List.filter_eq_nil_iff.mp none_ g hg
          simpa using this
        refine ⟨_, rfl, _, rfl, lo, Dl, xs, lots, rfl, lo9.same s9b, row9.same s9b, vx, by omega, by omega, fun Hc pc sc hpc hcL => ?_⟩
        rw [afterRow_still lots xs all_] at hcL
        refine ⟨_, rfl, dL xs, dL xs, hcL.dp, ((lo9.same s9b).same sc).dp, shaped_dL _, shaped_dL _, ?_⟩
        rw [eqv_dL, decide_eq_true rfl]
        refine ⟨_, rfl, iteF ?_⟩
        exact fin Hc (s9b.trans sc)
      · exact fin _ s9b
end
end K22

set_option Elab.async false
set_option linter.all false
set_option maxRecDepth 100000
set_option maxHeartbeats 8000000
namespace Kt
open PySem L2 PyProof.Rows
theorem cut_between (xs : List Int) (a b : Nat) (hb : b ≤ xs.length) : cutV (xs.map V.int) (some (a : Int)) (some (b : Int)) = ((xs.drop (min a xs.length)).take (b - min a xs.length)).map V.int := by
  unfold cutV
  have e1 : HT.sIx (xs.map V.int).length 0 (some (a : Int)) = min a xs.length := by rw [HT.sIx_nat, List.length_map]
  have e2 : HT.sIx (xs.map V.int).length (xs.map V.int).length (some (b : Int)) = b := by rw [HT.sIx_nat, List.length_map]; omega
  rw [e1, e2, List.map_take, List.map_drop]
theorem mem_two {P : List (List Int) → Prop} {lots : List (List (List Int))} {f g : List (List Int)} (h : ∀ x ∈ lots, P x) (hf : P f) (hg : P g) : ∀ x ∈ lots ++ [f, g], P x := fun x hx => by
  rcases List.mem_append.mp hx with z | z
  · exact h x z
  · rcases List.mem_cons.mp z with rfl | z
    · exact hf
    · rw [List.mem_singleton.mp z]
      exact hg
theorem paired_two {R : Addr → List (List Int) → Prop} {as : List Addr} {r : List (List (List Int))} {a b : Addr} {f g : List (List Int)} (p : Paired R as r) (h1 : R a f) (h2 : R b g) : Paired R (as ++ [a, b]) (r ++ [f, g]) := by
  have z := (p.snoc h1).snoc h2
  rw [List.append_assoc, List.append_assoc] at z
  exact z
/-- two places that stand in one chain this way round, in another the other way round -/
theorem ring_open {cur : List Int} {p q : Int} {f g : List (List Int)} (inj : Inj cur) (p1 : 1 ≤ p) (p2 : p ≤ (cur.length : Int)) (q1 : 1 ≤ q) (q2 : q ≤ (cur.length : Int)) (ne : p ≠ q)
    (hf : ∃ c ∈ f, ([p, q] : List Int).Sublist c) (hg : [q, p] ∈ g) : isSorted cur f = false ∨ isSorted cur g = false := by
  cases e1 : isSorted cur f with
  | false => exact .inl rfl
  | true =>
    cases e2 : isSorted cur g with
    | false => exact .inr rfl
    | true =>
      obtain ⟨c, hc, hs⟩ := hf
      have a1 := ascends_iff (List.all_eq_true.mp e1 c hc)
      have a2 := ascends_iff (List.all_eq_true.mp e2 _ hg)
      have b1 : (([p, q] : List Int).map (at1 cur)).Pairwise (· ≤ ·) := a1.sublist (hs.map _)
      simp at b1 a2
      exact absurd (inj p q p1 p2 q1 q2 (by omega)) ne
theorem pair_sub {l : List Int} {i j : Nat} {p x : Int} (hi : l[i]? = some p) (hj : l[j]? = some x) (h : i < j) : ([p, x] : List Int).Sublist l := by
  have e : l = l.take (i + 1) ++ l.drop (i + 1) := (List.take_append_drop _ _).symm
  have h1 : p ∈ l.take (i + 1) := by
    refine List.mem_of_getElem? (i := i) ?_
    rw [List.getElem?_take, if_pos (by omega)]
    exact hi
  have h2 : x ∈ l.drop (i + 1) := by
    refine List.mem_of_getElem? (i := j - (i + 1)) ?_
    rw [List.getElem?_drop]
    have z : i + 1 + (j - (i + 1)) = j := by omega
    rw [z]
    exact hj
  rw [e]
  exact (List.singleton_sublist.mpr h1).append (List.singleton_sublist.mpr h2)
end Kt
namespace K22
open PySem L2 Kt PyProof.Rows
section
variable {P : Program} {w : World} {K : PySem.W.Frag} {mg : Str → Option Value} {base : Heap}
def spRing : Sp := fun vs H Q _ => ∃ (d : Addr) (n : Nat) (m k : Int) (c : Bool), vs = [.ref d, .int n] ∧ 2 ≤ n ∧ n ≤ 40 ∧ H d = some (DrO m k c) ∧ 0 ≤ k ∧ k < 700000000 ∧ ∀ H', DrAt H H' d c k (k + 10000) → Q (.bl true) H'
theorem scRing : FnScope ["draws", "many", "line", "turn", "lots", "at", "far", "load", "chains"] ["draws", "many"] (defScope sLRing) := ⟨rfl, rfl, rfl, by decide +kernel, rfl, by decide +kernel, by decide +kernel⟩
theorem ok_ring {f c1 c2 c3 c4 c6 : Addr} {fd d1 d2 d3 d4 d6 : FuncData} (F : Fun K "_law_ring_right" "_law_ring_right" sLRing f fd) (N : Nb mg) (A1 : At P w K mg base 2 "_law_mixed" ["draws", "things"] spLMixed c1 d1)
    (A2 : At P w K mg base 1 "_law_next" ["draws"] spLNext c2 d2) (A3 : At P w K mg base 2 "_law_along" ["draws", "line"] spLAlong c3 d3) (A4 : At P w K mg base 5 "sort_by" ["filling", "family"] spSortBy c4 d4) (A6 : At P w K mg base 5 "is_sorted_by" ["filling", "family"] spIsBy c6 d6) :
    FnOk P w K mg base CX0 6 f fd ["draws", "many"] spRing := by
  refine F.ok scRing (fun vs H Q E h => ?_) (fun cdv A outer s H vs Q E hr h => ?_)
  · obtain ⟨d, n, m, k, c, rfl, _⟩ := h
    rfl
  · obtain ⟨d, n, m, k, c, rfl, n2, n40, hd, k0, kb, q⟩ := h
    have hr1 : Room 1 _ := hr.mono (by decide)
    have hr2 : Room 2 _ := hr.mono (by decide)
    refine ⟨_, pss_cons (ps_set (i := 2) scRing.nd rfl (.inr rfl) (pe_call A1.ok hr2 (by rfl) A1.at_ A1.kp A1.bd .nil pass0 (pa_cons (pv 0) (pa_cons (pe_listRg rfl (by rfl) N.list (prg_2 (by rfl) N.range pe_int (pe_op op_add (pv 1) pe_int))) pa_nil))))
      (pss_cons (ps_setLc (own := [("turn", 3)]) (g := gName 3) (tt := tYes) (i := 4) rfl scRing.nd rfl rfl (sw_true rfl rfl rfl (by decide +kernel))
          (pi_range1 (by rfl) N.range (pa_cons pe_int pa_nil))
          (blkOk_by (N := ["draws", "many", "line", "turn", "lots", "at", "far", "load", "chains"]) (sc := defScope sLRing) (by decide +kernel)) (fun _ _ _ _ _ => pg_name (i := 3) scRing.nd rfl (Or.inl rfl)) (fun _ _ _ _ _ => pts_nil)
          (fun _ _ _ _ _ => pe_call A3.ok hr2 (by rfl) A3.at_ A3.kp A3.bd .nil pass0 (pa_cons (pv 0) (pa_cons (pv 2) pa_nil))))
      (pss_cons (ps_set (i := 5) scRing.nd rfl (.inl rfl) (pe_op op_mod (pe_callTy call_int1 (by rfl) N.int (by decide +kernel) (pa_cons (pe_call A2.ok hr1 (by rfl) A2.at_ A2.kp A2.bd .nil pass0 (pa_cons (pv 0) pa_nil)) pa_nil)) (pe_op op_sub (pv 1) pe_int)))
      (pss_cons (ps_set (i := 6) scRing.nd rfl (.inl rfl) (pe_op op_add (pe_op op_add (pv 5) pe_int) (pe_op op_mod (pe_callTy call_int1 (by rfl) N.int (by decide +kernel) (pa_cons (pe_call A2.ok hr1 (by rfl) A2.at_ A2.kp A2.bd .nil pass0 (pa_cons (pv 0) pa_nil)) pa_nil)) (pe_op op_sub (pe_op op_sub (pv 1) pe_int) (pv 5)))))
      (pss_cons (ps_set (i := 4) scRing.nd rfl (.inl rfl) (pe_op op_cat (pv 4) (pe_lst (pa_cons (pe_lst (pa_cons (pe_slice sl_list (pv 2) (po_some (pv 5)) (po_some (pe_op op_add (pv 6) pe_int))) pa_nil))
          (pa_cons (pe_lst (pa_cons (pe_lst (pa_cons (pe_ix ix_list (pv 2) (pv 6) (fun _ _ => rfl)) (pa_cons (pe_ix ix_list (pv 2) (pv 5) (fun _ _ => rfl)) pa_nil))) pa_nil)) pa_nil)))))
      (pss_cons (ps_set (i := 7) scRing.nd rfl (.inr rfl) (pe_call A1.ok hr2 (by rfl) A1.at_ A1.kp A1.bd .nil pass0 (pa_cons (pv 0) (pa_cons (pe_listRg rfl (by rfl) N.list (prg_2 (by rfl) N.range pe_int (pe_op op_add (pv 1) pe_int))) pa_nil))))
      (pss_cons (ps_for PassesOwn.never rfl (pi_range1 (by rfl) N.range (pa_cons pe_int pa_nil)) (pg_name (i := 3) scRing.nd rfl (.inl rfl))
        (pss_one (ps_for PassesOwn.never rfl (pi_list (pe_call A1.ok hr2 (by rfl) A1.at_ A1.kp A1.bd .nil pass0 (pa_cons (pv 0) (pa_cons (pe_listRg rfl (by rfl) N.list (prg_1 (by rfl) N.range (pe_callB call_len_seq (by rfl) N.len PySem.boot_len (pa_cons (pv 4) pa_nil)))) pa_nil))))
            (pg_name (i := 5) scRing.nd rfl (.inl rfl))
          (pss_cons (ps_set (i := 7) scRing.nd rfl (.inr rfl) (pe_call A4.ok hr (by rfl) A4.at_ A4.kp A4.bd .nil pass0 (pa_cons (pv 7) (pa_cons (pe_ix ix_list (pv 4) (pv 5) (fun _ _ => rfl)) pa_nil))))
          (pss_one (ps_if (pt_cmpR (op_eqD hr.units) (pe_lc (own := [("chains", 8)]) (g := gName 8) rfl scRing.nd (pi_list (pv 4)) (blkOk_by (N := ["draws", "many", "line", "turn", "lots", "at", "far", "load", "chains"]) (sc := defScope sLRing) (by decide +kernel))
            (fun _ _ _ _ _ => pg_name (i := 8) scRing.nd rfl (Or.inl rfl)) (fun _ _ _ _ _ => pts_one (pt_not (pt_val (pe_call A6.ok hr (by rfl) A6.at_ A6.kp A6.bd .nil pass0 (pa_cons (pv 7) (pa_cons (pv 8) pa_nil)))))) (fun _ _ _ _ _ => pv 8)) (pe_lst pa_nil) (nomark _))
            (pss_one (ps_ret pe_bl)) pss_nil))))))
      (pss_one (ps_ret pe_bl)))))))), ?_⟩
    refine ⟨_, rfl, _, rfl, _, _, rfl, rfl, _, _, rfl, rfl, RgOk.of_le (by decide) (by omega) (by decide) (by omega), fun l hl => ?_⟩
    rw [rgV_upto]
    have ulen : (upto 1 ((n : Int) + 1)).length = n := by rw [upto_len]; omega
    obtain ⟨H1, f1, s1, l1⟩ := disp_li hl (upto 1 ((n : Int) + 1))
    rw [f1]
    have e1 := s1 _ _ hd
    refine ⟨d, l, _, m, k, c, rfl, l1, by omega, e1, by omega, by omega, fun H2 ln line D2 hln0 hln pm => ?_⟩
    obtain ⟨B2, m2, k2, e2, l2, u2⟩ := D2
    rw [ulen] at u2
    have lnl : line.length = n := by rw [pm.length_eq, ulen]
    have LN : Line n line := ⟨pm.nodup_iff.mpr (upto_nodup _ _), fun x hx => by
      obtain ⟨h1, h2⟩ := upto_mem (pm.mem_iff.mp hx)
      omega⟩
    have B02 : But d H H2 := (But.same s1).trans B2
    refine ⟨_, rfl, by decide, by decide, fun Dl hDl => lc_it (walk_range (lo := 0) (n := (3 : Int).toNat)) (fun t H' => ∃ fs r, Refs H' Dl fs ∧ Paired (FamX H' Dl) fs r ∧ r.length = t ∧ (∀ g ∈ r, Valid n g) ∧ But d H2 H' ∧
              ∃ n k, H' d = some (DrO n k c) ∧ k2 ≤ k ∧ k ≤ k2 + 100 * (t : Int)) ?_ (fun _ _ _ _ => True.intro) ?_ ?_⟩
    · exact ⟨[], [], upd_same, .nil, rfl, fun g hg => (by cases hg), But.same (same_upd hDl), m2, k2, (upd_ne (ne_of_none e2 hDl)).trans e2, by omega, by omega⟩
    · rintro t v H4 H5 ht ⟨fs, r, hRf, hp, hrl, hv, B4, m4, k4, e4, l4, u4⟩ ⟨rfl, rfl⟩
      have t3 : t < 3 := ht
      refine ⟨rfl, tyes ?_⟩
      refine ⟨_, rfl, _, rfl, d, ln, line, m4, k4, c, rfl, hln.but e2 B4, by omega, by omega, LN.nd, e4, by omega, by omega, fun H6 p g D6 hp0 hg hsub hnd hgl => ?_⟩
      obtain ⟨B6, m6, k6, e6, l6, u6⟩ := D6
      have nDd : Dl ≠ d := (ne_of_none e2 hDl).symm
      have RDl : Refs H6 Dl fs := B6 _ _ nDd hRf
      have lg : Valid n g := ⟨hnd, fun x hx => by
        obtain ⟨c', hc', hx'⟩ := List.mem_flatten.mp hx
        exact LN.rg x ((hsub c' hc').mem hx')⟩
      refine ⟨_, RDl, ?_, fs ++ [p], r ++ [g], refs_snoc, ?_, by rw [List.length_append, hrl]; rfl, fun g' hg' => ?_, (B4.trans B6).own hDl, m6, k6, (upd_ne nDd.symm).trans e6, by omega, by push_cast; omega⟩
      · rw [List.length_map, hp.length, hrl, sizeLine_eq]
        omega
      · refine Paired.snoc (fams_off (Paired.mapP hp fun _ _ z => z.but e4 B6)) (FamX.off (hg.off hp0 ?_))
        rw [hRf]
        exact fun z => nomatch z
      · rcases List.mem_append.mp hg' with h | h
        · exact hv g' h
        · rw [List.mem_singleton.mp h]
          exact lg
    · rintro H4 ⟨fs, lots, hRf, hp, hrl, hv, B4, m4, k4, e4, l4, u4⟩
      have l3 : lots.length = 3 := hrl
      have u4' : k4 ≤ k2 + 300 := by
        have e : (((3 : Int).toNat : Nat) : Int) = 3 := rfl
        rw [e] at u4
        omega
      have ln4 := hln.but e2 B4
      have pf4 : Paired (Fam H4) fs lots := Paired.mapP hp fun _ _ z => z.fam
      have B04 : But d H H4 := B02.trans B4
      -- at
      refine ⟨_, rfl, d, m4, k4, c, rfl, e4, by omega, by omega, fun r5 m5 hr5 => .inl ⟨_, rfl, ?_⟩⟩
      have B5 : But d H4 (upd H4 d (DrO m5 (k4 + 1) c)) := But.upd
      have e5 : upd H4 d (DrO m5 (k4 + 1) c) d = some (DrO m5 (k4 + 1) c) := upd_same
      generalize upd H4 d (DrO m5 (k4 + 1) c) = H5 at B5 e5 ⊢
      have n1p : (0 : Int) < (n : Int) - 1 := by omega
      refine ⟨_, rfl, _, _, rfl, rfl, _, _, rfl, rfl, n1p, ?_⟩
      have a0 : 0 ≤ r5 % ((n : Int) - 1) := Int.emod_nonneg _ (by omega)
      have a1 : r5 % ((n : Int) - 1) < (n : Int) - 1 := Int.emod_lt_of_pos _ n1p
      obtain ⟨at_, hat⟩ : ∃ at_ : Nat, r5 % ((n : Int) - 1) = (at_ : Int) := ⟨(r5 % ((n : Int) - 1)).toNat, by omega⟩
      -- far
      refine ⟨_, rfl, _, _, rfl, rfl, _, rfl, d, m5, k4 + 1, c, rfl, e5, by omega, by omega, fun r6 m6 hr6 => .inl ⟨_, rfl, ?_⟩⟩
      have B6 : But d H4 (upd H5 d (DrO m6 (k4 + 1 + 1) c)) := B5.draw
      have e6 : upd H5 d (DrO m6 (k4 + 1 + 1) c) d = some (DrO m6 (k4 + 1 + 1) c) := upd_same
      generalize upd H5 d (DrO m6 (k4 + 1 + 1) c) = H6 at B6 e6 ⊢
      have n2p : (0 : Int) < (n : Int) - 1 - r5 % ((n : Int) - 1) := by omega
      refine ⟨_, rfl, _, _, rfl, rfl, _, rfl, _, _, rfl, rfl, _, _, rfl, rfl, n2p, _, _, rfl, rfl, ?_⟩
      have b0 : 0 ≤ r6 % ((n : Int) - 1 - r5 % ((n : Int) - 1)) := Int.emod_nonneg _ (by omega)
      have b1 : r6 % ((n : Int) - 1 - r5 % ((n : Int) - 1)) < (n : Int) - 1 - r5 % ((n : Int) - 1) := Int.emod_lt_of_pos _ n2p
      obtain ⟨far, hfar⟩ : ∃ far : Nat, r5 % ((n : Int) - 1) + 1 + r6 % ((n : Int) - 1 - r5 % ((n : Int) - 1)) = (far : Int) := ⟨(r5 % ((n : Int) - 1) + 1 + r6 % ((n : Int) - 1 - r5 % ((n : Int) - 1))).toNat, by omega⟩
      have af : at_ < far := by omega
      have fn : far < n := by omega
      have ln6 := ln4.but e4 B6
      have rf6 : Refs H6 Dl fs := hRf.but e4 B6
      have pf6 : Paired (Fam H6) fs lots := Paired.mapP pf4 fun _ _ z => z.but e4 B6
      -- lots, two more
      obtain ⟨p, hp_⟩ : ∃ p, line[at_]? = some p := ⟨_, List.getElem?_eq_getElem (by omega)⟩
      obtain ⟨x, hx_⟩ : ∃ x, line[far]? = some x := ⟨_, List.getElem?_eq_getElem (by omega)⟩
      have pr := LN.rg p (List.mem_of_getElem? hp_)
      have xr := LN.rg x (List.mem_of_getElem? hx_)
      have px : p ≠ x := fun z => by
        obtain ⟨ha, ea⟩ := List.getElem?_eq_some_iff.mp hp_
        obtain ⟨hb, eb⟩ := List.getElem?_eq_some_iff.mp hx_
        have := (List.getElem_inj LN.nd).mp (ea.trans (z.trans eb.symm))
        omega
      obtain ⟨S, hS⟩ : ∃ S, S = (line.drop at_).take (far + 1 - at_) := ⟨_, rfl⟩
      have Ssub : S.Sublist line := by rw [hS]; exact (List.take_sublist _ _).trans (List.drop_sublist _ _)
      have ec : cutV (line.map V.int) (some (r5 % ((n : Int) - 1))) (some (r5 % ((n : Int) - 1) + 1 + r6 % ((n : Int) - 1 - r5 % ((n : Int) - 1)) + 1)) = S.map V.int := by
        rw [hfar, hat]
        have z := cut_between line at_ (far + 1) (by omega)
        have mn : min at_ line.length = at_ := by omega
        rw [mn, ← hS] at z
        exact z
      refine ⟨_, rfl, _, rfl, _, rfl, r5 % ((n : Int) - 1), rfl, _, rfl, _, _, rfl, rfl, r5 % ((n : Int) - 1) + 1 + r6 % ((n : Int) - 1 - r5 % ((n : Int) - 1)) + 1, rfl, ln, _, rfl, SqL.of ln6, fun pS hpS => ?_⟩
      rw [ec]
      obtain ⟨H7, f7, s7, lS⟩ := disp_li hpS S
      rw [f7]
      refine ⟨by show 1 ≤ sizeLine; decide, fun pA hpA => ?_⟩
      obtain ⟨H8, f8, s8, lA⟩ := disp_refs hpA [pS]
      have f8' : upd H7 pA (.lst [V.ref pS]) = H8 := f8
      rw [f8']
      have s78 := s7.trans s8
      refine ⟨_, rfl, _, rfl, ln, line.map V.int, r5 % ((n : Int) - 1) + 1 + r6 % ((n : Int) - 1 - r5 % ((n : Int) - 1)), V.int x, rfl, rfl, SqL.of (ln6.same s78), (by rw [hfar]; exact atI_nat (get_map hx_)), ?_⟩
      refine ⟨_, rfl, _, rfl, ln, line.map V.int, r5 % ((n : Int) - 1), V.int p, rfl, rfl, SqL.of (ln6.same s78), (by rw [hat]; exact atI_nat (get_map hp_)), ?_⟩
      refine ⟨by show 2 ≤ sizeLine; decide, fun pB hpB => ?_⟩
      obtain ⟨H9, f9, s9, lB⟩ := disp_li hpB [x, p]
      have f9' : upd H8 pB (.lst [V.int x, V.int p]) = H9 := f9
      rw [f9']
      refine ⟨by show 1 ≤ sizeLine; decide, fun pC hpC => ?_⟩
      obtain ⟨H10, f10, s10, lC⟩ := disp_refs hpC [pB]
      have f10' : upd H9 pC (.lst [V.ref pB]) = H10 := f10
      rw [f10']
      refine ⟨by show 2 ≤ sizeLine; decide, fun pD hpD => ?_⟩
      obtain ⟨H11, f11, s11, lD⟩ := disp_refs hpD [pA, pC]
      have f11' : upd H10 pD (.lst [V.ref pA, V.ref pC]) = H11 := f11
      rw [f11']
      have s6_11 := (((s78.trans s9).trans s10).trans s11)
      have fsl : fs.length = 3 := by rw [hp.length, l3]
      refine ⟨Dl, pD, _, _, rfl, rfl, rf6.same s6_11, lD, by rw [List.length_map, List.length_map, sizeLine_eq, fsl]; show 3 + 2 ≤ 16777216; decide, fun pE hpE => ?_⟩
      have em : fs.map V.ref ++ [pA, pC].map V.ref = (fs ++ [pA, pC]).map V.ref := (List.map_append ..).symm
      rw [em]
      obtain ⟨H12, f12, s12, lE⟩ := disp_refs hpE (fs ++ [pA, pC])
      rw [f12]
      have s6_12 := s6_11.trans s12
      have famA : Fam H12 pA [S] := ⟨[pS], ((((lA.same s9).same s10).same s11).same s12), .cons (((((lS.same s8).same s9).same s10).same s11).same s12) .nil⟩
      have famC : Fam H12 pC [[x, p]] := ⟨[pB], ((lC.same s11).same s12), .cons (((lB.same s10).same s11).same s12) .nil⟩
      have row12 : RowA H12 pE (lots ++ [[S], [[x, p]]]) := ⟨fs ++ [pA, pC], lE, paired_two (Paired.mapP pf6 fun _ _ z => z.same s6_12) famA famC⟩
      have e12 := s6_12 _ _ e6
      have vS : Valid n [S] := ⟨by simpa using LN.nd.sublist Ssub, fun y hy => LN.rg y (Ssub.mem (by simpa using hy))⟩
      have vB : Valid n [[x, p]] := ⟨by simpa using fun z : x = p => px z.symm, fun y hy => by
        have : y = x ∨ y = p := by simpa using hy
        rcases this with rfl | rfl
        · exact xr
        · exact pr⟩
      have vall : ∀ g ∈ lots ++ [[S], [[x, p]]], Valid n g := mem_two hv vS vB
      have ll : (lots ++ [[S], [[x, p]]]).length = 5 := by rw [List.length_append, l3]; rfl
      have psub : ([p, x] : List Int).Sublist S := by
        refine pair_sub (i := 0) (j := far - at_) ?_ ?_ (by omega)
        · rw [hS, List.getElem?_take, if_pos (by omega), List.getElem?_drop]
          exact hp_
        · rw [hS, List.getElem?_take, if_pos (by omega), List.getElem?_drop]
          have z : at_ + (far - at_) = far := by omega
          rw [z]
          exact hx_
      have never : ∀ cur : List Int, cur.length = n → Inj cur → ¬ ((lots ++ [[S], [[x, p]]]).filter (fun g => !isSorted cur g) = []) := fun cur hl hi z => by
        have h1 := List.filter_eq_nil_iff.mp z [S] (by simp)
        have h2 := List.filter_eq_nil_iff.mp z [[x, p]] (by simp)
        rcases ring_open (f := [S]) (g := [[x, p]]) hi pr.1 (by rw [hl]; exact pr.2) xr.1 (by rw [hl]; exact xr.2) px ⟨S, by simp, psub⟩ (by simp) with h | h
        · rw [h] at h1
          exact h1 rfl
        · rw [h] at h2
          exact h2 rfl
      -- load
      refine ⟨_, rfl, _, rfl, _, _, rfl, rfl, _, _, rfl, rfl, RgOk.of_le (by decide) (by omega) (by decide) (by omega), fun lm hlm => ?_⟩
      rw [rgV_upto]
      obtain ⟨H13, f13, s13, l13⟩ := disp_li hlm (upto 1 ((n : Int) + 1))
      rw [f13]
      have e13 := s13 _ _ e12
      refine ⟨d, lm, _, m6, k4 + 1 + 1, c, rfl, l13, by omega, e13, by omega, by omega, fun H14 lo ld D14 hlo0 hloL pm14 => ?_⟩
      obtain ⟨B14, m14, k14, e14, l14, u14⟩ := D14
      rw [ulen] at u14
      have ldl : ld.length = n := by rw [pm14.length_eq, ulen]
      have ldi : Inj ld := inj_of_nodup (pm14.nodup_iff.mpr (upto_nodup _ _))
      have row14 := (row12.same s13).but e13 B14
      have B014 : But d H H14 := ((B04.trans B6).trans (But.same (s6_12.trans s13))).trans B14
      -- the turns
      refine ⟨_, rfl, by decide, by decide, for_it (walk_range (lo := 0) (n := (12 : Int).toNat)) (fun t σ H' => ∃ la cur y3 y5 y8, σ = [some (.ref d), some (.int n), some (.ref ln), y3, some (.ref pE), y5, some (.int (r5 % ((n : Int) - 1) + 1 + r6 % ((n : Int) - 1 - r5 % ((n : Int) - 1)))), some (.ref la), y8] ∧
          LI H' la cur ∧ cur.length = n ∧ Inj cur ∧ DrAt H14 H' d c k14 (k14 + 5 * (t : Int))) ⟨lo, ld, _, _, _, rfl, hloL, ldl, ldi, (DrAt.start e14).mono (by omega) (by omega)⟩ (fun _ _ _ _ _ => True.intro) ?_ ?_⟩
      · rintro t v σ Ha Hb ht ⟨la, cur, y3, y5, y8, rfl, hL, hcl, hci, Da⟩ ⟨rfl, rfl⟩
        have t12 : t < 12 := ht
        obtain ⟨Ba, ma, ka, ea, lka, uka⟩ := Da
        have rowa := row14.but e14 Ba
        obtain ⟨as, hb, hpp⟩ := id rowa
        have asl : as.length = 5 := by rw [hpp.length, ll]
        refine ⟨_, rfl, _, rfl, pE, _, rfl, .inl (SqL.of hb), _, rfl, RgOk.of_le (by decide) (by rw [List.length_map]; omega) (by decide) (by rw [List.length_map]; omega), fun pl hpl => ?_⟩
        rw [rgV_upto, List.length_map, asl]
        obtain ⟨Hc, fc, sc, lc⟩ := disp_li hpl (upto 0 ((5 : Nat) : Int))
        rw [fc]
        have e_c := sc _ _ ea
        have ul : (upto 0 ((5 : Nat) : Int)).length = 5 := by rw [upto_len]; rfl
        refine ⟨d, pl, upto 0 ((5 : Nat) : Int), ma, ka, c, rfl, lc, by omega, e_c, by omega, by omega, fun Hd pa ps Dd hpa hps pmd => ?_⟩
        obtain ⟨Bd, md, kd, ed, lkd, ukd⟩ := Dd
        rw [ul] at ukd
        have rowd := (rowa.same sc).but e_c Bd
        refine ⟨pa, rfl, ⟨_, SqL.of hps⟩, for_it (walk_list (xs := ps.map V.int)) (fun j σ H' => ∃ la' cur' y5 y8, σ = [some (.ref d), some (.int n), some (.ref ln), some (.int ((0 : Int) + (t : Nat))), some (.ref pE), y5, some (.int (r5 % ((n : Int) - 1) + 1 + r6 % ((n : Int) - 1 - r5 % ((n : Int) - 1)))), some (.ref la'), y8] ∧
          LI H' la' cur' ∧ cur'.length = n ∧ Inj cur' ∧ Same Hd H') ⟨la, cur, _, _, rfl, (hL.same sc).but e_c Bd, hcl, hci, Same.refl _⟩ (fun j σ H' _ ⟨_, _, _, _, _, _, _, _, h⟩ => SqL.of (hps.same h)) ?_ ?_⟩
        · rintro j v σ He Hf hj ⟨la', cur', y5', y8', rfl, hLe, hcle, hcie, se⟩ ⟨rfl, ev⟩
          obtain ⟨y, hyj, rfl⟩ := map_get ev
          have ym := pmd.mem_iff.mp (List.mem_of_getElem? hyj)
          obtain ⟨y0, yl⟩ := upto_mem ym
          obtain ⟨ad, hbd, hpd⟩ := id (rowd.same se)
          have adl : ad.length = 5 := by rw [hpd.length, ll]
          obtain ⟨fa, hfa⟩ : ∃ z, ad[y.toNat]? = some z := ⟨_, List.getElem?_eq_getElem (by omega)⟩
          obtain ⟨g, hg, hF⟩ := pget hpd hfa
          have vg := vall g (List.mem_of_getElem? hg)
          refine ⟨_, rfl, _, rfl, _, rfl, pE, _, y, _, rfl, rfl, SqL.of hbd, atI_of y0 (get_map hfa), la', fa, cur', g, rfl, hLe, hF, by rw [hcle]; exact vg, by omega, by omega, fun Hg pg sg hpg hLg => ?_⟩
          have vall' : ∀ z ∈ lots ++ [[S], [[x, p]]], Valid (sortAlong cur' g).length z := fun z hz => by rw [sortAlong_len, hcle]; exact vall z hz
          have lg' : (sortAlong cur' g).length = n := by rw [sortAlong_len, hcle]
          have ig : Inj (sortAlong cur' g) := inj_sort (by rw [hcle]; exact vg) hcie
          refine unsorted_test (i := 4) (j := 8) (il := 7) (b := pE) (la := pg) (lots := lots ++ [[S], [[x, p]]]) (load := sortAlong cur' g) (by rfl) (by intro _; rfl) (by intro _; rfl) (by intro _; rfl) ((rowd.same se).same sg) hLg vall' (by omega) (by omega) (by omega) fun Hh sh => ?_
          rw [decide_eq_false (never _ lg' ig)]
          refine iteF ?_
          exact ⟨pg, _, _, _, rfl, hLg.same sh, lg', ig, (se.trans sg).trans sh⟩
        · rintro σ He ⟨la', cur', y5', y8', rfl, hLe, hcle, hcie, se⟩
          exact ⟨la', cur', _, _, _, rfl, hLe, hcle, hcie, (Ba.trans (But.same sc)).trans (Bd.trans (But.same se)), md, kd, se _ _ ed, by omega, by push_cast; omega⟩
      · rintro σ Ha ⟨la, cur, y3, y5, y8, rfl, hL, hcl, hci, Da⟩
        obtain ⟨Ba, ma, ka, ea, lka, uka⟩ := Da
        have uka' : ka ≤ k14 + 60 := by
          have e : (((12 : Int).toNat : Nat) : Int) = 12 := rfl
          rw [e] at uka
          omega
        exact q Ha ⟨B014.trans Ba, ma, ka, ea, by omega, by omega⟩
end
end K22

set_option Elab.async false
set_option linter.all false
set_option maxRecDepth 100000
set_option maxHeartbeats 8000000
namespace Kt
open PySem L2 PyProof.Rows
theorem pair_app {α β : Type} {R : α → β → Prop} {as : List α} {r : List β} {bs : List α} {q : List β} (p : Paired R as r) (h : Paired R bs q) : Paired R (as ++ bs) (r ++ q) := by
  induction p with
  | nil => exact h
  | cons a _ ih => exact .cons a ih
theorem mem_rep2 {α : Type} {l : List α} {x : α} (h : x ∈ l ++ l) : x ∈ l := by
  rcases List.mem_append.mp h with h | h <;> exact h
theorem mem_rep3 {α : Type} {l : List α} {x : α} (h : x ∈ l ++ l ++ l) : x ∈ l := by
  rcases List.mem_append.mp h with h | h
  · exact mem_rep2 h
  · exact h
theorem one_pair (a b c d : Int) : sortAlong [a, b, c, d] [[1, 2]] = (if a ≤ b then [a, b, c, d] else [b, a, c, d]) ∧ sortAlong [a, b, c, d] [[2, 3]] = (if b ≤ c then [a, b, c, d] else [a, c, b, d]) ∧ sortAlong [a, b, c, d] [[3, 4]] = (if c ≤ d then [a, b, c, d] else [a, b, d, c]) := by
  have e1 : sortAlong [a, b, c, d] [[1, 2]] = put [a, b, c, d] [1, 2] (srt [a, b]) := rfl
  have e2 : sortAlong [a, b, c, d] [[2, 3]] = put [a, b, c, d] [2, 3] (srt [b, c]) := rfl
  have e3 : sortAlong [a, b, c, d] [[3, 4]] = put [a, b, c, d] [3, 4] (srt [c, d]) := rfl
  rw [e1, e2, e3, srt2, srt2, srt2]
  refine ⟨?_, ?_, ?_⟩
  · split <;> rfl
  · split <;> rfl
  · split <;> rfl
theorem rowq2 : afterRow [4, 3, 2, 1] ([[[1, 2]], [[2, 3]], [[3, 4]]] ++ [[[1, 2]], [[2, 3]], [[3, 4]]]) = [2, 1, 3, 4] := by
  show sortAlong (sortAlong (sortAlong (sortAlong (sortAlong (sortAlong [4, 3, 2, 1] [[1, 2]]) [[2, 3]]) [[3, 4]]) [[1, 2]]) [[2, 3]]) [[3, 4]] = _
  simp [one_pair]
theorem rowq3 : afterRow [4, 3, 2, 1] ([[[1, 2]], [[2, 3]], [[3, 4]]] ++ [[[1, 2]], [[2, 3]], [[3, 4]]] ++ [[[1, 2]], [[2, 3]], [[3, 4]]]) = [1, 2, 3, 4] := by
  show sortAlong (sortAlong (sortAlong (sortAlong (sortAlong (sortAlong (sortAlong (sortAlong (sortAlong [4, 3, 2, 1] [[1, 2]]) [[2, 3]]) [[3, 4]]) [[1, 2]]) [[2, 3]]) [[3, 4]]) [[1, 2]]) [[2, 3]]) [[3, 4]] = _
  simp [one_pair]
end Kt
namespace K22
open PySem L2 Kt PyProof.Rows
section
variable {P : Program} {w : World} {K : PySem.W.Frag} {mg : Str → Option Value} {base : Heap}
def spLaw (K : PySem.W.Frag) : Sp := fun vs H Q _ => ∃ (a : Addr) (ns : List Int), vs = [.ref a] ∧ SqL K H a (ns.map V.int) ∧ ns.length ≤ 63 ∧ ∀ H', Q (.bl true) H'
theorem scLaw : FnScope ["script", "draws", "most", "pairs", "cell"] ["script"] (defScope sLaw) := ⟨rfl, rfl, rfl, by decide +kernel, rfl, by decide +kernel, by decide +kernel⟩
theorem ok_law {f c1 c2 c3 c4 c5 c6 : Addr} {fd d1 d2 d3 d4 d5 d6 : FuncData} (F : Fun K "law" "law" sLaw f fd) (N : Nb mg)
    (A1 : At P w K mg base 1 "_law_draws" ["cell"] spLDraws c1 d1) (A2 : At P w K mg base 1 "_law_next" ["draws"] spLNext c2 d2) (A3 : AtG P w K mg base 7 "_law_right" ["draws", "many"] spRight c3 d3) (A4 : At P w K mg base 6 "_law_ring_right" ["draws", "many"] spRing c4 d4)
    (A5 : At P w K mg base 6 "_law_rests" ["draws", "load", "lots"] spLRests c5 d5) (A6 : At P w K mg base 5 "after_row" ["filling", "row"] spAfter c6 d6) : FnG P w K mg base 8 f fd ["script"] (spLaw K) := by
  refine fnG_of F scLaw (fun vs H Q h => ?_) (fun cdv A outer s H vs Q hr gu h => ?_)
  · obtain ⟨a, ns, rfl, _⟩ := h
    rfl
  · obtain ⟨a, ns, rfl, hS, hlen, k⟩ := h
    have hr1 : Room 1 _ := hr.mono (by decide)
    have hr5 : Room 5 _ := hr.mono (by decide)
    have hr6 : Room 6 _ := hr.mono (by decide)
    refine ⟨_, pss_cons (ps_for PassesOwn.never rfl (pi_list (pe_lc (own := [("cell", 4)]) (g := gName 4) (tt := tYes) rfl scLaw.nd (pi_list (pe_op op_cat (pe_slice sl_list (pv 0) po_none (po_some pe_int)) (pe_lst (pa_cons pe_int pa_nil))))
          (blkOk_by (N := ["script", "draws", "most", "pairs", "cell"]) (sc := defScope sLaw) (by decide +kernel)) (fun _ _ _ _ _ => pg_name (i := 4) scLaw.nd rfl (Or.inl rfl)) (fun _ _ _ _ _ => pts_nil)
          (fun _ _ _ _ _ => pe_call A1.ok hr1 (by rfl) A1.at_ A1.kp A1.bd .nil pass0 (pa_cons (pv 4) pa_nil)))) (pg_name (i := 1) scLaw.nd rfl (.inl rfl))
        (pss_one (ps_for PassesOwn.never rfl (pi_list (pe_lst (pa_cons pe_int (pa_cons pe_int pa_nil)))) (pg_name (i := 2) scLaw.nd rfl (.inl rfl))
          (pss_cons (ps_if (pt_not (pt_val (pe_callG A3.ok hr gu (by rfl) A3.at_ A3.kp A3.bd (pa_cons (pv 1) (pa_cons (pe_op op_add pe_int (pe_op op_mod (pe_callTy call_int1 (by rfl) N.int (by decide +kernel) (pa_cons (pe_call A2.ok hr1 (by rfl) A2.at_ A2.kp A2.bd .nil pass0 (pa_cons (pv 1) pa_nil)) pa_nil)) (pv 2))) pa_nil))))) (pss_one (ps_ret pe_bl)) pss_nil)
          (pss_one (ps_if (pt_not (pt_val (pe_call A4.ok hr6 (by rfl) A4.at_ A4.kp A4.bd .nil pass0 (pa_cons (pv 1) (pa_cons (pe_op op_add pe_int (pe_op op_mod (pe_callTy call_int1 (by rfl) N.int (by decide +kernel) (pa_cons (pe_call A2.ok hr1 (by rfl) A2.at_ A2.kp A2.bd .nil pass0 (pa_cons (pv 1) pa_nil)) pa_nil)) (pe_op op_sub (pv 2) pe_int))) pa_nil))))) (pss_one (ps_ret pe_bl)) pss_nil))))))
      (pss_cons (ps_set (i := 3) scLaw.nd rfl (.inl rfl) (pe_lst (pa_cons (pe_lst (pa_cons (pe_lst (pa_cons pe_int (pa_cons pe_int pa_nil))) pa_nil)) (pa_cons (pe_lst (pa_cons (pe_lst (pa_cons pe_int (pa_cons pe_int pa_nil))) pa_nil)) (pa_cons (pe_lst (pa_cons (pe_lst (pa_cons pe_int (pa_cons pe_int pa_nil))) pa_nil)) pa_nil)))))
      (pss_cons (ps_if (PW.pt (pw_or (pt_not (pt_val (pe_call A5.ok hr6 (by rfl) A5.at_ A5.kp A5.bd .nil pass0 (pa_cons (pe_call A1.ok hr1 (by rfl) A1.at_ A1.kp A1.bd .nil pass0 (pa_cons pe_int pa_nil)) (pa_cons (pe_lst (pa_cons pe_int (pa_cons pe_int (pa_cons pe_int (pa_cons pe_int pa_nil))))) (pa_cons (pv 3) pa_nil))))))
          (pw_or1 (pt_not (pt_val (pe_call A5.ok hr6 (by rfl) A5.at_ A5.kp A5.bd .nil pass0 (pa_cons (pe_call A1.ok hr1 (by rfl) A1.at_ A1.kp A1.bd .nil pass0 (pa_cons pe_int pa_nil)) (pa_cons (pe_lst (pa_cons pe_int pa_nil)) (pa_cons (pe_lst (pa_cons (pe_lst pa_nil) pa_nil)) pa_nil))))))))) (pss_one (ps_ret pe_bl)) pss_nil)
      (pss_one (ps_ret (pe_and (pe_cmpR (op_eqD hr.units) (pe_call A6.ok hr5 (by rfl) A6.at_ A6.kp A6.bd .nil pass0 (pa_cons (pe_lst (pa_cons pe_int (pa_cons pe_int (pa_cons pe_int (pa_cons pe_int pa_nil))))) (pa_cons (pe_op op_rep (pv 3) pe_int) pa_nil))) (pe_lst (pa_cons pe_int (pa_cons pe_int (pa_cons pe_int (pa_cons pe_int pa_nil))))) (nomark _))
        (pe_one (pe_cmpR (op_eqD hr.units) (pe_call A6.ok hr5 (by rfl) A6.at_ A6.kp A6.bd .nil pass0 (pa_cons (pe_lst (pa_cons pe_int (pa_cons pe_int (pa_cons pe_int (pa_cons pe_int pa_nil))))) (pa_cons (pe_op op_rep (pv 3) pe_int) pa_nil))) (pe_lst (pa_cons pe_int (pa_cons pe_int (pa_cons pe_int (pa_cons pe_int pa_nil))))) (nomark _)))))))), ?_⟩
    have cut5 : cutV (ns.map V.int) none (some 5) = (ns.take 5).map V.int := by
      rw [List.map_take]
      exact cut_take (ns.map V.int) 5
    refine ⟨_, rfl, _, rfl, a, _, rfl, hS, fun p1 hp1 => ?_⟩
    rw [cut5]
    obtain ⟨H1, e1, s1, l1⟩ := disp_li hp1 (ns.take 5)
    rw [e1]
    refine ⟨by show 1 ≤ sizeLine; decide, fun p2 hp2 => ?_⟩
    obtain ⟨H2, e2, s2, l2⟩ := disp_li hp2 [0]
    have e2' : upd H1 p2 (.lst [V.int 0]) = H2 := e2
    rw [e2']
    refine ⟨p1, p2, _, _, rfl, rfl, l1.same s2, l2, by rw [List.length_map, List.length_take, sizeLine_eq]; simp; omega, fun p3 hp3 => ?_⟩
    obtain ⟨H3, e3, s3, l3⟩ := disp_li hp3 (ns.take 5 ++ [0])
    have em : (ns.take 5).map V.int ++ [0].map V.int = (ns.take 5 ++ [0]).map V.int := (List.map_append ..).symm
    rw [em, e3]
    have l7 : (ns.take 5 ++ [0]).length ≤ 7 := by
      rw [List.length_append, List.length_take]
      simp
      omega
    refine ⟨p3, rfl, ⟨_, SqL.of l3⟩, fun D hD => lc_it (walk_list (xs := (ns.take 5 ++ [0]).map V.int)) (fun i H' => ∃ as, Refs H' D as ∧ as.length = i ∧ (∀ x ∈ as, x ≠ D) ∧ Dws H' as 0 ∧ LI H' p3 (ns.take 5 ++ [0])) ?_ (fun i H' _ q => by
      obtain ⟨as, _, _, _, _, h⟩ := q
      exact SqL.of h) ?_ ?_⟩
    · exact ⟨[], upd_same, rfl, fun x hx => (by cases hx), fun x hx => (by cases hx), (upd_ne (ne_of_none l3 hD)).trans l3⟩
    · rintro i v H4 H5 hi ⟨as, hR, hl, hne, hdw, hl3⟩ ⟨rfl, ev⟩
      obtain ⟨cv, hcv, rfl⟩ := map_get ev
      refine ⟨rfl, tyes ?_⟩
      refine ⟨_, rfl, cv, rfl, fun p n b hp => ?_⟩
      have sp := same_upd (o := DrO n 0 b) hp
      have nDp : D ≠ p := ne_of_none hR hp
      have n3p : p3 ≠ p := ne_of_none hl3 hp
      have i7 : i < 7 := by
        rw [List.length_map] at hi
        omega
      refine ⟨_, (upd_ne nDp).trans hR, by rw [List.length_map, hl, sizeLine_eq]; omega, as ++ [p], refs_snoc, by rw [List.length_append, hl]; rfl, fun x hx => ?_, fun x hx => ?_, ?_⟩
      · rcases List.mem_append.mp hx with h | h
        · exact hne x h
        · rw [List.mem_singleton.mp h]
          exact nDp.symm
      · rcases List.mem_append.mp hx with h | h
        · obtain ⟨n', k', c', e', h1, h2⟩ := hdw x h
          exact ⟨n', k', c', (upd_ne (hne x h)).trans (sp _ _ e'), h1, h2⟩
        · rw [List.mem_singleton.mp h]
          exact ⟨n, 0, b, (upd_ne nDp.symm).trans upd_same, by decide, by decide⟩
      · have n3D : p3 ≠ D := fun z => by
          have e := refs_li hR (z ▸ hl3)
          have := congrArg List.length e.2
          rw [List.length_append] at this
          simp at this
        exact (upd_ne n3D).trans ((upd_ne n3p).trans hl3)
    · rintro H4 ⟨as, hR, hl, hne, hdw, hl3⟩
      rw [List.length_map] at hl
      refine ⟨D, rfl, ⟨_, SqL.of hR⟩, for_it walk_list (fun i σ H' => (∃ x1 x2 x3 x4, σ = [some (.ref a), x1, x2, x3, x4]) ∧ Refs H' D as ∧ Dws H' as (700000 * (i : Int))) ⟨⟨_, _, _, _, rfl⟩, hR, hdw.mono (by omega)⟩ (fun i σ H' _ q => SqL.of q.2.1) ?_ ?_⟩
      · rintro i v σ H5 H6 hi ⟨⟨x1, x2, x3, x4, rfl⟩, hR5, hd5⟩ ⟨rfl, ev⟩
        obtain ⟨d, hda, rfl⟩ := map_get ev
        have hdm : d ∈ as := List.mem_of_getElem? hda
        have i7 : (i : Int) < 7 := by
          have := (List.getElem?_eq_some_iff.mp hda).1
          omega
        refine ⟨by show 2 ≤ sizeLine; decide, fun lm hlm => ?_⟩
        obtain ⟨H7, e7, s7, l7m⟩ := disp_li hlm [30, 6]
        have e7' : upd H6 lm (.lst [V.int 30, V.int 6]) = H7 := e7
        rw [e7']
        refine ⟨lm, rfl, ⟨_, SqL.of l7m⟩, for_it (walk_list (xs := [V.int 30, V.int 6])) (fun j σ H' => (∃ x2 x3 x4, σ = [some (.ref a), some (.ref d), x2, x3, x4]) ∧ Refs H' D as ∧ LI H' lm [30, 6] ∧ Dws H' as (700000 * (i : Int) + 320000 * (j : Int)))
          ⟨⟨_, _, _, rfl⟩, hR5.same s7, l7m, (hd5.same s7).mono (by omega)⟩ (fun j σ H' _ q => SqL.of q.2.2.1) ?_ ?_⟩
        · rintro j v σ H8 H9 hj ⟨⟨x2, x3, x4, rfl⟩, hR8, lm8, hd8⟩ ⟨rfl, ev⟩
          have j2 : (j : Int) < 2 := by
            have h2 : ([V.int 30, V.int 6] : List V).length = 2 := rfl
            omega
          obtain ⟨mo, hmo, mo2⟩ : ∃ mo : Int, v = V.int mo ∧ (mo = 30 ∨ mo = 6) := by
            have e : ([V.int 30, V.int 6] : List V) = [30, 6].map V.int := rfl
            rw [e] at ev
            obtain ⟨x, hx, rfl⟩ := map_get ev
            have := List.mem_of_getElem? hx
            simp at this
            exact ⟨x, rfl, this⟩
          subst hmo
          obtain ⟨n9, k9, c, e9, k90, k9b⟩ := hd8 d hdm
          have mo0 : 0 < mo := by omega
          refine ⟨_, rfl, _, rfl, d, n9, k9, c, rfl, e9, k90, by omega, fun r1 n10 hr1 => .inl ⟨_, rfl, ?_⟩⟩
          have Ba : But d H9 (upd H9 d (DrO n10 (k9 + 1) c)) := But.upd
          have ea : upd H9 d (DrO n10 (k9 + 1) c) d = some (DrO n10 (k9 + 1) c) := upd_same
          generalize upd H9 d (DrO n10 (k9 + 1) c) = Ha at Ba ea ⊢
          refine ⟨_, rfl, _, _, rfl, rfl, mo0, _, _, rfl, rfl, ?_⟩
          have b0 : 0 ≤ r1 % mo := Int.emod_nonneg _ (by omega)
          have b1 : r1 % mo < mo := Int.emod_lt_of_pos _ mo0
          obtain ⟨m, hm⟩ : ∃ m : Nat, 1 + r1 % mo = (m : Int) := ⟨(1 + r1 % mo).toNat, by omega⟩
          refine ⟨d, m, n10, k9 + 1, c, (by show [V.ref d, V.int (1 + r1 % mo)] = [V.ref d, V.int (m : Int)]; rw [hm]), by omega, by omega, ea, by omega, by omega, fun Hb Db => ⟨true, rfl, iteF ?_⟩⟩
          obtain ⟨Bb, n11, k11, eb, l11, u11⟩ := Db
          refine ⟨_, rfl, _, rfl, d, n11, k11, c, rfl, eb, by omega, by omega, fun r2 n12 hr2 => .inl ⟨_, rfl, ?_⟩⟩
          have Bc : But d Hb (upd Hb d (DrO n12 (k11 + 1) c)) := But.upd
          have ec : upd Hb d (DrO n12 (k11 + 1) c) d = some (DrO n12 (k11 + 1) c) := upd_same
          generalize upd Hb d (DrO n12 (k11 + 1) c) = Hc at Bc ec ⊢
          have mp : 0 < mo - 1 := by omega
          refine ⟨_, rfl, _, _, rfl, rfl, _, _, rfl, rfl, mp, _, _, rfl, rfl, ?_⟩
          have c0 : 0 ≤ r2 % (mo - 1) := Int.emod_nonneg _ (by omega)
          have c1 : r2 % (mo - 1) < mo - 1 := Int.emod_lt_of_pos _ mp
          obtain ⟨m', hm'⟩ : ∃ m : Nat, 2 + r2 % (mo - 1) = (m : Int) := ⟨(2 + r2 % (mo - 1)).toNat, by omega⟩
          refine ⟨d, m', n12, k11 + 1, c, (by show [V.ref d, V.int (2 + r2 % (mo - 1))] = [V.ref d, V.int (m' : Int)]; rw [hm']), by omega, by omega, ec, by omega, by omega, fun Hd Dd => ⟨true, rfl, iteF ?_⟩⟩
          obtain ⟨Bd, n13, k13, ed, l13, u13⟩ := Dd
          have Bz : But d H9 Hd := ((Ba.trans Bb).trans Bc).trans Bd
          have ud : k13 ≤ 700000 * (i : Int) + 320000 * ((j : Int) + 1) := by omega
          exact ⟨⟨_, _, _, rfl⟩, hR8.but e9 Bz, lm8.but e9 Bz, ((hd8.mono (by omega)).but Bz ed (by omega) ud).mono (by push_cast; omega)⟩
        · rintro σ H8 ⟨⟨x2, x3, x4, rfl⟩, hR8, lm8, hd8⟩
          refine ⟨⟨_, _, _, _, rfl⟩, hR8, hd8.mono ?_⟩
          show 700000 * (i : Int) + 320000 * ((2 : Nat) : Int) ≤ 700000 * ((i + 1 : Nat) : Int)
          push_cast
          omega
      · rintro σ H5 ⟨⟨x1, x2, x3, x4, rfl⟩, hR5, hd5⟩
        refine ⟨by show 2 ≤ sizeLine; decide, fun p1z hp1z => ?_⟩
        obtain ⟨G1, e1z, s1z, l1z⟩ := disp_li hp1z [1, 2]
        have f1z : upd H5 p1z (.lst [V.int 1, V.int 2]) = G1 := e1z
        rw [f1z]
        refine ⟨by show 1 ≤ sizeLine; decide, fun p2z hp2z => ?_⟩
        obtain ⟨G2, e2z, s2z, l2z⟩ := disp_refs hp2z [p1z]
        have f2z : upd G1 p2z (.lst [V.ref p1z]) = G2 := e2z
        rw [f2z]
        replace l1z := l1z.same s2z
        refine ⟨by show 2 ≤ sizeLine; decide, fun p3z hp3z => ?_⟩
        obtain ⟨G3, e3z, s3z, l3z⟩ := disp_li hp3z [2, 3]
        have f3z : upd G2 p3z (.lst [V.int 2, V.int 3]) = G3 := e3z
        rw [f3z]
        replace l1z := l1z.same s3z
        replace l2z := l2z.same s3z
        refine ⟨by show 1 ≤ sizeLine; decide, fun p4z hp4z => ?_⟩
        obtain ⟨G4, e4z, s4z, l4z⟩ := disp_refs hp4z [p3z]
        have f4z : upd G3 p4z (.lst [V.ref p3z]) = G4 := e4z
        rw [f4z]
        replace l1z := l1z.same s4z
        replace l2z := l2z.same s4z
        replace l3z := l3z.same s4z
        refine ⟨by show 2 ≤ sizeLine; decide, fun p5z hp5z => ?_⟩
        obtain ⟨G5, e5z, s5z, l5z⟩ := disp_li hp5z [3, 4]
        have f5z : upd G4 p5z (.lst [V.int 3, V.int 4]) = G5 := e5z
        rw [f5z]
        replace l1z := l1z.same s5z
        replace l2z := l2z.same s5z
        replace l3z := l3z.same s5z
        replace l4z := l4z.same s5z
        refine ⟨by show 1 ≤ sizeLine; decide, fun p6z hp6z => ?_⟩
        obtain ⟨G6, e6z, s6z, l6z⟩ := disp_refs hp6z [p5z]
        have f6z : upd G5 p6z (.lst [V.ref p5z]) = G6 := e6z
        rw [f6z]
        replace l1z := l1z.same s6z
        replace l2z := l2z.same s6z
        replace l3z := l3z.same s6z
        replace l4z := l4z.same s6z
        replace l5z := l5z.same s6z
        refine ⟨by show 3 ≤ sizeLine; decide, fun p7z hp7z => ?_⟩
        obtain ⟨G7, e7z, s7z, l7z⟩ := disp_refs hp7z [p2z, p4z, p6z]
        have f7z : upd G6 p7z (.lst [V.ref p2z, V.ref p4z, V.ref p6z]) = G7 := e7z
        rw [f7z]
        replace l1z := l1z.same s7z
        replace l2z := l2z.same s7z
        replace l3z := l3z.same s7z
        replace l4z := l4z.same s7z
        replace l5z := l5z.same s7z
        replace l6z := l6z.same s7z
        have rowP : RowA G7 p7z [[[1, 2]], [[2, 3]], [[3, 4]]] := ⟨[p2z, p4z, p6z], l7z, .cons ⟨_, l2z, .cons l1z .nil⟩ (.cons ⟨_, l4z, .cons l3z .nil⟩ (.cons ⟨_, l6z, .cons l5z .nil⟩ .nil))⟩
        refine ⟨0, rfl, fun d8z nn8 bb8 hd8z => ?_⟩
        have sd8 := same_upd (o := DrO nn8 0 bb8) hd8z
        have ed8 : upd G7 d8z (DrO nn8 0 bb8) d8z = some (DrO nn8 0 bb8) := upd_same
        generalize upd G7 d8z (DrO nn8 0 bb8) = G8 at sd8 ed8 ⊢
        replace rowP := rowP.same sd8
        refine ⟨by show 4 ≤ sizeLine; decide, fun p9z hp9z => ?_⟩
        obtain ⟨G9, e9z, s9z, l9z⟩ := disp_li hp9z [4, 3, 2, 1]
        have f9z : upd G8 p9z (.lst [V.int 4, V.int 3, V.int 2, V.int 1]) = G9 := e9z
        rw [f9z]
        replace rowP := rowP.same s9z
        replace ed8 := s9z _ _ ed8
        refine ⟨_, rfl, d8z, p9z, p7z, [4, 3, 2, 1], [[[1, 2]], [[2, 3]], [[3, 4]]], [1, 2, 3, 4], nn8, 0, bb8, rfl, l9z, rowP, ⟨by decide, by decide⟩, fun g hg => ?_, by decide, by decide, by decide, ed8, by decide, by decide, fun GA DA => ⟨true, rfl, iteF ?_⟩⟩
        · have e : g = [[1, 2]] ∨ g = [[2, 3]] ∨ g = [[3, 4]] := by simpa using hg
          rcases e with rfl | rfl | rfl
          · exact ⟨valid_dec (by decide) (by decide), by decide⟩
          · exact ⟨valid_dec (by decide) (by decide), by decide⟩
          · exact ⟨valid_dec (by decide) (by decide), by decide⟩
        obtain ⟨BA, mA, kA, eA, _, _⟩ := DA
        replace rowP := rowP.but ed8 BA
        refine ⟨0, rfl, fun d10z nn10 bb10 hd10z => ?_⟩
        have sd10 := same_upd (o := DrO nn10 0 bb10) hd10z
        have ed10 : upd GA d10z (DrO nn10 0 bb10) d10z = some (DrO nn10 0 bb10) := upd_same
        generalize upd GA d10z (DrO nn10 0 bb10) = G10 at sd10 ed10 ⊢
        replace rowP := rowP.same sd10
        refine ⟨by show 1 ≤ sizeLine; decide, fun p11z hp11z => ?_⟩
        obtain ⟨G11, e11z, s11z, l11z⟩ := disp_li hp11z [5]
        have f11z : upd G10 p11z (.lst [V.int 5]) = G11 := e11z
        rw [f11z]
        replace rowP := rowP.same s11z
        replace ed10 := s11z _ _ ed10
        refine ⟨by show 0 ≤ sizeLine; decide, fun p12z hp12z => ?_⟩
        obtain ⟨G12, e12z, s12z, l12z⟩ := disp_refs hp12z []
        have f12z : upd G11 p12z (.lst []) = G12 := e12z
        rw [f12z]
        replace rowP := rowP.same s12z
        replace l11z := l11z.same s12z
        replace ed10 := s12z _ _ ed10
        refine ⟨by show 1 ≤ sizeLine; decide, fun p13z hp13z => ?_⟩
        obtain ⟨G13, e13z, s13z, l13z⟩ := disp_refs hp13z [p12z]
        have f13z : upd G12 p13z (.lst [V.ref p12z]) = G13 := e13z
        rw [f13z]
        replace rowP := rowP.same s13z
        replace l11z := l11z.same s13z
        replace l12z := l12z.same s13z
        replace ed10 := s13z _ _ ed10
        refine ⟨d10z, p11z, p13z, [5], [[]], [], nn10, 0, bb10, rfl, l11z, ⟨_, l13z, .cons ⟨[], l12z, .nil⟩ .nil⟩, ⟨by decide, fun x hx => (by cases hx)⟩, fun g hg => ?_, by decide, by decide, by decide, ed10, by decide, by decide, fun GB DB => ⟨true, rfl, iteF ?_⟩⟩
        · rw [List.mem_singleton.mp hg]
          exact ⟨valid_dec (by decide) (by decide), fun c hc => (by cases hc)⟩
        obtain ⟨BB, mB, kB, eB, _, _⟩ := DB
        replace rowP := rowP.but ed10 BB
        refine ⟨by show 4 ≤ sizeLine; decide, fun p14z hp14z => ?_⟩
        obtain ⟨G14, e14z, s14z, l14z⟩ := disp_li hp14z [4, 3, 2, 1]
        have f14z : upd GB p14z (.lst [V.int 4, V.int 3, V.int 2, V.int 1]) = G14 := e14z
        rw [f14z]
        replace rowP := rowP.same s14z
        obtain ⟨asP3, hb3, hp3⟩ := id rowP
        refine ⟨_, rfl, p7z, 3, _, rfl, rfl, hb3, by decide, by decide, by rw [List.length_map, hp3.length]; decide, fun p15z hp15z => ?_⟩
        have re3 : (List.replicate (3 : Int).toNat (asP3.map V.ref)).flatten = (asP3 ++ asP3 ++ asP3).map V.ref := by
          show (asP3.map V.ref ++ (asP3.map V.ref ++ (asP3.map V.ref ++ []))) = _
          simp
        rw [re3]
        obtain ⟨G15, e15z, s15z, l15z⟩ := disp_refs hp15z (asP3 ++ asP3 ++ asP3)
        rw [e15z]
        replace rowP := rowP.same s15z
        replace l14z := l14z.same s15z
        have hq3 := Paired.mapP hp3 fun _ _ z => z.same s15z
        refine ⟨p14z, p15z, [4, 3, 2, 1], [[[1, 2]], [[2, 3]], [[3, 4]]] ++ [[[1, 2]], [[2, 3]], [[3, 4]]] ++ [[[1, 2]], [[2, 3]], [[3, 4]]], rfl, l14z, ⟨_, l15z, pair_app (pair_app hq3 hq3) hq3⟩, fun g hg => ?_, by decide, by decide, fun GC3 rr sC3 hrr0 hrr => ?_⟩
        · have e : g = [[1, 2]] ∨ g = [[2, 3]] ∨ g = [[3, 4]] := by simpa using mem_rep3 hg
          rcases e with rfl | rfl | rfl <;> exact valid_dec (by decide) (by decide)
        rw [rowq3] at hrr
        replace rowP := rowP.same sC3
        refine ⟨by show 4 ≤ sizeLine; decide, fun p16z hp16z => ?_⟩
        obtain ⟨G16, e16z, s16z, l16z⟩ := disp_li hp16z [1, 2, 3, 4]
        have f16z : upd GC3 p16z (.lst [V.int 1, V.int 2, V.int 3, V.int 4]) = G16 := e16z
        rw [f16z]
        replace rowP := rowP.same s16z
        replace hrr := hrr.same s16z
        refine ⟨dL [1, 2, 3, 4], dL [1, 2, 3, 4], hrr.dp, l16z.dp, shaped_dL _, shaped_dL _, ?_⟩
        rw [eqv_dL]
        refine ⟨true, rfl, iteT ?_⟩
        refine ⟨by show 4 ≤ sizeLine; decide, fun p17z hp17z => ?_⟩
        obtain ⟨G17, e17z, s17z, l17z⟩ := disp_li hp17z [4, 3, 2, 1]
        have f17z : upd G16 p17z (.lst [V.int 4, V.int 3, V.int 2, V.int 1]) = G17 := e17z
        rw [f17z]
        replace rowP := rowP.same s17z
        obtain ⟨asP2, hb2, hp2⟩ := id rowP
        refine ⟨_, rfl, p7z, 2, _, rfl, rfl, hb2, by decide, by decide, by rw [List.length_map, hp2.length]; decide, fun p18z hp18z => ?_⟩
        have re2 : (List.replicate (2 : Int).toNat (asP2.map V.ref)).flatten = (asP2 ++ asP2).map V.ref := by
          show (asP2.map V.ref ++ (asP2.map V.ref ++ [])) = _
          simp
        rw [re2]
        obtain ⟨G18, e18z, s18z, l18z⟩ := disp_refs hp18z (asP2 ++ asP2)
        rw [e18z]
        replace rowP := rowP.same s18z
        replace l17z := l17z.same s18z
        have hq2 := Paired.mapP hp2 fun _ _ z => z.same s18z
        refine ⟨p17z, p18z, [4, 3, 2, 1], [[[1, 2]], [[2, 3]], [[3, 4]]] ++ [[[1, 2]], [[2, 3]], [[3, 4]]], rfl, l17z, ⟨_, l18z, pair_app hq2 hq2⟩, fun g hg => ?_, by decide, by decide, fun GC2 rr sC2 hrr0 hrr => ?_⟩
        · have e : g = [[1, 2]] ∨ g = [[2, 3]] ∨ g = [[3, 4]] := by simpa using mem_rep2 hg
          rcases e with rfl | rfl | rfl <;> exact valid_dec (by decide) (by decide)
        rw [rowq2] at hrr
        replace rowP := rowP.same sC2
        refine ⟨by show 4 ≤ sizeLine; decide, fun p19z hp19z => ?_⟩
        obtain ⟨G19, e19z, s19z, l19z⟩ := disp_li hp19z [2, 1, 3, 4]
        have f19z : upd GC2 p19z (.lst [V.int 2, V.int 1, V.int 3, V.int 4]) = G19 := e19z
        rw [f19z]
        replace rowP := rowP.same s19z
        replace hrr := hrr.same s19z
        refine ⟨dL [2, 1, 3, 4], dL [2, 1, 3, 4], hrr.dp, l19z.dp, shaped_dL _, shaped_dL _, ?_⟩
        rw [eqv_dL]
        exact k _
end
end K22

set_option Elab.async false
set_option linter.all false
set_option maxRecDepth 100000
set_option maxHeartbeats 4000000
namespace K22
open PySem L2 Kt PyProof.Rows
theorem all_mk {l : PySem.W.OpenLaw} {w : World} {K : PySem.W.Frag} {h : Heap} {mg : Str → Option Value} {fa : Addr}
  {f1 f2 f3 f4 f5 f6 f7 f8 f9 f10 f11 f12 f13 f14 f15 f16 f17 f18 f19 f20 : Addr}
  {od1 an1 od2 an2 od3 an3 od4 an4 od5 an5 od6 an6 od7 an7 od8 an8 od9 an9 od10 an10 od11 an11 od12 an12 od13 an13 od14 an14 od15 an15 od16 an16 od17 an17 od18 an18 od19 an19 od20 an20 : Option Addr}
  {sl1 sl2 sl3 sl4 sl5 sl6 sl7 sl8 sl9 sl10 sl11 sl12 sl13 sl14 sl15 sl16 sl17 sl18 sl19 sl20 : Array (Option Value)}
  {oc1 kV1 dc1 pm1 cd1 ct1 oc2 kV2 dc2 pm2 cd2 ct2 oc3 kV3 dc3 pm3 cd3 ct3 oc4 kV4 dc4 pm4 cd4 ct4 oc5 kV5 dc5 pm5 cd5 ct5 oc6 kV6 dc6 pm6 cd6 ct6 oc7 kV7 dc7 pm7 cd7 ct7 oc8 kV8 dc8 pm8 cd8 ct8 oc9 kV9 dc9 pm9 cd9 ct9 oc10 kV10 dc10 pm10 cd10 ct10 oc11 kV11 dc11 pm11 cd11 ct11 oc12 kV12 dc12 pm12 cd12 ct12 oc13 kV13 dc13 pm13 cd13 ct13 oc14 kV14 dc14 pm14 cd14 ct14 oc15 kV15 dc15 pm15 cd15 ct15 oc16 kV16 dc16 pm16 cd16 ct16 oc17 kV17 dc17 pm17 cd17 ct17 oc18 kV18 dc18 pm18 cd18 ct18 oc19 kV19 dc19 pm19 cd19 ct19 oc20 kV20 dc20 pm20 cd20 ct20 : Value}
  {tM : Tok}
  (X : K.In h) (G : h.Ns mainGlobals mg) (hfa : mg "law" = some (.ref fa))
  (a1 : PySem.W.nsIn K mainGlobals "is_whole" = some (some (.ref f1)))
  (l1 : K.lookup f1 = some ⟨oc1, od1, .func (PySem.W.fnOf "is_whole" "is_whole" (defArgs sWhole) (defBody sWhole) (defScope sWhole) .none kV1 dc1 pm1 an1 cd1 ct1), sl1⟩)
  (c1 : PySem.W.codeIn K cd1 "is_whole" = true) (k1 : PySem.W.keepIn K (.ref f1) = true)
  (a2 : PySem.W.nsIn K mainGlobals "is_whole_within" = some (some (.ref f2)))
  (l2 : K.lookup f2 = some ⟨oc2, od2, .func (PySem.W.fnOf "is_whole_within" "is_whole_within" (defArgs sWithin) (defBody sWithin) (defScope sWithin) .none kV2 dc2 pm2 an2 cd2 ct2), sl2⟩)
  (c2 : PySem.W.codeIn K cd2 "is_whole_within" = true) (k2 : PySem.W.keepIn K (.ref f2) = true)
  (a3 : PySem.W.nsIn K mainGlobals "check_filling" = some (some (.ref f3)))
  (l3 : K.lookup f3 = some ⟨oc3, od3, .func (PySem.W.fnOf "check_filling" "check_filling" (defArgs sChFill) (defBody sChFill) (defScope sChFill) .none kV3 dc3 pm3 an3 cd3 ct3), sl3⟩)
  (c3 : PySem.W.codeIn K cd3 "check_filling" = true) (k3 : PySem.W.keepIn K (.ref f3) = true)
  (a4 : PySem.W.nsIn K mainGlobals "check_family" = some (some (.ref f4)))
  (l4 : K.lookup f4 = some ⟨oc4, od4, .func (PySem.W.fnOf "check_family" "check_family" (defArgs sChFam) (defBody sChFam) (defScope sChFam) .none kV4 dc4 pm4 an4 cd4 ct4), sl4⟩)
  (c4 : PySem.W.codeIn K cd4 "check_family" = true) (k4 : PySem.W.keepIn K (.ref f4) = true)
  (a5 : PySem.W.nsIn K mainGlobals "check_row" = some (some (.ref f5)))
  (l5 : K.lookup f5 = some ⟨oc5, od5, .func (PySem.W.fnOf "check_row" "check_row" (defArgs sChRow) (defBody sChRow) (defScope sChRow) .none kV5 dc5 pm5 an5 cd5 ct5), sl5⟩)
  (c5 : PySem.W.codeIn K cd5 "check_row" = true) (k5 : PySem.W.keepIn K (.ref f5) = true)
  (a6 : PySem.W.nsIn K mainGlobals "fault_of_family" = some (some (.ref f6)))
  (l6 : K.lookup f6 = some ⟨oc6, od6, .func (PySem.W.fnOf "fault_of_family" "fault_of_family" (defArgs sFault) (defBody sFault) (defScope sFault) .none kV6 dc6 pm6 an6 cd6 ct6), sl6⟩)
  (c6 : PySem.W.codeIn K cd6 "fault_of_family" = true) (k6 : PySem.W.keepIn K (.ref f6) = true)
  (a7 : PySem.W.nsIn K mainGlobals "sort_by" = some (some (.ref f7)))
  (l7 : K.lookup f7 = some ⟨oc7, od7, .func (PySem.W.fnOf "sort_by" "sort_by" (defArgs sSortBy) (defBody sSortBy) (defScope sSortBy) .none kV7 dc7 pm7 an7 cd7 ct7), sl7⟩)
  (c7 : PySem.W.codeIn K cd7 "sort_by" = true) (k7 : PySem.W.keepIn K (.ref f7) = true)
  (a8 : PySem.W.nsIn K mainGlobals "is_sorted_by" = some (some (.ref f8)))
  (l8 : K.lookup f8 = some ⟨oc8, od8, .func (PySem.W.fnOf "is_sorted_by" "is_sorted_by" (defArgs sIsBy) (defBody sIsBy) (defScope sIsBy) .none kV8 dc8 pm8 an8 cd8 ct8), sl8⟩)
  (c8 : PySem.W.codeIn K cd8 "is_sorted_by" = true) (k8 : PySem.W.keepIn K (.ref f8) = true)
  (a9 : PySem.W.nsIn K mainGlobals "after_row" = some (some (.ref f9)))
  (l9 : K.lookup f9 = some ⟨oc9, od9, .func (PySem.W.fnOf "after_row" "after_row" (defArgs sAfterRow) (defBody sAfterRow) (defScope sAfterRow) .none kV9 dc9 pm9 an9 cd9 ct9), sl9⟩)
  (c9 : PySem.W.codeIn K cd9 "after_row" = true) (k9 : PySem.W.keepIn K (.ref f9) = true)
  (a10 : PySem.W.nsIn K mainGlobals "sorted_along" = some (some (.ref f10)))
  (l10 : K.lookup f10 = some ⟨oc10, od10, .func (PySem.W.fnOf "sorted_along" "sorted_along" (defArgs sAlong) (defBody sAlong) (defScope sAlong) .none kV10 dc10 pm10 an10 cd10 ct10), sl10⟩)
  (c10 : PySem.W.codeIn K cd10 "sorted_along" = true) (k10 : PySem.W.keepIn K (.ref f10) = true)
  (a11 : PySem.W.nsIn K mainGlobals "ascends_along" = some (some (.ref f11)))
  (l11 : K.lookup f11 = some ⟨oc11, od11, .func (PySem.W.fnOf "ascends_along" "ascends_along" (defArgs sAsc) (defBody sAsc) (defScope sAsc) .none kV11 dc11 pm11 an11 cd11 ct11), sl11⟩)
  (c11 : PySem.W.codeIn K cd11 "ascends_along" = true) (k11 : PySem.W.keepIn K (.ref f11) = true)
  (a12 : PySem.W.nsIn K mainGlobals "_law_draws" = some (some (.ref f12)))
  (l12 : K.lookup f12 = some ⟨oc12, od12, .func (PySem.W.fnOf "_law_draws" "_law_draws" (defArgs sLDraws) (defBody sLDraws) (defScope sLDraws) .none kV12 dc12 pm12 an12 cd12 ct12), sl12⟩)
  (c12 : PySem.W.codeIn K cd12 "_law_draws" = true) (k12 : PySem.W.keepIn K (.ref f12) = true)
  (a13 : PySem.W.nsIn K mainGlobals "_law_next" = some (some (.ref f13)))
  (l13 : K.lookup f13 = some ⟨oc13, od13, .func (PySem.W.fnOf "_law_next" "_law_next" (defArgs sLNext) (defBody sLNext) (defScope sLNext) .none kV13 dc13 pm13 an13 cd13 ct13), sl13⟩)
  (c13 : PySem.W.codeIn K cd13 "_law_next" = true) (k13 : PySem.W.keepIn K (.ref f13) = true)
  (a14 : PySem.W.nsIn K mainGlobals "_law_load" = some (some (.ref f14)))
  (l14 : K.lookup f14 = some ⟨oc14, od14, .func (PySem.W.fnOf "_law_load" "_law_load" (defArgs sLLoad) (defBody sLLoad) (defScope sLLoad) .none kV14 dc14 pm14 an14 cd14 ct14), sl14⟩)
  (c14 : PySem.W.codeIn K cd14 "_law_load" = true) (k14 : PySem.W.keepIn K (.ref f14) = true)
  (a15 : PySem.W.nsIn K mainGlobals "_law_mixed" = some (some (.ref f15)))
  (l15 : K.lookup f15 = some ⟨oc15, od15, .func (PySem.W.fnOf "_law_mixed" "_law_mixed" (defArgs sLMixed) (defBody sLMixed) (defScope sLMixed) .none kV15 dc15 pm15 an15 cd15 ct15), sl15⟩)
  (c15 : PySem.W.codeIn K cd15 "_law_mixed" = true) (k15 : PySem.W.keepIn K (.ref f15) = true)
  (a16 : PySem.W.nsIn K mainGlobals "_law_along" = some (some (.ref f16)))
  (l16 : K.lookup f16 = some ⟨oc16, od16, .func (PySem.W.fnOf "_law_along" "_law_along" (defArgs sLAlong) (defBody sLAlong) (defScope sLAlong) .none kV16 dc16 pm16 an16 cd16 ct16), sl16⟩)
  (c16 : PySem.W.codeIn K cd16 "_law_along" = true) (k16 : PySem.W.keepIn K (.ref f16) = true)
  (a17 : PySem.W.nsIn K mainGlobals "_law_rests" = some (some (.ref f17)))
  (l17 : K.lookup f17 = some ⟨oc17, od17, .func (PySem.W.fnOf "_law_rests" "_law_rests" (defArgs sLRests) (defBody sLRests) (defScope sLRests) .none kV17 dc17 pm17 an17 cd17 ct17), sl17⟩)
  (c17 : PySem.W.codeIn K cd17 "_law_rests" = true) (k17 : PySem.W.keepIn K (.ref f17) = true)
  (a18 : PySem.W.nsIn K mainGlobals "_law_right" = some (some (.ref f18)))
  (l18 : K.lookup f18 = some ⟨oc18, od18, .func (PySem.W.fnOf "_law_right" "_law_right" (defArgs sLRight) (defBody sLRight) (defScope sLRight) .none kV18 dc18 pm18 an18 cd18 ct18), sl18⟩)
  (c18 : PySem.W.codeIn K cd18 "_law_right" = true) (k18 : PySem.W.keepIn K (.ref f18) = true)
  (a19 : PySem.W.nsIn K mainGlobals "_law_ring_right" = some (some (.ref f19)))
  (l19 : K.lookup f19 = some ⟨oc19, od19, .func (PySem.W.fnOf "_law_ring_right" "_law_ring_right" (defArgs sLRing) (defBody sLRing) (defScope sLRing) .none kV19 dc19 pm19 an19 cd19 ct19), sl19⟩)
  (c19 : PySem.W.codeIn K cd19 "_law_ring_right" = true) (k19 : PySem.W.keepIn K (.ref f19) = true)
  (a20 : PySem.W.nsIn K mainGlobals "law" = some (some (.ref f20)))
  (l20 : K.lookup f20 = some ⟨oc20, od20, .func (PySem.W.fnOf "law" "law" (defArgs sLaw) (defBody sLaw) (defScope sLaw) .none kV20 dc20 pm20 an20 cd20 ct20), sl20⟩)
  (c20 : PySem.W.codeIn K cd20 "law" = true) (k20 : PySem.W.keepIn K (.ref f20) = true)
  (zlen : PySem.W.nsIn K mainGlobals "len" = some none)
  (zisi : PySem.W.nsIn K mainGlobals "isinstance" = some none)
  (zint : PySem.W.nsIn K mainGlobals "int" = some none)
  (zbool : PySem.W.nsIn K mainGlobals "bool" = some none)
  (zlist : PySem.W.nsIn K mainGlobals "list" = some none)
  (zenum : PySem.W.nsIn K mainGlobals "enumerate" = some none)
  (zset : PySem.W.nsIn K mainGlobals "set" = some none)
  (zzip : PySem.W.nsIn K mainGlobals "zip" = some none)
  (zsorted : PySem.W.nsIn K mainGlobals "sorted" = some none)
  (zrange : PySem.W.nsIn K mainGlobals "range" = some none)
  (zrepr : PySem.W.nsIn K mainGlobals "repr" = some none)
  (zmin : PySem.W.nsIn K mainGlobals "min" = some none)
  (mM : PySem.W.nsIn K mainGlobals "MOST_PLACES" = some (some (.int 40 tM)))
  : ∃ fd : FuncData, (∀ (s : Shared) (v : Value), BindsTo s fd ⟨[v], []⟩ [("script", v)]) ∧ ∀ base : Heap, K.In base → base.Ns mainGlobals mg → FnG l.prog w K mg base 8 fa fd ["script"] (spLaw K) := by
  have e := hfa.symm.trans (PySem.W.mg_of X G a20)
  cases e
  have N : Nb mg := ⟨PySem.W.mg_none_of X G zlen, PySem.W.mg_none_of X G zisi, PySem.W.mg_none_of X G zint, PySem.W.mg_none_of X G zbool, PySem.W.mg_none_of X G zlist, PySem.W.mg_none_of X G zenum, PySem.W.mg_none_of X G zset, PySem.W.mg_none_of X G zzip, PySem.W.mg_none_of X G zsorted, PySem.W.mg_none_of X G zrange, PySem.W.mg_none_of X G zrepr, PySem.W.mg_none_of X G zmin⟩
  have F1 := fun_mk (st := sWhole) l1 c1 k1
  have b1 := F1.binds (ps := ["thing"]) fun _ _ _ _ _ _ us hl => match us, hl with | [_], _ => rfl
  have F2 := fun_mk (st := sWithin) l2 c2 k2
  have b2 := F2.binds (ps := ["thing", "least", "most"]) fun _ _ _ _ _ _ us hl => match us, hl with | [_, _, _], _ => rfl
  have F3 := fun_mk (st := sChFill) l3 c3 k3
  have b3 := F3.binds (ps := ["filling"]) fun _ _ _ _ _ _ us hl => match us, hl with | [_], _ => rfl
  have F4 := fun_mk (st := sChFam) l4 c4 k4
  have b4 := F4.binds (ps := ["places", "family"]) fun _ _ _ _ _ _ us hl => match us, hl with | [_, _], _ => rfl
  have F5 := fun_mk (st := sChRow) l5 c5 k5
  have b5 := F5.binds (ps := ["places", "row"]) fun _ _ _ _ _ _ us hl => match us, hl with | [_, _], _ => rfl
  have F6 := fun_mk (st := sFault) l6 c6 k6
  have b6 := F6.binds (ps := ["places", "family"]) fun _ _ _ _ _ _ us hl => match us, hl with | [_, _], _ => rfl
  have F7 := fun_mk (st := sSortBy) l7 c7 k7
  have b7 := F7.binds (ps := ["filling", "family"]) fun _ _ _ _ _ _ us hl => match us, hl with | [_, _], _ => rfl
  have F8 := fun_mk (st := sIsBy) l8 c8 k8
  have b8 := F8.binds (ps := ["filling", "family"]) fun _ _ _ _ _ _ us hl => match us, hl with | [_, _], _ => rfl
  have F9 := fun_mk (st := sAfterRow) l9 c9 k9
  have b9 := F9.binds (ps := ["filling", "row"]) fun _ _ _ _ _ _ us hl => match us, hl with | [_, _], _ => rfl
  have F10 := fun_mk (st := sAlong) l10 c10 k10
  have b10 := F10.binds (ps := ["filling", "family"]) fun _ _ _ _ _ _ us hl => match us, hl with | [_, _], _ => rfl
  have F11 := fun_mk (st := sAsc) l11 c11 k11
  have b11 := F11.binds (ps := ["filling", "family"]) fun _ _ _ _ _ _ us hl => match us, hl with | [_, _], _ => rfl
  have F12 := fun_mk (st := sLDraws) l12 c12 k12
  have b12 := F12.binds (ps := ["cell"]) fun _ _ _ _ _ _ us hl => match us, hl with | [_], _ => rfl
  have F13 := fun_mk (st := sLNext) l13 c13 k13
  have b13 := F13.binds (ps := ["draws"]) fun _ _ _ _ _ _ us hl => match us, hl with | [_], _ => rfl
  have F14 := fun_mk (st := sLLoad) l14 c14 k14
  have b14 := F14.binds (ps := ["draws", "many"]) fun _ _ _ _ _ _ us hl => match us, hl with | [_, _], _ => rfl
  have F15 := fun_mk (st := sLMixed) l15 c15 k15
  have b15 := F15.binds (ps := ["draws", "things"]) fun _ _ _ _ _ _ us hl => match us, hl with | [_, _], _ => rfl
  have F16 := fun_mk (st := sLAlong) l16 c16 k16
  have b16 := F16.binds (ps := ["draws", "line"]) fun _ _ _ _ _ _ us hl => match us, hl with | [_, _], _ => rfl
  have F17 := fun_mk (st := sLRests) l17 c17 k17
  have b17 := F17.binds (ps := ["draws", "load", "lots"]) fun _ _ _ _ _ _ us hl => match us, hl with | [_, _, _], _ => rfl
  have F18 := fun_mk (st := sLRight) l18 c18 k18
  have b18 := F18.binds (ps := ["draws", "many"]) fun _ _ _ _ _ _ us hl => match us, hl with | [_, _], _ => rfl
  have F19 := fun_mk (st := sLRing) l19 c19 k19
  have b19 := F19.binds (ps := ["draws", "many"]) fun _ _ _ _ _ _ us hl => match us, hl with | [_, _], _ => rfl
  have F20 := fun_mk (st := sLaw) l20 c20 k20
  refine ⟨PySem.W.fnOf "law" "law" (defArgs sLaw) (defBody sLaw) (defScope sLaw) .none kV20 dc20 pm20 an20 cd20 ct20, fun s v => .of_eq rfl, fun base _ _ => ?_⟩
  have g1 : mg "is_whole" = some (.ref f1) := PySem.W.mg_of X G a1
  have g2 : mg "is_whole_within" = some (.ref f2) := PySem.W.mg_of X G a2
  have g3 : mg "check_filling" = some (.ref f3) := PySem.W.mg_of X G a3
  have g4 : mg "check_family" = some (.ref f4) := PySem.W.mg_of X G a4
  have g5 : mg "check_row" = some (.ref f5) := PySem.W.mg_of X G a5
  have g6 : mg "fault_of_family" = some (.ref f6) := PySem.W.mg_of X G a6
  have g7 : mg "sort_by" = some (.ref f7) := PySem.W.mg_of X G a7
  have g8 : mg "is_sorted_by" = some (.ref f8) := PySem.W.mg_of X G a8
  have g9 : mg "after_row" = some (.ref f9) := PySem.W.mg_of X G a9
  have g10 : mg "sorted_along" = some (.ref f10) := PySem.W.mg_of X G a10
  have g11 : mg "ascends_along" = some (.ref f11) := PySem.W.mg_of X G a11
  have g12 : mg "_law_draws" = some (.ref f12) := PySem.W.mg_of X G a12
  have g13 : mg "_law_next" = some (.ref f13) := PySem.W.mg_of X G a13
  have g14 : mg "_law_load" = some (.ref f14) := PySem.W.mg_of X G a14
  have g15 : mg "_law_mixed" = some (.ref f15) := PySem.W.mg_of X G a15
  have g16 : mg "_law_along" = some (.ref f16) := PySem.W.mg_of X G a16
  have g17 : mg "_law_rests" = some (.ref f17) := PySem.W.mg_of X G a17
  have g18 : mg "_law_right" = some (.ref f18) := PySem.W.mg_of X G a18
  have g19 : mg "_law_ring_right" = some (.ref f19) := PySem.W.mg_of X G a19
  have G1 := ok_whole (P := l.prog) (w := w) (base := base) F1 N
  have G2 := ok_within (P := l.prog) (w := w) (base := base) F2 G1 b1 g1 k1
  have G3 := ok_chFill (P := l.prog) (w := w) (base := base) F3 N (PySem.W.mg_of X G mM) G1 b1 g1 k1
  have G6 := ok_fault (P := l.prog) (w := w) (base := base) F6 N G2 b2 g2 k2
  have G4 := ok_chFam (P := l.prog) (w := w) (base := base) F4 G6 b6 g6 k6
  have G5 := ok_chRow (P := l.prog) (w := w) (base := base) F5 N G6 b6 g6 k6
  have G10 := ok_along (P := l.prog) (w := w) (mg := mg) (base := base) F10 N
  have G11 := ok_asc (P := l.prog) (w := w) (mg := mg) (base := base) F11 N
  have G7 := ok_sortBy F7 N G3 b3 g3 k3 G4 b4 g4 k4 G10 b10 g10 k10
  have G8 := ok_isBy F8 N G3 b3 g3 k3 G4 b4 g4 k4 G11 b11 g11 k11
  have G9 := ok_after F9 N G3 b3 g3 k3 G5 b5 g5 k5 G10 b10 g10 k10
  have G12 := ok_ldraws (P := l.prog) (w := w) (mg := mg) (base := base) F12 N
  have G13 := ok_lnext (P := l.prog) (w := w) (mg := mg) (base := base) F13 N
  have G14 := ok_lload (P := l.prog) (w := w) (mg := mg) (base := base) F14 N G13 b13 g13 k13
  have G15 := ok_lmixed (P := l.prog) (w := w) (mg := mg) (base := base) F15 N G13 b13 g13 k13
  have G16 := ok_lalong (P := l.prog) (w := w) (mg := mg) (base := base) F16 N G13 b13 g13 k13
  have G17 := ok_lrests F17 N ⟨G15, b15, g15, k15⟩ ⟨G7, b7, g7, k7⟩ ⟨G8, b8, g8, k8⟩
  have G18 := ok_right F18 N ⟨G15, b15, g15, k15⟩ ⟨G13, b13, g13, k13⟩ ⟨G16, b16, g16, k16⟩ ⟨G14, b14, g14, k14⟩ ⟨G17, b17, g17, k17⟩ ⟨G8, b8, g8, k8⟩ ⟨G9, b9, g9, k9⟩
  have G19 := ok_ring F19 N ⟨G15, b15, g15, k15⟩ ⟨G13, b13, g13, k13⟩ ⟨G16, b16, g16, k16⟩ ⟨G7, b7, g7, k7⟩ ⟨G8, b8, g8, k8⟩
  exact ok_law F20 N ⟨G12, b12, g12, k12⟩ ⟨G13, b13, g13, k13⟩ ⟨G18, b18, g18, k18⟩ ⟨G19, b19, g19, k19⟩ ⟨G17, b17, g17, k17⟩ ⟨G9, b9, g9, k9⟩
end K22
open PySem PySem.W PyProof.Rows
set_option maxRecDepth 100000 in
set_option maxHeartbeats 0 in
theorem PySem.Challenge.cw_keptsorted_k22_whole_coming_to_rest_holds : PySem.Challenge.rw_keptsorted_k22_whole_coming_to_rest.Holds := by
  w_on; o_law; k_head; (case hw => w_witness2)
  k_fill
  refine Kt.walkG (l := PySem.Challenge.rw_keptsorted_k22_whole_coming_to_rest) (n := 63) (k := 8) (x := "script") (sp := K22.spLaw) rfl (by decide) rfl ⟨rfl, by decide, by decide⟩ (fun w h Y => PySem.W.kIn_of Y) ?F (fun K H a ns hl hS => ⟨a, ns, rfl, hS, hl, fun _ => rfl⟩)
  case F =>
    intro w mg fa h KX G hmg
    refine' K22.all_mk KX G hmg ?a1 ?l1 ?c1 ?k1 ?a2 ?l2 ?c2 ?k2 ?a3 ?l3 ?c3 ?k3 ?a4 ?l4 ?c4 ?k4 ?a5 ?l5 ?c5 ?k5 ?a6 ?l6 ?c6 ?k6 ?a7 ?l7 ?c7 ?k7 ?a8 ?l8 ?c8 ?k8 ?a9 ?l9 ?c9 ?k9 ?a10 ?l10 ?c10 ?k10 ?a11 ?l11 ?c11 ?k11 ?a12 ?l12 ?c12 ?k12 ?a13 ?l13 ?c13 ?k13 ?a14 ?l14 ?c14 ?k14 ?a15 ?l15 ?c15 ?k15 ?a16 ?l16 ?c16 ?k16 ?a17 ?l17 ?c17 ?k17 ?a18 ?l18 ?c18 ?k18 ?a19 ?l19 ?c19 ?k19 ?a20 ?l20 ?c20 ?k20 ?zlen ?zisi ?zint ?zbool ?zlist ?zenum ?zset ?zzip ?zsorted ?zrange ?zrepr ?zmin ?mM
    (case a1 => k_is)
    (case l1 => k_is)
    (case c1 => k_is)
    (case k1 => k_is)
    (case a2 => k_is)
    (case l2 => k_is)
    (case c2 => k_is)
    (case k2 => k_is)
    (case a3 => k_is)
    (case l3 => k_is)
    (case c3 => k_is)
    (case k3 => k_is)
    (case a4 => k_is)
    (case l4 => k_is)
    (case c4 => k_is)
    (case k4 => k_is)
    (case a5 => k_is)
    (case l5 => k_is)
    (case c5 => k_is)
    (case k5 => k_is)
    (case a6 => k_is)
    (case l6 => k_is)
    (case c6 => k_is)
    (case k6 => k_is)
    (case a7 => k_is)
    (case l7 => k_is)
    (case c7 => k_is)
    (case k7 => k_is)
    (case a8 => k_is)
    (case l8 => k_is)
    (case c8 => k_is)
    (case k8 => k_is)
    (case a9 => k_is)
    (case l9 => k_is)
    (case c9 => k_is)
    (case k9 => k_is)
    (case a10 => k_is)
    (case l10 => k_is)
    (case c10 => k_is)
    (case k10 => k_is)
    (case a11 => k_is)
    (case l11 => k_is)
    (case c11 => k_is)
    (case k11 => k_is)
    (case a12 => k_is)
    (case l12 => k_is)
    (case c12 => k_is)
    (case k12 => k_is)
    (case a13 => k_is)
    (case l13 => k_is)
    (case c13 => k_is)
    (case k13 => k_is)
    (case a14 => k_is)
    (case l14 => k_is)
    (case c14 => k_is)
    (case k14 => k_is)
    (case a15 => k_is)
    (case l15 => k_is)
    (case c15 => k_is)
    (case k15 => k_is)
    (case a16 => k_is)
    (case l16 => k_is)
    (case c16 => k_is)
    (case k16 => k_is)
    (case a17 => k_is)
    (case l17 => k_is)
    (case c17 => k_is)
    (case k17 => k_is)
    (case a18 => k_is)
    (case l18 => k_is)
    (case c18 => k_is)
    (case k18 => k_is)
    (case a19 => k_is)
    (case l19 => k_is)
    (case c19 => k_is)
    (case k19 => k_is)
    (case a20 => k_is)
    (case l20 => k_is)
    (case c20 => k_is)
    (case k20 => k_is)
    (case zlen => k_is)
    (case zisi => k_is)
    (case zint => k_is)
    (case zbool => k_is)
    (case zlist => k_is)
    (case zenum => k_is)
    (case zset => k_is)
    (case zzip => k_is)
    (case zsorted => k_is)
    (case zrange => k_is)
    (case zrepr => k_is)
    (case zmin => k_is)
    (case mM => k_is)
#print axioms PySem.Challenge.cw_keptsorted_k22_whole_coming_to_rest_holds


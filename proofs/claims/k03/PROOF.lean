import PyProof.Rows.All
import Wide.All
import OpenK.AllK
import Wide.FinOn
import HandS.ForMost
import HandS.ForExc
import HandS.Evl
import HandS.IsInst
import HandS.ExcInit
import HandS.ExcIs
import HandS.ExcField
import HandS.TryOnly
import HandS.WideBits
import HandS.SortInts
import HandS.Conv
import HandS.Deep
import HandS.Defaults
import PyProof.ReprRoads
import KE.KExcIs
import KE.IntBitsLaws
import KE.KSortedM
import HandS.DictComp
import KE.KMathGC
import KE.SortData
import HandS.Gcd
import HandS.Iter
import HandS.SetFor
import PyProof.Rows.Range3
import PySem.Challenge.RW_gapswaps_k03_whole_all_orders_numbered
import HandS.Style
set_option Elab.async false
set_option linter.all false
set_option maxRecDepth 100000
set_option maxHeartbeats 4000000
namespace GS
open PySem PySem.Spec PyProof.Rows L2 Evl

/-! defs that are called where nothing is being shown -/
structure FnG (P : Program) (w : World) (K : PySem.W.Frag) (mg : Str → Option Value) (base : Heap)
    (CX : CXT) (k : Nat) (f : Addr) (fd : FuncData) (ps : List Str) (sp : Sp) : Prop where
  ar : ∀ vs H Q E, sp vs H Q E → vs.length = ps.length
  go : ∀ (A : Around) (outer : List Env) (s : Shared) (H : Hp) (args : Args)
      (us : List Value) (vs : List V) (Q : VK) (E : XK),
    Room k A → A.guards = some [] → Env0 P w K mg base A outer s H →
    BindsTo s fd args (ps.zip us) → Vals vs us → sp vs H Q E →
    codeAny (model P w) A (.call (.ref f) args) (CR CX outer P w H s Q E) s

theorem FnG.of {P w K mg base CX k f fd ps sp} (F : FnOk P w K mg base CX k f fd ps sp) :
    FnG P w K mg base CX k f fd ps sp :=
  ⟨F.len, fun A outer s H args us vs Q E h1 _ h2 h3 h4 h5 =>
    F.run A outer s H args us vs Q E h1 h2 h3 h4 h5⟩
theorem FnG.mono {P w K mg base CX j k f fd ps sp} (F : FnG P w K mg base CX j f fd ps sp) (h : j ≤ k) :
    FnG P w K mg base CX k f fd ps sp :=
  ⟨F.ar, fun A outer s H args us vs Q E h1 => F.go A outer s H args us vs Q E (h1.mono h)⟩

section
variable {X : Cx} {CX : CXT} {k : Nat} {f : Addr} {fd : FuncData} {ps : List Str} {sp : Sp}
  {dvs : List V} {ds : List Value} {E : XK} {x : Str} {p pos : Pos} {e : Expr} {es : List Expr} {t : TA}

theorem run_g {pins : List (Addr × Obj)} {σ : L2.St} {H : Hp} {s : Shared} {Q : VK}
    {us : List Value} {vs : List V}
    (F : FnG X.prog X.w X.K X.mg X.base CX k f fd ps sp) (hr : Room k X.A) (hq : X.A.guards = some [])
    (hb : Binds X.K fd ps ds) (hd : Vals dvs ds) (hx : Passes CX X E)
    (I : Inv X pins σ H s) (r : Vals vs us) (h : sp (vs ++ dvs) H Q E) :
    wpAny (model X.prog X.w) X.A (call (.ref f) us) (EP X pins σ Q) X.xe s := by
  have rr : Vals (vs ++ dvs) (us ++ ds) := r.append hd
  have el : (us ++ ds).length = ps.length := rr.length.symm.trans (F.ar _ _ _ _ h)
  have z := F.go X.A X.stack s H ⟨us, []⟩ (us ++ ds) (vs ++ dvs) Q E hr hq I.env0
    (hb s us I.kIn el) rr h
  refine wpAny_call (codeAny_mono z fun res s2 q => ?_)
  match res, q with
  | .error err, q => exact hx pins σ H s err s2 I q
  | .ok (.ret u), q => exact I.after q
  | .ok .next, q => exact q.elim
  | .ok .brk, q => exact q.elim
  | .ok .cont, q => exact q.elim

theorem pe_callG (F : FnG X.prog X.w X.K X.mg X.base CX k f fd ps sp) (hr : Room k X.A)
    (hq : X.A.guards = some []) (hg : Gl X x) (hm : X.mg x = some (.ref f))
    (hk : PySem.W.keepIn X.K (.ref f) = true) (hb : Binds X.K fd ps ds) (hd : Vals dvs ds)
    (hx : Passes CX X E) (ha : PA X (e :: es) t)
    (hdb : (x == ("__debug__" : Str)) = false := by decide)
    (hs : starEach (e :: es) X.env = (false, eval e X.env) :: starEach es X.env := by rfl)
    (hpl : (backTo pos (starEach es X.env)).any (·.1) = false := by rfl) :
    PE X (.Call (.Name x p) (e :: es) [] pos) (tCall sp dvs E t) :=
  ⟨fun pins s σ H Q I h => wpAny_Call_Name_kw (ld_glob I hg hm
    (PySem.W.callWith_K (h₀ := X.base) I.ok.mod.kin hk
      (thn (ha.run pos pins s σ H _ I h) fun us s1 ⟨vs, H1, I1, r, q⟩ =>
        ⟨I1.kIn, run_g F hr hq hb hd hx I1 r q⟩) hs hpl) hdb)⟩
theorem pe_callG0 (F : FnG X.prog X.w X.K X.mg X.base CX k f fd ps sp) (hr : Room k X.A)
    (hq : X.A.guards = some []) (hg : Gl X x) (hm : X.mg x = some (.ref f))
    (hk : PySem.W.keepIn X.K (.ref f) = true) (hb : Binds X.K fd ps ds) (hd : Vals dvs ds)
    (hx : Passes CX X E) (hdb : (x == ("__debug__" : Str)) = false := by decide) :
    PE X (.Call (.Name x p) [] [] pos) (tCall sp dvs E tNil) :=
  ⟨fun pins s σ H Q I h => wpAny_Call_Name_kw (ld_glob I hg hm
    (PySem.W.callWith_K0 I.kIn hk (run_g (us := []) F hr hq hb hd hx I .nil h)) hdb)⟩
end

theorem fn_ofG {CX : CXT} {P : Program} {w : World} {K : PySem.W.Frag} {mg : Str → Option Value}
    {base : Heap} {k : Nat} {f : Addr} {name qual : Str} {params : Arguments} {body : List Stmt}
    {scope : Scope} {dV kV doc pm cdv ct oc : Value} {an od : Option Addr}
    {osl : Array (Option Value)} {N ps : List Str} {sp : Sp}
    (lk : K.lookup f = some ⟨oc, od,
      .func (PySem.W.fnOf name qual params body scope dV kV doc pm an cdv ct), osl⟩)
    (hcd : PySem.W.codeIn K cdv qual = true) (S : FnScope N ps scope)
    (len : ∀ vs H Q E, sp vs H Q E → vs.length = ps.length)
    (hbody : ∀ (A : Around) (outer : List Env) (s : Shared) (H : Hp) (vs : List V) (Q : VK) (E : XK),
      Room k (A.deeper (envOfC qual scope s.heap.objs.size f cdv)) → A.guards = some [] →
      sp vs H Q E →
      ∃ t, PSs (cxOf CX P w K mg base N qual scope f cdv A outer s H E) body t ∧
        t { nx := fun _ H' => Q .non H', rt := Q } (start N vs) H) :
    FnG P w K mg base CX (k + 1) f
      (PySem.W.fnOf name qual params body scope dV kV doc pm an cdv ct) ps sp := by
  constructor
  · exact len
  intro A outer s H args us vs Q E hr hq e0 hb r hsp
  have el := len _ _ _ _ hsp
  have inK : K.In s.heap := e0.mod.kin.keeps fun b o z => (e0.bs b o z).1
  have nl : s.heap.NoLimit := e0.mod.nolimit.keeps fun b o z => (e0.bs b o z).1
  refine codeAny_call_function hr.depth (inK _ _ lk) rfl S.co S.gen rfl
    (PySem.W.codeRec_of inK hcd) (hb _ _ _ _ ?_)
  refine wpAny_newFunctionEnv_cells S.kind (fun y hy => ?_) fun env he s1 x => ?_
  · rcases S.par y.1 (List.of_mem_zip (a := y.1) (b := y.2) hy).1 with q | q
    · exact .inl q
    · exact .inr ⟨q, PySem.W.cellsFrom_some _ _ _ (.inl q)⟩
  subst he
  refine ⟨nl.keeps x.toInCall.keep, codeAny_func ?_⟩
  obtain ⟨t, ht, hz⟩ := hbody A outer s H vs Q E (hr.deeper _) hq hsp
  have I : Inv (cxOf CX P w K mg base N qual scope f cdv A outer s H E) [] (start N vs) H s1 :=
    inv_start S hr.hd e0 el r x
  refine wpAny_mono (ht.run [] s1 (start N vs) H _ I hz) ?_ fun _ _ z => z
  intro fl s2 z
  match fl, z with
  | .ret u, ⟨v, σ2, H2, J, rv, q⟩ => exact ⟨v, H2, J.os, J.bare, J.base, J.hok, rv, q⟩
  | .next, ⟨σ2, H2, J, q⟩ => exact ⟨.non, H2, J.os, J.bare, J.base, J.hok, rfl, q⟩
  | .brk, ⟨_, _, _, q⟩ => exact q.elim
  | .cont, ⟨_, _, _, q⟩ => exact q.elim

section
variable {P : Program} {w : World} {K : PySem.W.Frag} {mg : Str → Option Value} {base : Heap}
/-- a def that lets no error out -/
theorem fun_g {x qual : Str} {st : Stmt} {f : Addr} {fd : FuncData} {N ps : List Str} {k : Nat}
    {sp : Sp} (F : Fun K x qual st f fd) (S : FnScope N ps (defScope st))
    (len : ∀ vs H Q E, sp vs H Q E → vs.length = ps.length)
    (hb : ∀ (cdv : Value) (A : Around) (outer : List Env) (s : Shared) (H : Hp) (vs : List V) (Q : VK) (E : XK),
      Room k (A.deeper (envOfC qual (defScope st) s.heap.objs.size f cdv)) → A.guards = some [] → sp vs H Q E →
      ∃ t, PSs (cxOf CX0 P w K mg base N qual (defScope st) f cdv A outer s H E).nox (defBody st) t ∧
        t { nx := fun _ H' => Q .non H', rt := Q } (start N vs) H) :
    FnG P w K mg base CX0 (k + 1) f fd ps sp := by
  obtain ⟨oc, od, kV, doc, pm, an, cdv, ct, osl, rfl, lk, hcd⟩ := F.ex
  refine fn_ofG lk hcd S len fun A outer s H vs Q E hr hq hsp => ?_
  obtain ⟨t, h, q⟩ := hb cdv A outer s H vs Q E hr hq hsp
  exact ⟨t, h.nox, q⟩
end

/-! the end over such a law -/
theorem law_callG {P : Program} {w : World} {K : PySem.W.Frag} {mg mb : Str → Option Value} {k : Nat}
    {fa a : Addr} {fd : FuncData} {x : Str} {sp : Sp} {s1 : Shared} {vs : List Value} {ns : List Int}
    (KX : K.In s1.heap) (hns : s1.heap.Ns mainGlobals mg) (hb : s1.heap.Ns builtinsNs mb)
    (hbb : ∀ x : Str, x ≠ "__name__" → mb x = bootBuiltins x) (hlim : s1.heap.NoLimit)
    (hg : s1.gens = #[]) (ha : s1.heap.get? a = some { cls := .type "list", data := .seq vs.toArray })
    (hi : IntsAre vs ns) (hl : ns.length ≤ sizeLine) (hr : Room k callerA)
    (F : ∀ base : Heap, K.In base → base.Ns mainGlobals mg → FnG P w K mg base CX0 k fa fd [x] sp)
    (hbind : ∀ (s : Shared) (u : Value), BindsTo s fd ⟨[u], []⟩ [(x, u)])
    (hsp : ∀ H : Hp, Only H → SqL K H a (ns.map V.int) → sp [.ref a] H (fun v _ => v = .bl true) fun _ _ _ => False) :
    codeAny (model P w) callerA (.call (.ref fa) ⟨[.ref a], []⟩)
      (fun r s2 => r = .ok (.ret (.bool true)) ∧ OldK s1.heap s2.heap ∧ s2.os = s1.os ∧ AllBare s2.gens) s1 := by
  have rv := vals_ints hi
  have lv := hi.length
  -- over any picture of the heap that knows the script alone
  have main : ∀ H : Hp, Only H → SqL K H a (ns.map V.int) → HOk P w H s1.heap → (∀ b, H b ≠ none → b = a) →
      (H a ≠ none → K.lookup a = none) → codeAny (model P w) callerA (.call (.ref fa) ⟨[.ref a], []⟩)
        (fun r s2 => r = .ok (.ret (.bool true)) ∧ OldK s1.heap s2.heap ∧ s2.os = s1.os ∧ AllBare s2.gens) s1 := by
    intro H hO hS hok hA hK
    have isA : ∀ {b : Addr} {u : HO}, H b = some u → b = a := fun q => hA _ (by rw [q]; simp)
    have offD : ∀ {b : Addr} {o : Obj} {es : Array DictEntry} {ep : Nat}, s1.heap.get? b = some o →
        o.data = .dict es ep → H b = none := by
      intro b o es ep e d
      cases q : H b with
      | none => rfl
      | some u =>
        obtain rfl := isA q
        rw [ha] at e
        cases e
        have d2 : Data.seq vs.toArray _ = Data.dict es ep := d
        cases d2
    have nsH : ∀ {b : Addr} {m : Str → Option Value}, s1.heap.Ns b m → (hidT s1.heap H).Ns b m := by
      rintro b m ⟨o, es, ep, e, d, r⟩
      exact ⟨o, es, ep, hidT_get e (offD e d), d, r⟩
    have kB : K.In (hidT s1.heap H) := by
      intro b o e
      refine hidT_get (KX b o e) ?_
      cases q : H b with
      | none => rfl
      | some u =>
        obtain rfl := isA q
        rw [hK (by rw [q]; simp)] at e
        cases e
    obtain ⟨mc, l1, l2⟩ := hlim
    have hM : Mod K mg (hidT s1.heap H) := ⟨kB, nsH hns, ⟨mb, nsH hb, hbb⟩, ⟨mc, nsH l1, l2⟩⟩
    have e0 : Env0 P w K mg (hidT s1.heap H) callerA [] s1 H :=
      { frames := rfl, mod := hM, bs := fun b o e => of_hidT e, bsz := Nat.le_of_eq (hidT_size _ _),
        funs := trivial, frf := (fun b z => nomatch z), hok := hok, bare := .of_eq hg }
    have z := (F _ kB (nsH hns)).go callerA [] s1 H ⟨[.ref a], []⟩ [.ref a] [.ref a] _ _ hr rfl e0
      (hbind s1 (.ref a)) (.cons rfl .nil) (hsp H hO hS)
    refine codeAny_mono z fun r s2 h => ?_
    match r, h with
    | .error e, h => exact h.elim
    | .ok .next, h => exact h.elim
    | .ok .brk, h => exact h.elim
    | .ok .cont, h => exact h.elim
    | .ok (.ret u), ⟨v, H2, os, bare, un, hok2, rr, q⟩ =>
      have q2 : v = .bl true := q
      subst q2
      obtain rfl : u = Value.bool true := rr
      refine ⟨rfl, OldK.of_keep fun b o e => ?_, os, bare⟩
      rcases hO b with n | ⟨ob, xs, n⟩
      · exact un.keep b o e n (fun z => nomatch z) (fun z => nomatch z)
      · have n2 := un.frzs b ob _ n
        obtain ⟨e1, _⟩ := hok b _ n
        obtain ⟨e2, _⟩ := hok2 b _ n2
        rw [e] at e1
        cases e1
        exact e2
  have hlv : vs.length = ns.length := lv
  cases hk : K.lookup a with
  | some o =>
    have e := KX a o hk
    rw [ha] at e
    cases e
    refine main (fun _ => none) (fun _ => .inl rfl) (.inr ⟨_, vs.toArray, _, hk, rfl, rfl, rfl, ?_, ?_⟩)
      (fun b u z => ?_) (fun b z => absurd rfl z) (fun z => absurd rfl z)
    · rw [List.size_toArray, hlv]; exact hl
    · simpa using rv
    · exact nomatch (show (none : Option HO) = some u from z)
  | none =>
    have yes : ∀ {b : Addr} {o : HO}, b = a → (fun b => if b = a then some o else none : Hp) b = some o := fun e => if_pos e
    have no : ∀ {b : Addr} {o : HO}, b ≠ a → (fun b => if b = a then some o else none : Hp) b = none := fun e => if_neg e
    refine main (fun b => if b = a then some (.frz { cls := .type "list", data := .seq vs.toArray } (.lst (ns.map V.int))) else none)
      (fun b => ?_) (.inl (.inr ⟨_, yes rfl⟩)) (fun b u z => ?_) (fun b z => ?_) fun _ => hk
    · by_cases hb2 : b = a
      · exact .inr ⟨_, _, yes hb2⟩
      · exact .inl (no hb2)
    · by_cases hb2 : b = a
      · have z2 := (yes hb2).symm.trans z
        cases z2
        subst hb2
        exact ⟨ha, by rw [List.length_map]; exact hl, vs, _, rv, ha⟩
      · exact nomatch (no hb2).symm.trans z
    · by_cases hb2 : b = a
      · exact hb2
      · exact absurd (no hb2) z

theorem walk_ofG {l : PySem.W.OpenLaw} {n k : Nat} {q : Program} {loose : List Str}
    {XP : (Str → Option Value) → Heap → Prop} {YP : World → Heap → Prop} {d : DefRec}
    {K : Params → PySem.W.Frag} {sp : World → Sp} {x : Str}
    (hn : l.most = some n) (hn2 : n ≤ sizeLine) (hdf : d.params.defaults = []) (hr : Room k callerA)
    (hY : ∀ (w : World) (h : Heap), YP w h → (K w.params).In h)
    (F : ∀ (w : World) (mg : Str → Option Value) (fa : Addr) (h : Heap), (K w.params).In h →
      h.Ns mainGlobals mg → mg d.name = some (.ref fa) →
      ∃ fd : FuncData, (∀ (s : Shared) (u : Value), BindsTo s fd ⟨[u], []⟩ [(x, u)]) ∧
        ∀ base : Heap, (K w.params).In base → base.Ns mainGlobals mg →
          FnG l.prog w (K w.params) mg base CX0 k fa fd [x] (sp w))
    (hsp : ∀ (w : World) (H : Hp) (a : Addr) (ns : List Int), ns.length ≤ n → Only H →
      SqL (K w.params) H a (ns.map V.int) → sp w [.ref a] H (fun v _ => v = .bl true) fun _ _ _ => False) :
    PySem.W.WalkO q loose XP YP l.row.toRowW d [] (fun f vs => PySem.call f vs) :=
  Att.attach_call hn hdf fun w s0 s1 mg mb fa o pm cd doc a vs ns G Y ho hd hcd hmg hobj hints hlen hg => by
    have KX := hY w _ Y
    obtain ⟨fd, hb, hF⟩ := F w mg fa _ KX G.T.g hmg
    exact law_callG KX G.T.g G.T.b G.T.builtins G.T.nolimit hg hobj hints (Nat.le_trans hlen hn2) hr hF hb
      fun H hO hS => hsp w H a ns hlen hO hS
end GS


set_option Elab.async false
set_option linter.all false
set_option maxRecDepth 100000
set_option maxHeartbeats 4000000
namespace GS
open PySem PySem.Spec PyProof.Rows L2 Evl

/-! an error that stays held behind its except clause -/
def exK (a : Addr) (cls : Value) (d : Option Addr) : HO :=
  .ext fun h => ∃ o vs, h.get? a = some o ∧ o.cls = cls ∧ o.dict = d ∧ o.data = .fields vs
theorem exK_at {P : Program} {w : World} {H : Hp} {h : Heap} {b a : Addr} {cls : Value} {d : Option Addr}
    (ok : HOk P w H h) (e : H b = some (exK a cls d)) :
    ∃ o vs, h.get? a = some o ∧ o.cls = cls ∧ o.dict = d ∧ o.data = .fields vs :=
  (show ObjOk P w H h b (exK a cls d) from ok b _ e).1

section
variable {X : Cx} {pins : List (Addr × Obj)} {σ : L2.St} {H : Hp} {s : Shared} {a : Addr} {o : HO}
/-- an object that was none of the picture's comes into it -/
theorem adopt (I : Inv X pins σ H s) (hn : H a = none) (nL : a ≠ X.env.locals)
    (nC : ∀ x c, X.env.cells.lookup x = some c → c ≠ a) (nP : ∀ p ∈ X.pn ++ pins, p.1 ≠ a)
    (nE : ∀ ob, X.s_0.heap.get? a = some ob → X.H_0 a = none → a ∉ X.ex → False)
    (new : ObjOk X.prog X.w (upd H a o) s.heap a o) : Inv X pins σ (upd H a o) s where
  ok := I.ok
  os := I.os
  bare := I.bare
  base := {
    keep := I.base.keep, slot := I.base.slot, there := I.base.there
    free := fun b ob e n x => by
      by_cases hb : b = a
      · subst hb; exact (nE ob e n x).elim
      · rw [upd_ne hb]; exact I.base.free b ob e n x
    tups := fun b xs e => by
      have z := I.base.tups b xs e
      rw [upd_ne (ne_of_none z hn)]; exact z
    frzs := fun b ob u e => by
      have z := I.base.frzs b ob u e
      rw [upd_ne (ne_of_none z hn)]; exact z
    tbls := fun b ps e => by
      obtain ⟨more, z⟩ := I.base.tbls b ps e
      exact ⟨more, by rw [upd_ne (ne_of_none z hn)]; exact z⟩ }
  loc := I.loc
  cell := I.cell
  free := by rw [upd_ne (Ne.symm nL)]; exact I.free
  freeC := fun x c e => by rw [upd_ne (nC x c e)]; exact I.freeC x c e
  pin := fun p hp => by
    obtain ⟨e, n, r⟩ := I.pin p hp
    exact ⟨e, by rw [upd_ne (nP p hp)]; exact n, r⟩
  hok := fun b u e => by
    by_cases hb : b = a
    · subst hb
      rw [upd_same] at e
      cases e
      exact new
    · rw [upd_ne hb] at e
      refine (I.hok b u e).stay (fun _ _ _ z => z) (fun c z => ?_) (fun c xs z => ?_)
      · rw [upd_ne (ne_of_none z hn)]; exact z
      · rw [upd_ne (ne_of_none z hn)]; exact z
  len := I.len
end

/-- what the clause wishes: the suite's end, then the error held at its address -/
def endK (i : Nat) (a : Addr) (cls : Value) (d : Option Addr) (D : Ends) : Ends where
  nx := fun σ H => H a = none → D.nx (σ.set i none) (upd H a (exK a cls d))
  rt := fun v H => D.rt v H
  bk := fun σ H => D.bk (σ.set i none) H
  ct := fun σ H => D.ct (σ.set i none) H
def wKeep (K : PySem.W.Frag) (c : Value) (i : Nat) (ts : TS) (Wout : WX) (D : Ends) : WX := fun cls d σ H =>
  ∃ b, PySem.W.exmOne K cls c = some b ∧
    (b = true → ∀ a, H a = none → ts (endK i a cls d D) (σ.set i (some (.ref a))) H) ∧
    (b = false → Wout cls d σ H)

section
variable {X : Cx} {x n : Str} {c : Value} {i : Nat} {body suite : List Stmt} {b0 : Stmt} {np pos pos2 : Pos}
  {tb : WX → TS} {ts : TS} {Wout : WX}
theorem ps_try_keep (hs : X.stack = X.env :: X.outer) (hf : X.env.frame = some X.env.locals) (hN : X.N.Nodup)
    (hi : X.N[i]? = some n) (hln : X.env.kindOf n = some .local) (hc : Names X x c) (tk : Takes X Wout)
    (hb : ∀ (W : WX) (pn : List (Addr × Obj)) (xe : Value → Shared → Prop), Takes (X.tr pn xe) W →
      PassesOwn (model X.prog X.w) X.A X.env xe → PSs (X.tr pn xe) body (tb W))
    (hsu : ∀ (a : Addr) (oe : Obj) (pn : List (Addr × Obj)), PSs (X.suite a ((a, oe) :: pn)) (b0 :: suite) ts) :
    PS X (.Try body [.ExceptHandler (some (.Name x np)) (some n) (b0 :: suite) pos2] [] [] pos)
      (fun D σ H => tb (wKeep X.K c i ts Wout D) D σ H) := by
  constructor
  intro pins s σ H D I h
  have ok := I.ok
  have hfr : X.A.frames = some (X.env :: X.outer) := ok.frames.trans (by rw [hs])
  have hloc : Loc X.env.scope n := .inl hln
  refine wpAny_Try_except ?_
  let xe2 : Value → Shared → Prop := fun e s1 =>
    wpAny (model X.prog X.w) X.A (noteFrame e X.env) (fun _ s2 =>
      wpAny (model X.prog X.w) X.A (setFlight e none) (fun _ s3 =>
        wpAny (model X.prog X.w) X.A
          (handleBy e X.env [.ExceptHandler (some (.Name x np)) (some n) (b0 :: suite) pos2])
          (SP X pins D) X.xe s3) X.xe s2) X.xe s1
  have taken : Takes (X.tr (X.pn ++ pins) xe2) (wKeep X.K c i ts Wout D) := by
    rintro u s2 ⟨a, B, sI, pins2, σ2, H2, cls, d, rfl, J2, nb, up, sky, na, os, ag, b, hb1, hyes, hno⟩
    have J : Inv X pins σ2 H2 sI := J2.ofTry ok
    have sky2 : Sky B (X.env :: X.outer) a (Zc cls d) X.env.locals s2.heap := by rw [← hs]; exact sky
    show wpAny (model X.prog X.w) X.A (noteFrame (.ref a) X.env) _ _ _
    refine Sky.land Zc.steady hfr hf sky2 fun h3 fl3 up3 => ?_
    have J3 : Inv X pins σ2 H2 { s2 with heap := h3 } := J.landed nb fl3.1 (up.trans up3) os ag
    obtain ⟨oe3, vs3, he3, hz3, hd3⟩ := fl3.there
    have nfr : a ∉ frs (X.env :: X.outer) := by
      intro hm
      obtain ⟨_, o4, e4, hnf⟩ := fl3.2.2.1.mem hm
      rw [he3] at e4
      cases e4
      exact hnf _ hd3
    have nL : a ≠ X.env.locals := by
      intro z
      exact nfr (List.mem_filterMap.mpr ⟨X.env, List.mem_cons_self, by rw [hf, z]⟩)
    have nF : a ∉ X.fs := by
      intro hm
      obtain ⟨e5, he5, q5⟩ := List.mem_filterMap.mp hm
      exact nfr (List.mem_filterMap.mpr ⟨e5, List.mem_cons_of_mem _ he5, q5⟩)
    have nE : ∀ ob, X.s_0.heap.get? a = some ob → X.H_0 a = none → a ∉ X.ex → False := by
      intro ob e n x
      obtain ⟨o5, e5⟩ := J.base.there a ob e x
      have z := nb a o5 e5 (by rw [hs]; exact nfr)
      rw [fl3.2.1] at z
      cases z
    have S3 := J3.suite he3 hd3 na nL nF
    refine wpAny_handleBy_cons (codeAny_handlers_test ?_) (by intro q; cases q)
    have LT : PySem.W.Looks (model X.prog X.w) h3 (typeOf (.ref a)) cls :=
      fun A Q E s k q => wpAny_typeOf_ref (k _ _ he3) (by rw [hz3.1]; exact q)
    have LM := PySem.W.exm_one (M := model X.prog X.w) (J3.kIn) LT hb1
    have test : ∀ {Q : Value → Shared → Prop} {E : Value → Shared → Prop}, Q c { s2 with heap := h3 } →
        wpAny (model X.prog X.w) (X.A.mark (some (.ref a))) (eval (.Name x np) X.env) Q E { s2 with heap := h3 } := by
      intro Q E q
      obtain ⟨hg, hdbg, hm | ⟨hm, hv, hnn⟩⟩ := hc
      · exact ld_glob (X := X.suite a ((a, oe3) :: (X.pn ++ pins))) S3 hg hm q hdbg
      · exact ld_blt (X := X.suite a ((a, oe3) :: (X.pn ++ pins))) S3 hg hm hv q hnn hdbg
    refine test (LM.here ?_)
    match b, hyes, hno with
    | true, hyes, _ =>
      refine codeAny_handlers_suite_as ?_
      refine HandSPX.lands_againZ fl3 fun h4 fl4 up4 => ?_
      have J4 : Inv X pins σ2 H2 { s2 with heap := h4 } := J.landed nb fl4.1 ((up.trans up3).trans up4) os ag
      obtain ⟨oe4, vs4, he4, hz4, hd4⟩ := fl4.there
      have S4 := J4.suite he4 hd4 na nL nF
      refine store_ok (X := X.suite a ((a, oe4) :: (X.pn ++ pins))) (v := .ref a) S4 hN hi hloc rfl (fun s5 S5 => ?_) (.inr hln)
      have run := (hsu a oe4 (X.pn ++ pins)).run [] s5 _ H2 _ S5 (hyes rfl a na)
      refine wpAny_mono run (fun f s6 hsp => ?_) (fun _ _ z => False.elim z)
      have gone : ∀ {σ6 : L2.St} {H6 : Hp} {Q : Shared → Prop},
          Inv (X.suite a ((a, oe4) :: (X.pn ++ pins))) [] σ6 H6 s6 →
          (∀ s7, Inv X pins (σ6.set i none) H6 s7 → Q s7) →
          wpAny (model X.prog X.w) X.A (do bindName X.env n .none; unbindBehindTheSuite X.env n pos2)
            (fun _ s7 => Q s7) X.xe s6 := by
        intro σ6 H6 Q S6 hq
        exact gone_ok (S6.unsuite ok) hN hi hln hq
      match f, hsp with
      | .brk, ⟨σ6, H6, S6, q6⟩ => exact gone S6 fun s7 J7 => ⟨_, _, J7, q6⟩
      | .cont, ⟨σ6, H6, S6, q6⟩ => exact gone S6 fun s7 J7 => ⟨_, _, J7, q6⟩
      | .ret u, ⟨v6, σ6, H6, S6, r6, q6⟩ => exact gone S6 fun s7 J7 => ⟨_, _, _, J7, r6, q6⟩
      | .next, ⟨σ6, H6, S6, q6⟩ =>
        obtain ⟨e6, n6, _⟩ := S6.pin (a, oe4) (List.mem_append_left _ List.mem_cons_self)
        have U := S6.unsuite ok
        -- the clause's name goes; the error's object is what it was
        have U2 : Inv { X with pn := (a, oe4) :: X.pn } pins σ6 H6 s6 :=
          ⟨⟨ok.mod, ok.kind, ok.glob, ok.blt, ok.above, ok.inj, ok.has, ok.cab, ok.hd, ok.frames, ok.stk, ok.exf, ok.bs, ok.bsz, ok.noex, ok.exfs, ok.funs, ok.frf⟩,
            U.os, U.bare, U.base, U.loc, U.cell, U.free, U.freeC, fun p hp => by
              rcases List.mem_cons.mp hp with e | hp
              · rw [e]
                exact ⟨e6, n6, nL, nF, fun v z => by
                  rw [hd4] at z
                  cases z⟩
              · exact U.pin p hp, U.hok, U.len⟩
        refine gone_ok (X := { X with pn := (a, oe4) :: X.pn }) U2 hN hi hln fun s7 V => ?_
        obtain ⟨e7, n7, _⟩ := V.pin (a, oe4) (List.mem_append_left _ List.mem_cons_self)
        have J7 : Inv X pins (σ6.set i none) H6 s7 :=
          ⟨ok, V.os, V.bare, V.base, V.loc, V.cell, V.free, V.freeC, fun p hp => V.pin p (List.mem_cons_of_mem _ hp), V.hok, V.len⟩
        have hcell : ∀ y cc, X.env.cells.lookup y = some cc → cc ≠ a := by
          intro y cc e z
          obtain ⟨v, o8, ho8, hd8⟩ := J7.cell y cc e
          rw [z, e7] at ho8
          cases ho8
          rw [hd4] at hd8
          cases hd8
        by_cases hp : ∃ p ∈ X.pn ++ pins, p.1 = a
        · obtain ⟨p, hp, ep⟩ := hp
          -- it was there when the try began: no
          obtain ⟨pe, pn2, pl, pf, pd⟩ := J.pin p hp
          have z := nb p.1 _ pe (by rw [hs, ep]; exact nfr)
          rw [ep, fl3.2.1] at z
          cases z
        · refine ⟨_, _, adopt J7 n7 nL hcell (fun p hp2 z => hp ⟨p, hp2, z⟩) nE ?_, q6 n6⟩
          exact ⟨⟨oe4, vs4, e7, hz4.1, hz4.2, hd4⟩, ⟨_, e7⟩, fun h1 h2 ⟨o9, vs9, y1, y2⟩ st => ⟨o9, vs9, st _ y1, y2⟩⟩
    | false, _, hno =>
      show wpAny _ X.A (handleBy (.ref a) X.env []) _ _ _
      refine wpAny_handleBy_nil ?_
      obtain ⟨k1, k2, k3, oe, vs, T, oT, ts2, he, hz, hd, h1, hr⟩ := id fl3
      unfold PySem.passOn
      refine wpAny_bind (wpAny_field he hd h1 ?_)
      have hT : ¬ ((Value.ref T == Value.none) = true) := by simp
      rw [if_neg hT]
      have fin : wpAny (model X.prog X.w) X.A (setFlight (.ref a) X.env.frame)
          (fun _ s4 => wpAny (model X.prog X.w) X.A (throw (.ref a) : Sem Flow) (SP X pins D) X.xe s4)
          X.xe { s2 with heap := h3 } := by
        rw [hf]
        refine HandSPX.setFlight_upZ fl3 fun h4 hh4 up4 => wpAny_throw (tk _ _ ?_)
        have uu := (up.trans up3).trans up4
        exact ⟨a, B, sI, pins, σ2, H2, cls, d, rfl, J, nb, uu, .inr (.inr (by rw [hs]; exact hh4)), na, os, ag, hno rfl⟩
      first
        | exact wpAny_bind (wpAny_pure (wpAny_bind fin))
        | exact wpAny_bind fin
  have run := (hb (wKeep X.K c i ts Wout D) (X.pn ++ pins) xe2 taken PassesOwn.looking).run [] s σ H D (I.toTry _) h
  refine wpAny_mono run (fun f s1 hsp => ?_) (fun _ _ he => he)
  match f, hsp with
  | .next, ⟨σ2, H2, J2, q⟩ => exact wpAny_execs_nil ⟨σ2, H2, J2.ofTry ok, q⟩
  | .brk, ⟨σ2, H2, J2, q⟩ => exact ⟨σ2, H2, J2.ofTry ok, q⟩
  | .cont, ⟨σ2, H2, J2, q⟩ => exact ⟨σ2, H2, J2.ofTry ok, q⟩
  | .ret u, ⟨v, σ2, H2, J2, r, q⟩ => exact ⟨v, σ2, H2, J2.ofTry ok, r, q⟩
end
end GS


set_option Elab.async false
set_option linter.all false
set_option maxRecDepth 100000
set_option maxHeartbeats 4000000
namespace GS
open PySem PySem.Spec PyProof.Rows L2 Evl

/-! what the written part says of an own class of errors -/
structure ErrC (K : PySem.W.Frag) (C : Addr) : Prop where
  cl : (PySem.W.clsIn K C).isSome = true
  ga : PySem.W.findIn K (.ref C) "__getattribute__" = some (some (.builtin "BaseException.__getattribute__"))
  gg : PySem.W.findIn K (.ref C) "__getattr__" = some none
  ex : PySem.W.subIn K (.ref C) (.type "BaseException") = some true
  hd : PySem.W.hasDictIn K C = true
  ca : PySem.W.findIn K (.ref C) "__class__" = some (some (.builtin "object.__class__"))
  cg : PySem.W.specialIn K (.builtin "object.__class__") "__get__" = some (some (.builtin "getset_descriptor.__get__"))
  ct : PySem.W.takesIn K (.builtin "object.__class__") = some true
  mo : PySem.W.mroIn K C (.type "object") = some true
  nv : PySem.W.findIn K (.ref C) "value" = some none

/-- an error held, with its one field -/
def Held (H : Hp) (a C : Addr) (v : V) : Prop :=
  ∃ dd, H a = some (exK a (.ref C) (some dd)) ∧ H dd = some (.xd [("value", v)])
theorem Held.mono {H H2 : Hp} {a C : Addr} {v : V} (e : Ex H H2) (h : Held H a C v) : Held H2 a C v := by
  obtain ⟨dd, h1, h2⟩ := h
  exact ⟨dd, e _ _ h1, e _ _ h2⟩

section
variable {X : Cx} {pins : List (Addr × Obj)} {σ : L2.St} {H : Hp} {s : Shared} {a C : Addr} {v : V}
theorem held_at (I : Inv X pins σ H s) (h : Held H a C v) : ∃ (o od : Obj) (dd : Addr),
    PySem.W.InstAt s.heap a o C (some od) ∧ H dd = some (.xd [("value", v)]) ∧ o.dict = some dd ∧
      ∃ u, RelV v u ∧ PySem.W.lookIn "value" od = some (some u) := by
  obtain ⟨dd, h1, h2⟩ := h
  obtain ⟨o, vs, e1, e2, e3, e4⟩ := exK_at I.hok h1
  obtain ⟨mA, hns, hr⟩ := (show ObjOk X.prog X.w H s.heap dd (.xd [("value", v)]) from I.hok dd _ h2)
  obtain ⟨od, ho, hl⟩ := lookIn_ns hns
  have hrv := hr "value"
  obtain ⟨u, hu, ru⟩ := RelO.some_of (v := v) (o := mA "value") (by
    have z : List.lookup ("value" : Str) [(("value" : Str), v)] = some v := by simp [List.lookup]
    rw [← z]; exact hrv)
  refine ⟨o, od, dd, ⟨e1, e2, ?_, by rw [e3]; exact ho⟩, h2, e3, u, ru, by rw [hl, hu]⟩
  unfold PySem.W.notCls
  rw [e4]
end

/-- isinstance of a held error -/
def rIsHeld (K : PySem.W.Frag) : List V → Hp → VK → Prop := fun xs H Q =>
  ∃ (a C : Addr) (v c : V) (cv : Value) (b : Bool), xs = [.ref a, c] ∧ Held H a C v ∧ ErrC K C ∧
    ClsV c cv ∧ PySem.W.kitOne K (.ref C) cv = some b ∧ Q (.bl b) H
theorem call_isHeld {X : Cx} : CallR X (.builtin "isinstance") (rIsHeld X.K) := by
  intro pins s σ H xs us Q I r h
  obtain ⟨a, C, v, c, cv, b, rfl, hh, T, hc, e, q⟩ := h
  obtain ⟨u1, u2, rfl, r1, r2⟩ := vals2 r
  obtain rfl : u1 = Value.ref a := r1
  have e2 := hc.eq r2
  subst e2
  obtain ⟨o, od, dd, J, _⟩ := held_at I hh
  refine PySem.W.kia_one (PySem.W.kitx_exc T.cl T.ga T.gg T.ex T.ca T.cg T.ct T.mo) I.kIn J e (fun z => nomatch z) ?_
  intro tk
  exact ⟨.bl b, H, I.tok tk, rfl, q⟩
/-- isinstance(x, c), of a value or of a held error, or of None -/
def rIsAny (K : PySem.W.Frag) : List V → Hp → VK → Prop := fun xs H Q => rIsi K xs H Q ∨ rIsHeld K xs H Q
theorem call_isAny {X : Cx} : CallR X (.builtin "isinstance") (rIsAny X.K) := by
  intro pins s σ H xs us Q I r h
  rcases h with h | h
  · exact call_isi pins s σ H xs us Q I r h
  · exact call_isHeld pins s σ H xs us Q I r h

/-- its field -/
def tHeldV (K : PySem.W.Frag) (te : TE) : TE := fun σ H Q => te σ H fun x H1 =>
  ∃ a C v, x = .ref a ∧ Held H1 a C v ∧ ErrC K C ∧ Q v H1
theorem pe_heldv {X : Cx} {e : Expr} {te : TE} {pos : Pos} (he : PE X e te)
    (hb : attributeBase e "value" X.env (eval e X.env) = eval e X.env := by rfl) :
    PE X (.Attribute e "value" pos) (tHeldV X.K te) := by
  constructor
  intro pins s σ H Q I h
  refine attr_of hb (thn (he.run pins s σ H _ I h) fun u s1 hh => ?_)
  obtain ⟨x, H1, I1, rx, a, C, v, ex, hd, T, q⟩ := hh
  subst ex
  obtain rfl : u = Value.ref a := rx
  obtain ⟨o, od, dd, J, _, _, w, rw_, hl⟩ := held_at I1 hd
  refine HandSPX.exc_get I1.kIn J T.ga T.gg T.ex ?_ (handed_of rw_) ⟨v, H1, I1.tok _, rw_, q⟩
  exact PySem.W.findObj_own T.hd T.nv rfl hl

/-! ### data of any depth, an empty dict among it -/
mutual
inductive Rp (K : PySem.W.Frag) (H : Hp) : V → PyData → Prop
  | non : Rp K H .non .none
  | bl (b : Bool) : Rp K H (.bl b) (.bool b)
  | int (i : Int) : Rp K H (.int i) (.int i)
  | str (x : Str) : Rp K H (.str x) (.str x)
  | lst {a : Addr} {xs : List V} {ds : List PyData} (h : SqL K H a xs) (hs : RpAll K H xs ds) : Rp K H (.ref a) (.list ds)
  | tup {a : Addr} {xs : List V} {ds : List PyData} (h : SqT K H a xs) (hs : RpAll K H xs ds) : Rp K H (.ref a) (.tuple ds)
  | emp {a : Addr} (h : H a = some (.dK [])) : Rp K H (.ref a) (.dict [])
inductive RpAll (K : PySem.W.Frag) (H : Hp) : List V → List PyData → Prop
  | nil : RpAll K H [] []
  | cons {v : V} {vs : List V} {d : PyData} {ds : List PyData} (h : Rp K H v d) (hs : RpAll K H vs ds) : RpAll K H (v :: vs) (d :: ds)
end
section
variable {K : PySem.W.Frag} {H H2 : Hp}
mutual
theorem Rp.mono (e : Ex H H2) : ∀ (d : PyData) (v : V), Rp K H v d → Rp K H2 v d
  | .none, _, h => by cases h; exact .non
  | .bool _, _, h => by cases h; exact .bl _
  | .int _, _, h => by cases h; exact .int _
  | .str _, _, h => by cases h; exact .str _
  | .list ds, _, h => by
    cases h with
    | lst h hs => exact .lst (ex_l e h) (RpAll.mono e ds _ hs)
  | .tuple ds, _, h => by
    cases h with
    | tup h hs => exact .tup (ex_t e h) (RpAll.mono e ds _ hs)
  | .dict _, _, h => by
    cases h with
    | emp h => exact .emp (e _ _ h)
theorem RpAll.mono (e : Ex H H2) : ∀ (ds : List PyData) (vs : List V), RpAll K H vs ds → RpAll K H2 vs ds
  | [], _, h => by cases h; exact .nil
  | d :: ds, _, h => by
    cases h with
    | cons h hs => exact .cons (Rp.mono e d _ h) (RpAll.mono e ds _ hs)
end
theorem Rp.to (h : Rp K H v d) (e : Ex H H2) : Rp K H2 v d := Rp.mono e d v h
theorem RpAll.to (h : RpAll K H vs ds) (e : Ex H H2) : RpAll K H2 vs ds := RpAll.mono e ds vs h
theorem RpAll.length : ∀ {vs : List V} {ds : List PyData}, RpAll K H vs ds → vs.length = ds.length
  | [], [], _ => rfl
  | [], _ :: _, h => by cases h
  | _ :: _, [], h => by cases h
  | _ :: vs, _ :: ds, h => by
    cases h with
    | cons _ hs => rw [List.length_cons, List.length_cons, RpAll.length hs]
theorem RpAll.get : ∀ {vs : List V} {ds : List PyData} {i : Nat} {v : V}, RpAll K H vs ds → vs[i]? = some v →
    ∃ d, ds[i]? = some d ∧ Rp K H v d
  | [], _, i, v, h, e => by simp at e
  | _ :: _, [], _, _, h, _ => by cases h
  | w :: vs, d :: ds, 0, v, h, e => by
    cases h with
    | cons h hs =>
      simp at e
      subst e
      exact ⟨d, rfl, h⟩
  | w :: vs, d :: ds, i + 1, v, h, e => by
    cases h with
    | cons h hs =>
      obtain ⟨d2, e2, r⟩ := RpAll.get (i := i) hs (by simpa using e)
      exact ⟨d2, by simpa using e2, r⟩
theorem rpInts : ∀ (ns : List Int), RpAll K H (ns.map V.int) (ns.map PyData.int)
  | [] => .nil
  | n :: ns => .cons (.int n) (rpInts ns)
theorem rpBools : ∀ (ns : List Bool), RpAll K H (ns.map V.bl) (ns.map PyData.bool)
  | [] => .nil
  | n :: ns => .cons (.bl n) (rpBools ns)
mutual
theorem Rp.dp : ∀ (d : PyData) (v : V), Rp K H v d → d.hasDict = false → Dp K H v d
  | .none, _, h, _ => by cases h; exact .non
  | .bool _, _, h, _ => by cases h; exact .bl _
  | .int _, _, h, _ => by cases h; exact .int _
  | .str _, _, h, _ => by cases h; exact .str _
  | .list ds, _, h, n => by
    cases h with
    | lst h hs => exact .lst h (RpAll.dp ds _ hs (by simpa [PyData.hasDict] using n))
  | .tuple ds, _, h, n => by
    cases h with
    | tup h hs => exact .tup h (RpAll.dp ds _ hs (by simpa [PyData.hasDict] using n))
  | .dict _, _, _, n => by simp [PyData.hasDict] at n
theorem RpAll.dp : ∀ (ds : List PyData) (vs : List V), RpAll K H vs ds → PyData.hasDictAll ds = false → DpAll K H vs ds
  | [], _, h, _ => by cases h; exact .nil
  | d :: ds, _, h, n => by
    have n2 : (d.hasDict || PyData.hasDictAll ds) = false := by simpa [PyData.hasDictAll] using n
    obtain ⟨n3, n4⟩ := Bool.or_eq_false_iff.mp n2
    cases h with
    | cons h hs => exact .cons (Rp.dp d _ h n3) (RpAll.dp ds _ hs n4)
end
/-- the name of a datum's type -/
def tyD : PyData → String
  | .none => "NoneType"
  | .bool _ => "bool"
  | .int _ => "int"
  | .str _ => "str"
  | .list _ => "list"
  | .tuple _ => "tuple"
  | .dict _ => "dict"
theorem Rp.ty {v : V} {d : PyData} (h : Rp K H v d) : TyX K H v (.type (tyD d)) := by
  cases h with
  | non => exact .base .non
  | bl b => exact .base (.bl b)
  | int i => exact .base (.int i)
  | str x => exact .base (.str x)
  | lst h hs =>
    rcases h with (h | ⟨o, h⟩) | ⟨o, its, n, h, hc, _⟩
    · exact .base (.lst h)
    · exact .base (.frz h)
    · exact .kList h hc
  | tup h hs =>
    rcases h with (h | ⟨o, h⟩) | ⟨o, its, n, h, hc, _⟩
    · exact .base (.tup h)
    · exact .fTuple h
    · exact .kTuple h hc
  | emp h => exact .base (.dK h)
end

section
variable {X : Cx} {pins : List (Addr × Obj)} {σ : L2.St} {H : Hp} {s : Shared}
theorem Rp.reads (I : Inv X pins σ H s) {d : PyData} {v : V} {u : Value} (h : Rp X.K H v d) (r : RelV v u)
    (hd : d.hasDict = false ∨ d = .dict []) : ∃ as, Reads s.heap u d as ∧ (d.hasDict = true → sysModules ∉ as) := by
  rcases hd with hd | rfl
  · obtain ⟨as, z⟩ := Dp.reads I d v u (Rp.dp d v h hd) r
    exact ⟨as, z, fun q => by rw [hd] at q; cases q⟩
  · cases h with
    | @emp a h =>
      obtain rfl : u = Value.ref a := r
      obtain ⟨_, ns, vs, kv, o, es, ep, h1, h2, h3, _, h4, _⟩ := (show ObjOk X.prog X.w H s.heap a (.dK []) from I.hok a _ h)
      cases kv
      have hes : es.toList = [] := by
        have z := h4.length
        exact List.eq_nil_of_length_eq_zero (by simpa using z)
      refine ⟨[a] ++ [] ++ [], Reads.dict h1 h2.1 h3 (by rw [hes]; exact .nil) (by rw [hes]; exact .nil), fun _ hm => ?_⟩
      have e : sysModules = a := by simpa using hm
      rw [← e] at ns
      simp at ns
end

/-- repr(x), where nothing is being shown -/
def rRepr (K : PySem.W.Frag) : List V → Hp → VK → Prop := fun xs H Q => ∃ v d, xs = [v] ∧ Rp K H v d ∧
  (d.hasDict = false ∨ d = .dict []) ∧ d.showable = true ∧ d.depth ≤ 60 ∧ d.shown.length ≤ sizeLine ∧ Q (.str d.shown) H
theorem call_repr_any {X : Cx} (hq : X.A.guards = some []) (hu : X.A.units + 64 < cLine) :
    CallR X (.builtin "repr") (rRepr X.K) := by
  intro pins s σ H xs us Q I r h
  obtain ⟨v, d, rfl, hv, hd, sh, dep, len, q⟩ := h
  cases r with
  | cons r rr =>
    cases rr
    rename_i u
    obtain ⟨as, rd, ns⟩ := hv.reads I r hd
    have done : ∀ (h' : Heap) (tk : Nat) (t : Tok), (∀ b o, s.heap.get? b = some o → h'.get? b = some o) →
        EP X pins σ Q (.str d.shown t) { s with heap := h', toks := tk } := by
      intro h' tk t k
      exact ⟨.str d.shown, H, I.kept (t' := tk) k, ⟨t, rfl⟩, q⟩
    have big : ∀ {a : Addr}, u = .ref a → wpAny (model X.prog X.w) X.A (call (.builtin "repr") [u]) (EP X pins σ Q) X.xe s := by
      rintro a rfl
      exact repr_of_reads' rd sh ns hq (by omega) (fun _ _ e => e) (fun h' t tk k => done h' tk t k) len
    cases hv with
    | non =>
      obtain rfl : u = Value.none := r
      exact PySem.P.repr_of_none (done s.heap _ _ fun _ _ e => e)
    | bl b =>
      obtain rfl : u = Value.bool b := r
      have z := done s.heap (s.toks + 1) s.toks fun _ _ e => e
      exact PySem.P.repr_of_bool (by simpa only [PyData.shown] using z)
    | int i =>
      obtain ⟨t, rfl⟩ := r
      have z := done s.heap (s.toks + 1) s.toks fun _ _ e => e
      refine PySem.P.repr_of_int ?_ (by simpa only [PyData.shown] using z)
      simpa [PyData.showable] using sh
    | str x =>
      obtain ⟨t, rfl⟩ := r
      have z := done s.heap (s.toks + 1) s.toks fun _ _ e => e
      exact PySem.P.repr_of_str (by simpa only [PyData.shown] using z) (by simpa only [PyData.shown] using len)
    | @lst a xs ds h hs => exact big (a := a) r
    | @tup a xs ds h hs => exact big (a := a) r
    | @emp a h => exact big (a := a) r
end GS


set_option Elab.async false
set_option linter.all false
set_option maxRecDepth 100000
set_option maxHeartbeats 4000000
namespace GS
open PySem PySem.Spec PyProof.Rows L2 Evl

/-- a def (or a method) whose defaults are of any kind -/
structure FunV (K : PySem.W.Frag) (x qual : Str) (st : Stmt) (f : Addr) (fd : FuncData) : Prop where
  ex : ∃ (oc : Value) (od : Option Addr) (dV kV doc pm : Value) (an : Option Addr) (cdv ct : Value) (osl : Array (Option Value)),
    fd = PySem.W.fnOf x qual (defArgs st) (defBody st) (defScope st) dV kV doc pm an cdv ct ∧
      K.lookup f = some ⟨oc, od, .func fd, osl⟩ ∧ PySem.W.codeIn K cdv qual = true
section
variable {P : Program} {w : World} {K : PySem.W.Frag} {mg : Str → Option Value} {base : Heap}
theorem fun_v {x qual : Str} {st : Stmt} {f : Addr} {fd : FuncData} {N ps : List Str} {k : Nat} {sp : Sp}
    (F : FunV K x qual st f fd) (S : FnScope N ps (defScope st)) (len : ∀ vs H Q E, sp vs H Q E → vs.length = ps.length)
    (hb : ∀ (cdv : Value) (A : Around) (outer : List Env) (s : Shared) (H : Hp) (vs : List V) (Q : VK) (E : XK),
      Room k (A.deeper (envOfC qual (defScope st) s.heap.objs.size f cdv)) → sp vs H Q E →
      ∃ t, PSs (cxOf CX0 P w K mg base N qual (defScope st) f cdv A outer s H E).nox (defBody st) t ∧
        t { nx := fun _ H' => Q .non H', rt := Q } (start N vs) H) : FnOk P w K mg base CX0 (k + 1) f fd ps sp := by
  obtain ⟨oc, od, dV, kV, doc, pm, an, cdv, ct, osl, rfl, lk, hcd⟩ := F.ex
  refine fn_of lk hcd S len fun A outer s H vs Q E hr hsp => ?_
  obtain ⟨t, h, q⟩ := hb cdv A outer s H vs Q E hr hsp
  exact ⟨t, h.nox, q⟩
theorem FunV.binds {x qual : Str} {st : Stmt} {f : Addr} {fd : FuncData} {ps : List Str} (F : FunV K x qual st f fd)
    (h : ∀ (dV kV doc pm : Value) (an : Option Addr) (cdv ct : Value) (us : List Value), us.length = ps.length →
      bindArgs (PySem.W.fnOf x qual (defArgs st) (defBody st) (defScope st) dV kV doc pm an cdv ct) ⟨us, []⟩ = pure (ps.zip us)) : Binds K fd ps [] := by
  obtain ⟨oc, od, dV, kV, doc, pm, an, cdv, ct, osl, rfl, lk, hcd⟩ := F.ex
  exact .all (h dV kV doc pm an cdv ct)
end

section
variable {X : Cx} {x : Str} {pos : Pos} {i : Int}
theorem pe_const (hg : Gl X x) (h : ∃ tk, X.mg x = some (.int i tk)) (hd : (x == ("__debug__" : Str)) = false := by decide)
    (hcd : (x == ("__classdict__" : Str)) = false := by decide) : PE X (.Name x pos) (tC (.int i)) := by
  obtain ⟨tk, h⟩ := h
  exact pe_glob (v := .int i) hg h (show RelV (.int i) (.int i tk) from ⟨tk, rfl⟩) hd
end

section
variable {X : Cx} {CX : CXT} {k : Nat} {f : Addr} {fd : FuncData} {ps ks : List Str} {sp : Sp} {E : XK} {x : Str}
  {p pos : Pos} {kws : List Keyword} {tk : TA} {g : List Value → List Value → List Value} {gV : List V → List V → List V}
/-- f(k = v, ..) -/
theorem pe_callK0 (F : FnOk X.prog X.w X.K X.mg X.base CX k f fd ps sp) (hr : Room k X.A) (hg : Gl X x)
    (hm : X.mg x = some (.ref f)) (hk : PySem.W.keepIn X.K (.ref f) = true) (hb : KBinds X.K fd ps ks g gV)
    (hx : Passes CX X E) (hkw : PK X kws tk)
    (hall : (backToKw pos (keywordEach kws X.env)).all (·.1.isSome) = true := by rfl)
    (hks : (backToKw pos (keywordEach kws X.env)).filterMap (·.1) = ks := by rfl)
    (hdb : (x == ("__debug__" : Str)) = false := by decide)
    (hpl : ((backTo pos (starEach [] X.env)).any (·.1) || (backToKw pos (keywordEach kws X.env)).any (·.1.isNone)) = false := by rfl) :
    PE X (.Call (.Name x p) [] kws pos) (tCallK sp gV E tNil tk) := by
  constructor
  intro pins s σ H Q I h
  refine wpAny_Call_Name_kw (ld_glob I hg hm ?_ hdb)
  refine PySem.W.callWith_KW0 (h₀ := X.base) I.ok.mod.kin hk hall ?_ hpl
  refine thn (hkw.run pos pins s σ H _ I h) fun ws s2 ⟨zs, H2, I2, rz, q2⟩ => ⟨I2.kIn, ?_⟩
  rw [hks]
  exact run_fnk (us := []) (vs := []) F hr hb hx I2 .nil rz q2
end

/-! powers of written numbers -/
def CPowX : Int → Int → Prop := fun i j => 0 ≤ j ∧ (Builtin.Int.intBits i : Int) * j ≤ 2 ^ 27
theorem op_powX {X : Cx} : OpR X (binaryOp .Pow) (rI CPowX fun i j => .int (i ^ j.toNat)) := by
  intro pins s σ H x y u v Q I rx ry h
  obtain ⟨i, j, rfl, rfl, c, q⟩ := h
  obtain ⟨t, rfl⟩ := rx
  obtain ⟨t', rfl⟩ := ry
  exact pow_int c.1 c.2 ⟨.int _, H, I.tok _, ⟨_, rfl⟩, q⟩

theorem bits_le_of {i : Int} {n : Nat} (h : i.natAbs < 2 ^ n) : Builtin.Int.intBits i ≤ n := PySem.intBits_le_iff.mpr h
theorem mulX {i j : Int} (hi : i.natAbs < 2 ^ 64) (hj : j.natAbs < 2 ^ 64) : CMulX i j := by
  have h1 := bits_le_of (n := 64) hi
  have h2 := bits_le_of (n := 64) hj
  show ((Builtin.Int.intBits i : Nat) : Int) + ((Builtin.Int.intBits j : Nat) : Int) ≤ 134217728
  omega

/-! ### data: what evaluates to it -/
def EvD (K : PySem.W.Frag) (te : TE) (σ : L2.St) (H : Hp) (d : PyData) : Prop :=
  ∀ H1, Ex H H1 → ∀ Q : VK, (∀ v H2, Ex H1 H2 → Rp K H2 v d → Q v H2) → te σ H1 Q
def EvDA (K : PySem.W.Frag) (ta : TA) (σ : L2.St) (H : Hp) (ds : List PyData) : Prop :=
  ∀ H1, Ex H H1 → ∀ Q : List V → Hp → Prop, (∀ vs H2, Ex H1 H2 → RpAll K H2 vs ds → Q vs H2) → ta σ H1 Q
/-- a new list of data -/
def EvLD (K : PySem.W.Frag) (te : TE) (σ : L2.St) (H : Hp) (ds : List PyData) : Prop :=
  ∀ H1, Ex H H1 → ∀ Q : VK, (∀ p xs H2, H1 p = none → Ex H1 H2 → H2 p = some (.lst xs) → RpAll K H2 xs ds → Q (.ref p) H2) → te σ H1 Q
section
variable {K : PySem.W.Frag} {σ : L2.St} {H H' : Hp} {ta tb te : TE} {x y z v : V} {d e : PyData} {ds es : List PyData}
theorem EvD.mono (a : Ex H H') (h : EvD K te σ H d) : EvD K te σ H' d := fun H1 b Q q => h H1 (a.trans b) Q q
theorem EvLD.mono (a : Ex H H') (h : EvLD K te σ H ds) : EvLD K te σ H' ds := fun H1 b Q q => h H1 (a.trans b) Q q
theorem ed_new (h : EvLD K te σ H ds) : EvD K te σ H (.list ds) := fun H1 a Q q =>
  h H1 a Q fun p xs H2 _ e2 hp hr => q (.ref p) H2 e2 (.lst (sq_of hp) hr)
theorem EvL.ld {xs : List V} (h : EvL te σ H xs) (hr : ∀ H2, RpAll K H2 xs ds) : EvLD K te σ H ds := fun H1 a Q q =>
  h H1 a Q fun p H2 n e2 hp => q p xs H2 n e2 hp (hr H2)
theorem ed_of (h : Ev te σ H v) (hr : Rp K H v d) : EvD K te σ H d := fun H1 a Q q =>
  h H1 a Q fun H2 e2 => q v H2 e2 (hr.to (a.trans e2))
theorem ed_var {i : Nat} (h : σ[i]? = some (some v)) (hr : Rp K H v d) : EvD K (tVar i) σ H d := ed_of (ev_var h) hr
theorem ed_int {i : Int} (h : Ev te σ H (.int i)) : EvD K te σ H (.int i) := ed_of h (.int i)
theorem ed_bl {b : Bool} (h : Ev te σ H (.bl b)) : EvD K te σ H (.bool b) := ed_of h (.bl b)
theorem ed_str {b : Str} (h : Ev te σ H (.str b)) : EvD K te σ H (.str b) := ed_of h (.str b)
theorem ed_non (h : Ev te σ H .non) : EvD K te σ H .none := ed_of h .non
theorem EvD.int {i : Int} (h : EvD K te σ H (.int i)) : Ev te σ H (.int i) := fun H1 a Q q =>
  h H1 a Q fun v H2 e2 hr => by
    cases hr
    exact q H2 e2
theorem eda_nil : EvDA K tNil σ H [] := fun H1 _ Q q => q [] H1 (Ex.refl _) .nil
theorem eda_cons {tr : TA} (h : EvD K ta σ H d) (hr : EvDA K tr σ H ds) : EvDA K (tCons ta tr) σ H (d :: ds) := fun H1 a Q q =>
  h H1 a _ fun v H2 e2 r => hr H2 (a.trans e2) _ fun vs H3 e3 rr => q (v :: vs) H3 (e2.trans e3) (.cons (r.to e3) rr)
theorem eld_lst {tr : TA} (h : EvDA K tr σ H ds) (hl : ds.length ≤ 100000) : EvLD K (tLst tr) σ H ds := fun H1 a Q q =>
  h H1 a _ fun vs H2 e2 r => ⟨sz_of (by rw [r.length]; exact hl), fun p hp =>
    q p vs _ (fresh_back e2 hp) (e2.trans (Ex.new hp)) upd_same (r.to (Ex.new hp))⟩
theorem ed_lst {tr : TA} (h : EvDA K tr σ H ds) (hl : ds.length ≤ 100000) : EvD K (tLst tr) σ H (.list ds) := ed_new (eld_lst h hl)
theorem ed_tup {tr : TA} (h : EvDA K tr σ H ds) (hl : ds.length ≤ 100000) : EvD K (tTup tr) σ H (.tuple ds) := fun H1 a Q q =>
  h H1 a _ fun vs H2 e2 r => ⟨sz_of (by rw [r.length]; exact hl), fun p hp =>
    q (.ref p) _ (e2.trans (Ex.new hp)) (.tup (st_of upd_same) (r.to (Ex.new hp)))⟩
theorem ed_emp : EvD K tDNewK σ H (.dict []) := fun H1 a Q q p hp => q (.ref p) _ (Ex.new hp) (.emp upd_same)
theorem ev_eqD (ha : EvD K ta σ H d) (hb : EvD K tb σ H e) (n1 : d.hasDict = false) (n2 : e.hasDict = false)
    (s1 : SeqAt.shaped d = true) (s2 : SeqAt.shaped e = true) : Ev (tOp (rEqD K) ta tb) σ H (.bl (PyData.eqv d e)) := fun H1 a Q q =>
  ha H1 a _ fun v H2 e2 r => hb H2 (a.trans e2) _ fun u H3 e3 r2 =>
    ⟨d, e, Rp.dp d v (r.to e3) n1, Rp.dp e u r2 n2, s1, s2, q H3 (e2.trans e3)⟩
theorem ev_neD (ha : EvD K ta σ H d) (hb : EvD K tb σ H e) (n1 : d.hasDict = false) (n2 : e.hasDict = false)
    (s1 : SeqAt.shaped d = true) (s2 : SeqAt.shaped e = true) : Ev (tOp (rNeD K) ta tb) σ H (.bl (!PyData.eqv d e)) := fun H1 a Q q =>
  ha H1 a _ fun v H2 e2 r => hb H2 (a.trans e2) _ fun u H3 e3 r2 =>
    ⟨d, e, Rp.dp d v (r.to e3) n1, Rp.dp e u r2 n2, s1, s2, q H3 (e2.trans e3)⟩
theorem ev_repr (ha : EvD K ta σ H d) (n1 : d.hasDict = false ∨ d = .dict []) (sh : d.showable = true) (dp : d.depth ≤ 60)
    (len : d.shown.length ≤ sizeLine) : Ev (tCB (rRepr K) (tCons ta tNil)) σ H (.str d.shown) := fun H1 a Q q =>
  ha H1 a _ fun v H2 e2 r => ⟨v, d, rfl, r, n1, sh, dp, len, q H2 e2⟩
theorem ev_isT {T : String} {b : Bool} (ha : EvD K ta σ H d) (hk : kitB (tyD d) T = some b) :
    Ev (tCB (rIsAny K) (tCons ta (tCons (tC (.ty T)) tNil))) σ H (.bl b) := fun H1 a Q q =>
  ha H1 a _ fun v H2 e2 r => .inl ⟨v, .ty T, _, _, b, rfl, .ty T, r.ty, kit_ty hk, q H2 e2⟩
/-- the calls of one's own defs -/
theorem ev_own {sp : Sp} {E : XK} {t : TA} {vs : List V} (h : EvA t σ H vs)
    (k : ∀ H1, Ex H H1 → ∀ Q : VK, (∀ H2, Ex H1 H2 → Q v H2) → sp vs H1 Q E) : Ev (tCall sp [] E t) σ H v := fun H1 a Q q =>
  h H1 a _ fun H2 e2 => by
    rw [List.append_nil]
    exact k H2 (a.trans e2) Q fun H3 e3 => q H3 (e2.trans e3)
theorem el_own {sp : Sp} {E : XK} {t : TA} {vs xs : List V} (h : EvA t σ H vs)
    (k : ∀ H1, Ex H H1 → ∀ Q : VK, (∀ p H2, H1 p = none → Ex H1 H2 → H2 p = some (.lst xs) → Q (.ref p) H2) → sp vs H1 Q E) :
    EvL (tCall sp [] E t) σ H xs := fun H1 a Q q =>
  h H1 a _ fun H2 e2 => by
    rw [List.append_nil]
    exact k H2 (a.trans e2) Q fun p H3 n e3 hp => q p H3 (fresh_back e2 n) (e2.trans e3) hp
/-- a call whose arguments are data -/
theorem ev_ownD {sp : Sp} {E : XK} {t : TA} (h : EvDA K t σ H ds)
    (k : ∀ vs H1, Ex H H1 → RpAll K H1 vs ds → ∀ Q : VK, (∀ H2, Ex H1 H2 → Q v H2) → sp vs H1 Q E) : Ev (tCall sp [] E t) σ H v := fun H1 a Q q =>
  h H1 a _ fun vs H2 e2 r => by
    rw [List.append_nil]
    exact k vs H2 (a.trans e2) r Q fun H3 e3 => q H3 (e2.trans e3)
theorem ed_if {t : TT} {b : Bool} (h : EvT t σ H b) (h1 : b = true → EvD K ta σ H d) (h2 : b = false → EvD K tb σ H d) : EvD K (tIf t ta tb) σ H d := fun H1 e Q q =>
  h H1 e _ fun H2 e2 => by
    cases b with
    | true => exact h1 rfl H2 (e.trans e2) Q fun v H3 e3 r => q v H3 (e2.trans e3) r
    | false => exact h2 rfl H2 (e.trans e2) Q fun v H3 e3 r => q v H3 (e2.trans e3) r
end
end GS


set_option Elab.async false
set_option linter.all false
set_option maxRecDepth 100000
set_option maxHeartbeats 4000000
namespace GS
open PySem PySem.Spec PyProof.Rows L2 Evl

theorem RpAll.app {K : PySem.W.Frag} {H : Hp} : ∀ {us ws : List V} {xs ys : List PyData}, RpAll K H us xs → RpAll K H ws ys → RpAll K H (us ++ ws) (xs ++ ys)
  | [], _, _, _, h, k => by cases h; exact k
  | _ :: us, _, _, _, h, k => by
    cases h with
    | cons h hs => exact .cons h (RpAll.app hs k)
/-! ### calls of what is built in, by short names -/
def rInt1 : List V → Hp → VK → Prop := fun xs H Q => ∃ i, xs = [.int i] ∧ Q (.int i) H
def rMin2 : List V → Hp → VK → Prop := fun xs H Q => ∃ i j, xs = [.int i, .int j] ∧ Q (.int (if j < i then j else i)) H
def rIsNone : R2 := fun x y H Q => y = .non ∧ Q (.bl (decide (x = .non))) H
def rNotNone : R2 := fun x y H Q => y = .non ∧ Q (.bl (!decide (x = .non))) H
section
variable {X : Cx}
theorem c_isN : OpR X (compareOp .Is) rIsNone := op_isN
theorem c_notN : OpR X (compareOp .IsNot) rNotNone := op_notN
theorem c_int : CallR X (.type "int") rInt1 := fun pins s σ H xs us Q I r h => call_int1 pins s σ H xs us Q I r (.inl h)
theorem c_max2 (hc : X.calm = true) : CallR X (.builtin "max") rMax2 := call_max2 hc
theorem c_min2 (hc : X.calm = true) : CallR X (.builtin "min") rMin2 := call_min2 hc
theorem c_len : CallR X (.builtin "len") (rLenS X.K) := call_len_seq
theorem c_list : CallR X (.type "list") (rListS X.K) := call_list_of
end
section
variable {K : PySem.W.Frag} {σ : L2.St} {H H' : Hp} {ta tb te : TE} {x y z v : V} {i j : Int}
theorem ev_int1 (h : Ev ta σ H (.int i)) : Ev (tCB rInt1 (tCons ta tNil)) σ H (.int i) := fun H1 e Q q =>
  h H1 e _ fun H2 e2 => ⟨i, rfl, q H2 e2⟩
theorem ev_min2 (ha : Ev ta σ H (.int i)) (hb : Ev tb σ H (.int j)) : Ev (tCB rMin2 (tCons ta (tCons tb tNil))) σ H (.int (if j < i then j else i)) := fun H1 e Q q =>
  ha H1 e _ fun H2 e2 => hb H2 (e.trans e2) _ fun H3 e3 => ⟨i, j, rfl, q H3 (e2.trans e3)⟩
theorem ev_sum {p : Addr} {ns : List Int} (ha : Ev ta σ H (.ref p)) (h : SqL K H p (ns.map V.int)) : Ev (tCB (rSum K) (tCons ta tNil)) σ H (.int ns.sum) := fun H1 e Q q =>
  ha H1 e _ fun H2 e2 => ⟨p, ns, rfl, ex_l (e.trans e2) h, q H2 e2⟩
theorem ev_sumN {ns : List Int} (ha : EvL ta σ H (ns.map V.int)) : Ev (tCB (rSum K) (tCons ta tNil)) σ H (.int ns.sum) := fun H1 e Q q =>
  ha H1 e _ fun p H2 _ e2 h2 => ⟨p, ns, rfl, sq_of h2, q H2 e2⟩
theorem ev_all {bs : List Bool} (ha : EvL ta σ H (bs.map V.bl)) : Ev (tCB (rAll K) (tCons ta tNil)) σ H (.bl (bs.all id)) := fun H1 e Q q =>
  ha H1 e _ fun p H2 _ e2 h2 => ⟨p, bs, rfl, sq_of h2, q H2 e2⟩
theorem ev_bits (ha : Ev ta σ H (.int i)) : Ev (tBits ta) σ H (.int (Builtin.Int.intBits i : Nat)) := fun H1 e Q q =>
  ha H1 e _ fun H2 e2 => ⟨i, rfl, q H2 e2⟩
theorem ev_ixL {p : Addr} {xs : List V} (ha : Ev ta σ H (.ref p)) (hb : Ev tb σ H (.int i)) (h : SqL K H p xs) (hi : atI xs i = some v) :
    Ev (tOp (rIxL K) ta tb) σ H v := ev_op ha hb (rv_ixL h hi)
theorem ev_isN (ha : Ev ta σ H x) : Ev (tOp rIsNone ta (tC .non)) σ H (.bl (decide (x = .non))) := fun H1 e Q q =>
  ha H1 e _ fun H2 e2 => ⟨rfl, q H2 e2⟩
theorem ev_notN (ha : Ev ta σ H x) : Ev (tOp rNotNone ta (tC .non)) σ H (.bl (!decide (x = .non))) := fun H1 e Q q =>
  ha H1 e _ fun H2 e2 => ⟨rfl, q H2 e2⟩
theorem ev_one (h : Ev ta σ H v) : Ev ta σ H v := h
theorem CMulX.of {m n : Nat} (hi : Builtin.Int.intBits i ≤ m) (hj : Builtin.Int.intBits j ≤ n) (h : m + n ≤ 134217728) : CMulX i j := by
  show ((Builtin.Int.intBits i : Nat) : Int) + ((Builtin.Int.intBits j : Nat) : Int) ≤ 134217728
  omega
theorem bits64 (h : -(2 ^ 64) < i ∧ i < 2 ^ 64) : Builtin.Int.intBits i ≤ 64 := PySem.intBits_le_iff.mpr (by omega)
theorem bitsM {m n : Nat} (h : Builtin.Int.intBits i ≤ m) (h2 : Builtin.Int.intBits j ≤ n) : Builtin.Int.intBits (i * j) ≤ m + n := PySem.intBits_mul_le h h2
end
/-! ### tests -/
section
variable {K : PySem.W.Frag} {σ : L2.St} {H H' : Hp} {ta tb te : TE} {t u : TT}
theorem et_pt {b : Bool} (h : EvT t σ H b) : EvT t σ H b := h
theorem ev_andB {a b : Bool} (h1 : Ev ta σ H (.bl a)) (h2 : a = true → Ev tb σ H (.bl b)) (c : Bool) (hc : c = (a && b)) : Ev (tAndV ta tb) σ H (.bl c) := by
  rw [hc]; exact ev_andV h1 h2
end

section
variable {σ : L2.St} {H : Hp} {te : TE} {D : Ends} {tz : TS}
theorem q_set {i : Nat} (k : te σ H fun x H1 => tz D (σ.set i (some x)) H1) : tSeq (tAsg te (gName i)) tz D σ H := k
theorem s_set {i : Nat} (k : te σ H fun x H1 => D.nx (σ.set i (some x)) H1) : tAsg te (gName i) D σ H := k
theorem q_seq {t : TS} (k : t { D with nx := tz D } σ H) : tSeq t tz D σ H := k
end
section
variable {K : PySem.W.Frag} {σ : L2.St} {H : Hp} {ta tb te : TE}
theorem el_cat {xs ys : List V} (ha : EvL ta σ H xs) (hb : EvL tb σ H ys) (hl : xs.length + ys.length ≤ 100000) : EvL (tOp rCat ta tb) σ H (xs ++ ys) := fun H1 e Q q =>
  ha H1 e _ fun p H2 n2 e2 hp => hb H2 (e.trans e2) _ fun r H3 n3 e3 hr =>
    ⟨p, r, xs, ys, rfl, rfl, e3 _ _ hp, hr, sz_of hl, fun u nu =>
      q u _ (fresh_back (e2.trans e3) nu) ((e2.trans e3).trans (Ex.new nu)) upd_same⟩
theorem eld_cat {xs ys : List PyData} (ha : EvLD K ta σ H xs) (hb : EvLD K tb σ H ys) (hl : xs.length + ys.length ≤ 100000) : EvLD K (tOp rCat ta tb) σ H (xs ++ ys) := fun H1 e Q q =>
  ha H1 e _ fun p us H2 n2 e2 hp r1 => hb H2 (e.trans e2) _ fun r ws H3 n3 e3 hr r2 =>
    ⟨p, r, us, ws, rfl, rfl, e3 _ _ hp, hr, sz_of (by rw [r1.length, r2.length]; exact hl), fun u nu =>
      q u _ _ (fresh_back (e2.trans e3) nu) ((e2.trans e3).trans (Ex.new nu)) upd_same (((r1.to e3).app r2).to (Ex.new nu))⟩
end
/-! ### lists of whole numbers -/
theorem given_all (n : Nat) (v : Nat → V) : given n (fun _ => true) v = (List.range n).map v := by
  unfold given
  rw [List.filter_eq_self.mpr (fun _ _ => rfl)]
theorem getI {ns : List Int} {i : Nat} {x : V} (h : (ns.map V.int)[i]? = some x) : ∃ k, ns[i]? = some k ∧ x = .int k := by
  rw [List.getElem?_map] at h
  obtain ⟨k, h1, h2⟩ := Option.map_eq_some_iff.mp h
  exact ⟨k, h1, h2.symm⟩
theorem atI_int {ns : List Int} {j : Nat} {k : Int} (h : ns[j]? = some k) : atI (ns.map V.int) (j : Int) = some (.int k) :=
  atI_nat (by rw [List.getElem?_map, h]; rfl)
theorem range_getD {α β : Type} (l : List α) (d : α) (g : α → β) : (List.range l.length).map (fun i => g (l.getD i d)) = l.map g := by
  apply List.ext_getElem?
  intro i
  rw [List.getElem?_map, List.getElem?_map]
  rcases Nat.lt_or_ge i l.length with h | h
  · rw [List.getElem?_range h, List.getElem?_eq_getElem h]
    simp [h]
  · rw [List.getElem?_eq_none (by simpa using h), List.getElem?_eq_none h]
    rfl
theorem getD_of {ns : List Int} {i : Nat} {k : Int} (h : ns[i]? = some k) : ns.getD i 0 = k := by
  rw [List.getD_eq_getElem?_getD, h]
  rfl
theorem take_snoc {ns : List Int} {i : Nat} {k : Int} (h : ns[i]? = some k) : ns.take (i + 1) = ns.take i ++ [k] := by
  rw [List.take_add_one, h]
  rfl
/-- fresh before, too -/
theorem free_of {H H1 : Hp} {p : Addr} (e : Ex H H1) (n : H1 p = none) : H p = none := fresh_back e n
end GS


set_option Elab.async false
set_option linter.all false
set_option maxRecDepth 100000
set_option maxHeartbeats 4000000
namespace GS
open PySem PySem.Spec PyProof.Rows L2 Evl

/-! ### rules with the written part named -/
section
variable {X : Cx} {K : PySem.W.Frag}
theorem k_len (h : X.K = K) : CallR X (.builtin "len") (rLenS K) := h ▸ call_len_seq
theorem k_list (h : X.K = K) : CallR X (.type "list") (rListS K) := h ▸ call_list_of
theorem k_ixl (h : X.K = K) : IxR X (rIxL K) := h ▸ ix_list
theorem k_sll (h : X.K = K) : SlR X (rSlL K) := h ▸ sl_list
theorem k_sum (h : X.K = K) (hc : X.calm = true) : CallR X (.builtin "sum") (rSum K) := h ▸ cr_sum hc
theorem k_all (h : X.K = K) (hc : X.calm = true) : CallR X (.builtin "all") (rAll K) := h ▸ cr_all hc
theorem k_any (h : X.K = K) (hc : X.calm = true) : CallR X (.builtin "any") (rAny K) := h ▸ cr_any hc
theorem k_sorted (h : X.K = K) : CallR X (.builtin "sorted") (rSortedI K) := h ▸ cr_sortedI
theorem k_isi (h : X.K = K) : CallR X (.builtin "isinstance") (rIsAny K) := h ▸ call_isAny
theorem k_repr (h : X.K = K) (hq : X.A.guards = some []) (hu : X.A.units + 64 < cLine) : CallR X (.builtin "repr") (rRepr K) := h ▸ call_repr_any hq hu
theorem k_eq (h : X.K = K) (hu : X.A.units + 64 < cLine) : OpR X (compareOp .Eq) (rEqD K) := h ▸ op_eqD hu
theorem k_ne (h : X.K = K) (hu : X.A.units + 64 < cLine) : OpR X (compareOp .NotEq) (rNeD K) := h ▸ op_neD hu
variable {tg l : Expr} {tl : TE}
theorem k_pil (h : X.K = K) (hl : PE X l tl) : PI X tg l (iList K tl) := h ▸ pi_list hl
theorem k_held {e : Expr} {te : TE} {pos : Pos} (h : X.K = K) (he : PE X e te) (hb : attributeBase e "value" X.env (eval e X.env) = eval e X.env := by rfl) :
    PE X (.Attribute e "value" pos) (tHeldV K te) := h ▸ pe_heldv he hb
theorem k_enum {e : Expr} {ta : TA} {p pos tpos : Pos} {elts : List Expr} {kk : Nat} (h : X.K = K) (hg : Gl X "enumerate") (hm : X.mg "enumerate" = none) (ha : PA X [e] ta)
    (hs : starEach [e] X.env = [(false, eval e X.env)] := by rfl) : PI X (.Tuple elts kk tpos) (.Call (.Name "enumerate" p) [e] [] pos) (iEnum K ta) := h ▸ pi_enum hg hm ha hs
theorem k_gtup {es : List Expr} {k : Nat} {pos : Pos} {t : TGs} {n : Nat} (h : X.K = K) (hc : X.calm = true) (hs : PGs X es t)
    (hn : (assignEach es X.env).length = n := by rfl) (hst : (assignEach es X.env).findIdx? (·.1) = none := by rfl) : PG X (.Tuple es k pos) (gTup K n t) := h ▸ pg_tup hc hs hn hst
theorem k_app {e : Expr} {o : Expr} {to te : TE} {apos cpos : Pos} (h : X.K = K) (ho : PE X o to) (he : PE X e te)
    (hz : PE X (.Call (.Attribute o "append" apos) [e] [] cpos) (tBM X.K "list" rAppend to (tCons te tNil))) : PE X (.Call (.Attribute o "append" apos) [e] [] cpos) (tBM K "list" rAppend to (tCons te tNil)) := h ▸ hz
end
/-! ### a list in order -/
def insI (x : Int) : List Int → List Int
  | [] => [x]
  | y :: r => if x ≤ y then x :: y :: r else y :: insI x r
def isort : List Int → List Int
  | [] => []
  | x :: r => insI x (isort r)
theorem insI_perm (x : Int) : ∀ l : List Int, (insI x l).Perm (x :: l)
  | [] => .refl _
  | y :: r => by
    unfold insI
    split
    · exact .refl _
    · exact ((insI_perm x r).cons y).trans (List.Perm.swap x y r)
theorem isort_perm : ∀ l : List Int, (isort l).Perm l
  | [] => .refl _
  | x :: r => (insI_perm x (isort r)).trans ((isort_perm r).cons x)
theorem insI_pw (x : Int) : ∀ l : List Int, l.Pairwise (· ≤ ·) → (insI x l).Pairwise (· ≤ ·)
  | [], _ => List.pairwise_singleton _ _
  | y :: r, h => by
    have h2 := List.pairwise_cons.mp h
    unfold insI
    split
    · rename_i q
      refine List.pairwise_cons.mpr ⟨fun z hz => ?_, h⟩
      rcases List.mem_cons.mp hz with e | hz
      · rw [e]; exact q
      · exact Int.le_trans q (h2.1 z hz)
    · rename_i q
      refine List.pairwise_cons.mpr ⟨fun z hz => ?_, insI_pw x r h2.2⟩
      rcases List.mem_cons.mp ((insI_perm x r).mem_iff.mp hz) with e | hz
      · rw [e]; omega
      · exact h2.1 z hz
theorem isort_pw : ∀ l : List Int, (isort l).Pairwise (· ≤ ·)
  | [] => .nil
  | x :: r => insI_pw x _ (isort_pw r)
theorem isort_is {l m : List Int} (h : m.Perm l) (p : m.Pairwise (· ≤ ·)) : m = isort l :=
  PySem.W.ksm_same (h.trans (isort_perm l).symm) p (isort_pw l)
theorem isort_of_perm {l m : List Int} (h : l.Perm m) : isort l = isort m := isort_is ((isort_perm l).trans h) (isort_pw l)
theorem isort_len (l : List Int) : (isort l).length = l.length := (isort_perm l).length_eq
def rangeI (n : Nat) : List Int := (List.range n).map fun i : Nat => (i : Int)
theorem rangeI_len (n : Nat) : (rangeI n).length = n := by unfold rangeI; rw [List.length_map, List.length_range]
theorem rangeI_get {n i : Nat} (h : i < n) : (rangeI n)[i]? = some (i : Int) := by
  unfold rangeI
  rw [List.getElem?_map, List.getElem?_range h]
  rfl
theorem rangeI_succ (n : Nat) : rangeI (n + 1) = rangeI n ++ [(n : Int)] := by
  unfold rangeI
  rw [List.range_succ, List.map_append]
  rfl
theorem rangeI_mem {n : Nat} {x : Int} : x ∈ rangeI n ↔ 0 ≤ x ∧ x < n := by
  unfold rangeI
  constructor
  · intro h
    obtain ⟨i, hi, e⟩ := List.mem_map.mp h
    have := List.mem_range.mp hi
    omega
  · intro h
    refine List.mem_map.mpr ⟨x.toNat, List.mem_range.mpr (by omega), ?_⟩
    show ((x.toNat : Nat) : Int) = x
    omega
theorem rangeI_pw (n : Nat) : (rangeI n).Pairwise (· ≤ ·) := by
  induction n with
  | zero => exact (List.Pairwise.nil : ([] : List Int).Pairwise (· ≤ ·))
  | succ n ih =>
    rw [rangeI_succ]
    refine List.pairwise_append.mpr ⟨ih, List.pairwise_singleton _ _, fun a ha b hb => ?_⟩
    have := (rangeI_mem (n := n)).mp ha
    have e := List.mem_singleton.mp hb
    omega
theorem isort_range (n : Nat) : isort (rangeI n) = rangeI n := (isort_is (.refl _) (rangeI_pw n)).symm
theorem perm_iff_isort {l : List Int} : l.Perm (rangeI l.length) ↔ isort l = rangeI l.length := by
  constructor
  · intro h
    rw [isort_of_perm h, isort_range]
  · intro h
    rw [← h]
    exact (isort_perm l).symm

section
variable {K : PySem.W.Frag} {σ : L2.St} {H : Hp} {ta te : TE}
theorem el_sort {p : Addr} {ns : List Int} (ha : Ev ta σ H (.ref p)) (h : SqL K H p (ns.map V.int)) :
    EvL (tCB (rSortedI K) (tCons ta tNil)) σ H ((isort ns).map V.int) := fun H1 e Q q =>
  ha H1 e _ fun H2 e2 => ⟨p, ns, rfl, ex_l (e.trans e2) h, fun m u hm hp hu => by
    rw [isort_is hm hp]
    exact q u _ (fresh_back e2 hu) (e2.trans (Ex.new hu)) upd_same⟩
theorem rgV_eq (n : Nat) : rgV 0 (n : Int) = (rangeI n).map V.int := by
  unfold rgV rangeI
  rw [List.map_map]
  have e : ((n : Int) - 0).toNat = n := by omega
  rw [e]
  apply List.map_congr_left
  intro i _
  show V.int (0 + (i : Int)) = V.int (i : Int)
  rw [Int.zero_add]
theorem el_range {n : Nat} (ha : Ev ta σ H (.int n)) (hn : n ≤ 16777216) : EvL (tLstRg (tRg1 ta)) σ H ((rangeI n).map V.int) := fun H1 e Q q =>
  ha H1 e _ fun H2 e2 => ⟨(n : Int), rfl, RgOk.of_le (Int.le_refl 0) (by omega) (by decide) (by omega), fun u hu => by
    rw [rgV_eq]
    exact q u _ (fresh_back e2 hu) (e2.trans (Ex.new hu)) upd_same⟩
theorem el_range2 {a b : Int} {tb : TE} (ha : Ev ta σ H (.int a)) (hb : Ev tb σ H (.int b)) (ok : RgOk a b) : EvL (tLstRg (tRg2 ta tb)) σ H (rgV a b) := fun H1 e Q q =>
  ha H1 e _ fun H2 e2 => hb H2 (e.trans e2) _ fun H3 e3 => ⟨a, b, rfl, rfl, ok, fun u hu =>
    q u _ (fresh_back (e2.trans e3) hu) ((e2.trans e3).trans (Ex.new hu)) upd_same⟩

/-! ### a list made over enumerate, and one made by calls that change something -/
theorem el_lcE {tas : TA} {tt : TT} {a : Addr} {xs : List V} {vs : List Nat} {i j : Nat} (f : Nat → Bool) (v : Nat → V) (h : EvA tas σ H [.ref a]) (hx : SqL K H a xs) (hz : xs.length ≤ 40000)
    (hw : ∀ x y, wipe (((wipe σ vs).set i (some x)).set j (some y)) vs = wipe σ vs)
    (ht : ∀ (n : Nat) (x : V) H1, Ex H H1 → xs[n]? = some x → EvT tt (((wipe σ vs).set i (some (.int (n : Int)))).set j (some x)) H1 (f n))
    (he : ∀ (n : Nat) (x : V) H1, Ex H H1 → xs[n]? = some x → f n = true → Ev te (((wipe σ vs).set i (some (.int (n : Int)))).set j (some x)) H1 (v n)) :
    EvL (tLc (iEnum K tas) (gTup K 2 (gCons (gName i) (gCons (gName j) gNil))) tt te vs) σ H (given xs.length f v) := fun H0 e Q q => h H0 e _ fun H1 e1 => by
  refine ⟨a, xs, rfl, ex_l (e.trans e1) hx, fun Dl hD => ?_⟩
  refine ⟨fun n m H' => m = xs.length - n ∧ n ≤ xs.length ∧ Cw H1 f v Dl n H', ⟨xs.length, by simp, Nat.zero_le _, hD, Ex.new hD, upd_same⟩, ?_⟩
  rintro n m H' ⟨rfl, hn, p⟩
  have sq : SqL K H' a xs := ex_l ((e.trans e1).trans p.2.1) hx
  rcases Nat.lt_or_ge n xs.length with lt | ge
  · refine .inr ⟨⟨xs, xs[n], sq, List.getElem?_eq_getElem lt⟩, Cw H1 f v Dl (n + 1), fun H2 p2 => ⟨xs.length - (n + 1), by omega, rfl, lt, p2⟩, ?_⟩
    rintro x H2 ⟨T, y, rfl, nT, rfl, hy⟩
    have gy := hy xs sq
    have eT : Ex H' (upd H' T (.tup [.int (n : Nat), y])) := Ex.new nT
    refine ⟨T, [.int (n : Nat), y], rfl, st_of upd_same, rfl, .int (n : Nat), [y], rfl, y, [], rfl, rfl, hw _ _, ?_⟩
    have p2 : Cw H1 f v Dl n (upd H' T (.tup [.int (n : Nat), y])) := ⟨p.1, p.2.1.trans eT, eT _ _ p.2.2⟩
    exact cw_turn p2 (by omega) (ht n y H1 (e.trans e1) gy) (fun hf => he n y H1 (e.trans e1) gy hf)
  · have en : n = xs.length := by omega
    subst en
    exact .inl ⟨⟨xs, sq, Nat.le_refl _⟩, q Dl H' (fresh_back e1 p.1) (e1.trans p.2.1) p.2.2⟩

/-- over range(n), the elements by any means; acc: what is made so far -/
theorem lc_rng {tas : TA} {tt : TT} {vs : List Nat} {j : Nat} {n : Int} {Q : VK} (h : EvA tas σ H [.int n]) (hn : 0 ≤ n ∧ n ≤ 40000)
    (hw : ∀ x, wipe ((wipe σ vs).set j (some x)) vs = wipe σ vs) (Pv : Addr → Nat → List V → Hp → Prop)
    (h0 : ∀ D H1, Ex H H1 → H1 D = none → Pv D 0 [] (upd H1 D (.lst [])))
    (hs : ∀ D (i : Nat) acc H2, (i : Int) < n → Pv D i acc H2 → tt ((wipe σ vs).set j (some (.int (i : Int)))) H2 fun b H3 =>
      if b = true then te ((wipe σ vs).set j (some (.int (i : Int)))) H3 fun y H4 => ∃ acc2, H4 D = some (.lst acc2) ∧ acc2.length < sizeLine ∧
        ∃ acc, Pv D (i + 1) acc (upd H4 D (.lst (acc2 ++ [y])))
      else ∃ acc, Pv D (i + 1) acc H3)
    (hd : ∀ D acc H2, Pv D n.toNat acc H2 → Q (.ref D) H2) : tLc (iRng1 tas) (gName j) tt te vs σ H Q :=
  h H (Ex.refl H) _ fun H1 e1 => ⟨n, rfl, by omega, by omega, fun D hD => by
    refine ⟨fun i m H2 => m = n.toNat - i ∧ i ≤ n.toNat ∧ ∃ acc, Pv D i acc H2, ⟨n.toNat, by simp, Nat.zero_le _, [], h0 D H1 e1 hD⟩, ?_⟩
    rintro i m H2 ⟨rfl, hi, acc, p⟩
    rcases Nat.lt_or_ge i n.toNat with lt | ge
    · refine .inr ⟨lt, fun H3 => ∃ acc, Pv D (i + 1) acc H3, fun H3 p3 => ⟨n.toNat - (i + 1), by omega, rfl, lt, p3⟩, ?_⟩
      rintro x H3 ⟨rfl, rfl⟩
      have e0 : (0 : Int) + (i : Int) = (i : Int) := Int.zero_add _
      rw [e0]
      exact ⟨hw _, hs D i acc H3 (by omega) p⟩
    · have en : i = n.toNat := by omega
      subst en
      exact .inl ⟨Nat.le_refl _, hd D acc H2 p⟩⟩
end
end GS


set_option Elab.async false
set_option linter.all false
set_option maxRecDepth 100000
set_option maxHeartbeats 4000000
namespace GS
open PySem PySem.Spec PyProof.Rows L2 Evl
section
variable {K : PySem.W.Frag} {σ : L2.St} {H : Hp} {ta tb te : TE} {D : Ends} {tz tu : TS}
/-- for i, x in enumerate(xs) -/
theorem q_forE {tas : TA} {a : Addr} {xs : List V} {i j : Nat} (h : EvA tas σ H [.ref a]) (hx : SqL K H a xs) (Pv : Nat → L2.St → Hp → Prop) (h0 : ∀ H1, Ex H H1 → Pv 0 σ H1)
    (hl : ∀ n σ' H', n ≤ xs.length → Pv n σ' H' → SqL K H' a xs)
    (hs : ∀ (n : Nat) x σ' H', xs[n]? = some x → Pv n σ' H' → ∀ H2, Ex H' H2 → tu { D with nx := Pv (n + 1), ct := Pv (n + 1), bk := tz D } ((σ'.set i (some (.int (n : Int)))).set j (some x)) H2)
    (hd : ∀ σ' H', Pv xs.length σ' H' → tz D σ' H') :
    tSeq (tFor (iEnum K tas) (gTup K 2 (gCons (gName i) (gCons (gName j) gNil))) tu) tz D σ H := h H (Ex.refl H) _ fun H1 e1 => by
  refine ⟨a, xs, rfl, ex_l e1 hx, fun n m σ' H' => m = xs.length - n ∧ n ≤ xs.length ∧ Pv n σ' H', ⟨xs.length, by simp, Nat.zero_le _, h0 H1 e1⟩, ?_⟩
  rintro n m σ' H' ⟨rfl, hn, p⟩
  have sq : SqL K H' a xs := hl n σ' H' hn p
  rcases Nat.lt_or_ge n xs.length with lt | ge
  · refine .inr ⟨⟨xs, xs[n], sq, List.getElem?_eq_getElem lt⟩, Pv (n + 1), fun σ2 H2 p2 => ⟨xs.length - (n + 1), by omega, rfl, lt, p2⟩, ?_⟩
    rintro x H2 ⟨T, y, rfl, nT, rfl, hy⟩
    have gy := hy xs sq
    exact ⟨T, [.int (n : Nat), y], rfl, st_of upd_same, rfl, .int (n : Nat), [y], rfl, y, [], rfl, rfl, hs n y σ' H' gy p _ (Ex.new nT)⟩
  · have en : n = xs.length := by omega
    subst en
    exact .inl ⟨⟨xs, sq, Nat.le_refl _⟩, hd σ' H' p⟩
/-- a new dict -/
def EvK (te : TE) (σ : L2.St) (H : Hp) (kvs : List (Key × V)) : Prop := ∀ H1, Ex H H1 → ∀ Q : VK, (∀ p H2, H1 p = none → Ex H1 H2 → H2 p = some (.dK kvs) → Q (.ref p) H2) → te σ H1 Q
def ranksK (ns : List Int) (n : Nat) : List (Key × V) := (List.range n).map fun i => (.inl (ns.getD i 0), .int (i : Int))
theorem ranksK_succ (ns : List Int) (n : Nat) : ranksK ns (n + 1) = ranksK ns n ++ [(.inl (ns.getD n 0), .int (n : Int))] := by
  unfold ranksK
  rw [List.range_succ, List.map_append]
  rfl
theorem nd_get {ns : List Int} (h : ns.Nodup) {i j : Nat} (hi : i < ns.length) (hj : j < ns.length) (e : ns.getD i 0 = ns.getD j 0) : i = j := by
  rw [List.getD_eq_getElem?_getD, List.getD_eq_getElem?_getD, List.getElem?_eq_getElem hi, List.getElem?_eq_getElem hj] at e
  have e : ns[i] = ns[j] := e
  rcases Nat.lt_trichotomy i j with lt | eq | gt
  · exact absurd e (List.pairwise_iff_getElem.mp h i j hi hj lt)
  · exact eq
  · exact absurd e.symm (List.pairwise_iff_getElem.mp h j i hj hi gt)
theorem ranksK_put {ns : List Int} (h : ns.Nodup) {n : Nat} (hn : n < ns.length) : putK (ranksK ns n) (.inl (ns.getD n 0)) (.int (n : Int)) = ranksK ns (n + 1) := by
  rw [ranksK_succ]
  unfold putK
  rw [if_neg]
  intro z
  obtain ⟨q, hq, e⟩ := List.any_eq_true.mp z
  obtain ⟨i, hi, rfl⟩ := List.mem_map.mp hq
  have hi2 := List.mem_range.mp hi
  have e2 : (Sum.inl (ns.getD i 0) : Key) = .inl (ns.getD n 0) := of_decide_eq_true e
  have := nd_get h (by omega) hn (Sum.inl.inj e2)
  omega
theorem ranksK_get {ns : List Int} (h : ns.Nodup) {n : Nat} (hn : n < ns.length) : valV (ranksK ns ns.length) (.inl (ns.getD n 0)) = some (.int (n : Int)) := by
  unfold valV ranksK
  rw [List.find?_map]
  have e : (List.range ns.length).find? ((fun kv : Key × V => decide (kv.1 = .inl (ns.getD n 0))) ∘ fun i => (.inl (ns.getD i 0), .int (i : Int))) = some n := by
    rw [List.find?_range_eq_some]
    refine ⟨decide_eq_true rfl, List.mem_range.mpr hn, fun j hj => ?_⟩
    simp only [Function.comp, Bool.not_eq_true', decide_eq_false_iff_not]
    intro e
    have := nd_get h (by omega) hn (Sum.inl.inj e)
    omega
  rw [e]
  rfl
theorem ek_rank {ns : List Int} {i j : Nat} {vs : List Nat} (h : EvL te σ H (ns.map V.int)) (nd : ns.Nodup) (hl : ns.length ≤ 40000) (hij : i ≠ j) (hi : i < σ.length) (hj : j < σ.length)
    (hw : ∀ x y, wipe (((wipe σ vs).set i (some x)).set j (some y)) vs = wipe σ vs) :
    EvK (tDc (iEnum K (tCons te tNil)) (gTup K 2 (gCons (gName i) (gCons (gName j) gNil))) tYes (tVar j) (tVar i) vs) σ H (ranksK ns ns.length) := fun H0 e Q q =>
  h H0 e _ fun a H1 na e1 ha => by
    refine ⟨a, ns.map V.int, rfl, sq_of ha, fun Dd hD => ?_⟩
    have da : a ≠ Dd := ne_of_none ha hD
    refine ⟨fun n m H' => m = ns.length - n ∧ n ≤ ns.length ∧ Ex H1 H' ∧ H' Dd = some (.dK (ranksK ns n)), ⟨ns.length, by simp, Nat.zero_le _, Ex.new hD, upd_same⟩, ?_⟩
    rintro n m H' ⟨rfl, hn, e2, hK⟩
    have sq : SqL K H' a (ns.map V.int) := sq_of (e2 _ _ ha)
    rcases Nat.lt_or_ge n ns.length with lt | ge
    · refine .inr ⟨⟨ns.map V.int, .int (ns.getD n 0), sq, ?_⟩, fun H2 => Ex H1 H2 ∧ H2 Dd = some (.dK (ranksK ns (n + 1))), fun H2 p2 => ⟨ns.length - (n + 1), by omega, rfl, lt, p2⟩, ?_⟩
      · rw [List.getElem?_map, List.getElem?_eq_getElem lt, List.getD_eq_getElem?_getD, List.getElem?_eq_getElem lt]
        rfl
      rintro x H2 ⟨T, y, rfl, nT, rfl, hy⟩
      obtain ⟨k, hk, rfl⟩ := getI (hy _ sq)
      have hk2 := getD_of hk
      refine ⟨T, [.int (n : Nat), .int k], rfl, st_of upd_same, rfl, .int (n : Nat), [.int k], rfl, .int k, [], rfl, rfl, hw _ _, ?_⟩
      have l1 : (((wipe σ vs).set i (some (V.int (n : Int)))).set j (some (V.int k)))[j]? = some (some (V.int k)) := by
        rw [List.getElem?_set_self (by rw [List.length_set, wipe_length]; exact hj)]
      have l2 : (((wipe σ vs).set i (some (V.int (n : Int)))).set j (some (V.int k)))[i]? = some (some (V.int (n : Int))) := by
        rw [List.getElem?_set_ne (Ne.symm hij), List.getElem?_set_self (by rw [wipe_length]; exact hi)]
      have hD2 : (upd H' T (.tup [.int (n : Nat), .int k])) Dd = some (.dK (ranksK ns n)) := Ex.new nT _ _ hK
      unfold tYes
      refine iteT ?_
      refine ⟨.int k, l1, .int (n : Int), l2, ranksK ns n, .inl k, rfl, hD2, ?_, ?_, ?_⟩
      · unfold ranksK
        rw [List.length_map, List.length_range]
        exact sz_lt (by omega)
      · exact (e2.trans (Ex.new nT)).mut hD
      · rw [upd_same, ← hk2, ranksK_put nd lt]
    · have en : n = ns.length := by omega
      subst en
      exact .inl ⟨⟨ns.map V.int, sq, by rw [List.length_map]; exact Nat.le_refl _⟩, q Dd H' (free_of e1 hD) (e1.trans e2) hK⟩
theorem ev_rank {ns : List Int} {p : Addr} {k : Int} {n : Nat} (nd : ns.Nodup) (hn : ns[n]? = some k) (hp : H p = some (.dK (ranksK ns ns.length))) (ha : Ev ta σ H (.ref p)) (hb : Ev tb σ H (.int k)) : Ev (tDGet ta tb) σ H (.int (n : Int)) := fun H1 e Q q =>
  ha H1 e _ fun H2 e2 => hb H2 (e.trans e2) _ fun H3 e3 => ⟨p, .int (n : Int), rfl, by
    have z := DGet.k (k := .inl k) (((e.trans e2).trans e3) _ _ hp)
    have lt := (List.getElem?_eq_some_iff.mp hn).1
    have g := ranksK_get nd lt
    rw [getD_of hn] at g
    rw [g] at z
    exact z, q H3 (e2.trans e3)⟩
theorem q_asgK {i : Nat} {kvs : List (Key × V)} (h : EvK te σ H kvs) (k : ∀ p H1, H p = none → Ex H H1 → H1 p = some (.dK kvs) → tz D (σ.set i (some (.ref p))) H1) :
    tSeq (tAsg te (gName i)) tz D σ H := h H (Ex.refl H) _ k
end
end GS


set_option Elab.async false
set_option linter.all false
set_option maxRecDepth 100000
set_option maxHeartbeats 4000000
namespace GS
open PySem PySem.Spec PyProof.Rows L2 Evl

/-! ### factorial, divmod -/
def rFact : List V → Hp → VK → Prop := fun vs H Q => ∃ a : Nat, vs = [.int a] ∧ a ≤ 20000 ∧ Q (.int ((Builtin.Math.factorialNat a : Nat) : Int)) H
def rDivm : List V → Hp → VK → Prop := fun xs H Q => ∃ i j, xs = [.int i, .int j] ∧ CDivP i j ∧ ∀ p, H p = none → Q (.ref p) (upd H p (.tup [.int (i / j), .int (i % j)]))
section
variable {X : Cx}
theorem c_fact : CallR X (.builtin "math.factorial") rFact := by
  intro pins s σ H vs us Q I r h
  obtain ⟨a, rfl, ha, q⟩ := h
  obtain ⟨u, rfl, t, rfl⟩ := Vals.one r
  refine PySem.W.mc_factorial (by omega) (by omega) fun _ => ?_
  rw [Int.toNat_natCast]
  exact ⟨.int _, H, I.tok _, ⟨_, rfl⟩, q⟩
theorem c_divm : CallR X (.builtin "divmod") rDivm := call_divmodW
end
section
variable {K : PySem.W.Frag} {σ : L2.St} {H : Hp} {ta tb te : TE} {D : Ends} {tz : TS}
theorem ev_fact {a : Nat} (ha : Ev ta σ H (.int a)) (h : a ≤ 20000) : Ev (tCB rFact (tCons ta tNil)) σ H (.int ((Builtin.Math.factorialNat a : Nat) : Int)) := fun H1 e Q q =>
  ha H1 e _ fun H2 e2 => ⟨a, rfl, h, q H2 e2⟩
/-- x, y = divmod(a, b) -/
theorem q_divm {i j : Nat} {a b : Int} (ha : Ev ta σ H (.int a)) (hb : Ev tb σ H (.int b)) (hc : CDivP a b)
    (k : ∀ H1, Ex H H1 → tz D ((σ.set i (some (.int (a / b)))).set j (some (.int (a % b)))) H1) :
    tSeq (tAsg (tCB rDivm (tCons ta (tCons tb tNil))) (gTup K 2 (gCons (gName i) (gCons (gName j) gNil)))) tz D σ H :=
  ha H (Ex.refl H) _ fun H1 e1 => hb H1 e1 _ fun H2 e2 => ⟨a, b, rfl, hc, fun t nt =>
    ⟨t, [.int (a / b), .int (a % b)], rfl, st_of upd_same, rfl, _, _, rfl, _, _, rfl, rfl, k _ ((e1.trans e2).trans (Ex.new nt))⟩⟩
end

/-! ### list(range(a, b, c)) -/
def rg3V (a c : Int) (n : Nat) : List V := (List.range n).map fun i => V.int (a + (i : Nat) * c)
def Rg3Ok (a b c : Int) (n : Nat) : Prop := Builtin.Range.small a b c = true ∧ Builtin.Range.rangeSize a b c = n ∧ n ≤ 2 ^ 24
theorem vals_rg3 {a c : Int} {n : Nat} {acc : Array Value} (h : ItemsOf (fun i v => ∃ t, v = .int (a + i * c) t) acc n) : Vals (rg3V a c n) acc.toList := by
  have e : acc.toList.length = n := by rw [Array.length_toList]; exact h.1
  unfold rg3V
  rw [← e]
  refine vals_of_get acc.toList _ fun j u hj => ?_
  obtain ⟨t, rfl⟩ := h.2 j u (by rw [← hj, Array.getElem?_toList])
  exact ⟨t, rfl⟩
def PRg3 (X : Cx) (e : Expr) (t : L2.St → Hp → (Int → Int → Int → Hp → Prop) → Prop) : Prop :=
  ∀ (pins : List (Addr × Obj)) (s : Shared) (σ : L2.St) (H : Hp) (Q : Int → Int → Int → Hp → Prop), Inv X pins σ H s → t σ H Q →
    wpAny (model X.prog X.w) X.A (eval e X.env) (fun x s2 => ∃ r a b c t u v H2, x = .ref r ∧ IsRange s2.heap r a b c t u v ∧ Inv X pins σ H2 s2 ∧ Q a b c H2) X.xe s
def tRg3 (ta : TA) : L2.St → Hp → (Int → Int → Int → Hp → Prop) → Prop := fun σ H Q => ta σ H fun vs H1 => ∃ a b c : Int, vs = [.int a, .int b, .int c] ∧ c ≠ 0 ∧ Builtin.divisionGoesByPylong (b - a) c = false ∧ Q a b c H1
theorem prg_3 {X : Cx} {a b c : Expr} {ta : TA} {p pos : Pos} (hg : Gl X "range") (hm : X.mg "range" = none) (ha : PA X [a, b, c] ta)
    (hs : starEach [a, b, c] X.env = (false, eval a X.env) :: starEach [b, c] X.env := by rfl) (hpl : (backTo pos (starEach [b, c] X.env)).any (·.1) = false := by rfl) : PRg3 X (.Call (.Name "range" p) [a, b, c] [] pos) (tRg3 ta) := by
  intro pins s σ H Q I h
  refine Call_ (ld_blt I hg hm boot_range (PyProof.Rows.callWith_type1 (thn (ha.run pos pins s σ H _ I h) fun us s1 ⟨vs, H1, I1, r1, i, j, k, ev, h0, h1, q⟩ => ?_) hs hpl))
  subst ev
  cases r1 with
  | cons x1 r1 =>
    cases r1 with
    | cons x2 r1 =>
      cases r1 with
      | cons x3 r1 =>
        cases r1
        obtain ⟨t1, rfl⟩ := x1
        obtain ⟨t2, rfl⟩ := x2
        obtain ⟨t3, rfl⟩ := x3
        exact call_range_3 h0 ⟨_, i, j, k, _, _, _, H1, rfl, IsRange.new _ _ _ _ _ _ _, I1.kept fun b u e => Heap.get?_push_of_some _ e, q⟩ (.inl h1)
def tLstRg3 (te : L2.St → Hp → (Int → Int → Int → Hp → Prop) → Prop) : TE := fun σ H Q => te σ H fun a b c H1 => ∃ n, Rg3Ok a b c n ∧ ∀ q, H1 q = none → Q (.ref q) (upd H1 q (.lst (rg3V a c n)))
theorem pe_listRg3 {X : Cx} {e : Expr} {te : L2.St → Hp → (Int → Int → Int → Hp → Prop) → Prop} {p pos : Pos} (hc : X.calm = true) (hg : Gl X "list") (hm : X.mg "list" = none) (he : PRg3 X e te) (na : starEach [e] X.env = (false, eval e X.env) :: starEach [] X.env := by rfl) :
    PE X (.Call (.Name "list" p) [e] [] pos) (tLstRg3 te) := by
  refine ⟨fun pins s σ H Q I h => ?_⟩
  refine Call_ (ld_blt I hg hm boot_list (PyProof.Rows.callWith_type1 (args_cons (thn (he pins s σ H _ I h) fun x s1 ⟨r, a, b, c, t, u, v, H1, ex, hr, I1, n, ok, q⟩ => args_nil ?_) na) na))
  subst ex
  obtain ⟨b1, b2, b3⟩ := ok
  refine call_list_range (n := n) (I1.ok.hd hc) hr b1 b2 b3 fun h' tk acc c' hk e' hi => ?_
  refine ⟨.ref s1.heap.objs.size, upd H1 s1.heap.objs.size (.lst (rg3V a c n)), I1.laid hk (Nat.le_refl _) (show ObjOk X.prog X.w _ _ _ (.lst (rg3V a c n)) from ⟨?_, acc.toList, c', vals_rg3 hi, ?_⟩), rfl, q _ (I1.hok.fresh (Nat.le_refl _))⟩
  · unfold rg3V
    rw [List.length_map, List.length_range, sizeLine_eq]
    omega
  · rw [Array.toArray_toList]; exact e'
theorem el_range3 {K : PySem.W.Frag} {σ : L2.St} {H : Hp} {ta : TA} {a b c : Int} {n : Nat} (ha : EvA ta σ H [.int a, .int b, .int c]) (h0 : c ≠ 0) (h1 : Builtin.divisionGoesByPylong (b - a) c = false) (ok : Rg3Ok a b c n) :
    EvL (tLstRg3 (tRg3 ta)) σ H (rg3V a c n) := fun H1 e Q q =>
  ha H1 e _ fun H2 e2 => ⟨a, b, c, rfl, h0, h1, n, ok, fun u hu => q u _ (fresh_back e2 hu) (e2.trans (Ex.new hu)) upd_same⟩

/-! ### a < b of lists of numbers -/
def rLtI (K : PySem.W.Frag) : R2 := fun x y H Q => ∃ a b : List Int, Rp K H x (.list (a.map .int)) ∧ Rp K H y (.list (b.map .int)) ∧ Q (.bl (decide (a < b))) H
theorem ndI' : ∀ a : List Int, PyData.hasDictAll (a.map .int) = false
  | [] => rfl
  | x :: a => by
    show (false || PyData.hasDictAll (a.map .int)) = false
    rw [ndI' a]; rfl
theorem depI : ∀ a : List Int, (PyData.list (a.map .int)).depth = 1 := fun a => by
  show PyData.depthAll (a.map .int) + 1 = 1
  rw [PySem.W.depth_ints]
theorem k_ltI {X : Cx} {K : PySem.W.Frag} (hK : X.K = K) (hu : X.A.units + 64 < cLine) : OpR X (compareOp .Lt) (rLtI K) := by
  subst hK
  intro pins s σ H x y v u Q I rx ry h
  obtain ⟨a, b, ha, hb, q⟩ := h
  obtain ⟨as, r1⟩ := Dp.reads I (.list (a.map .int)) x v (Rp.dp _ _ ha (ndI' a)) rx
  obtain ⟨bs, r2⟩ := Dp.reads I (.list (b.map .int)) y u (Rp.dp _ _ hb (ndI' b)) ry
  have z := PySem.W.rcLt_alike (.list (a.map .int)) (.list (b.map .int)) X.A s v u as bs r1 r2 (by
    show PySem.W.alikeAll _ _ = true
    exact PySem.W.alike_ints a b) (by intro z; cases z) (by rw [depI, depI]; omega)
  have e : PySem.W.dataLt (.list (a.map .int)) (.list (b.map .int)) = decide (a < b) := by
    rw [PySem.W.dataLt_list]
    exact PySem.W.dataLt_ints a b
  rw [e] at z
  exact z X.prog X.w X.xe _ ⟨.bl _, H, I, rfl, q⟩
section
variable {K : PySem.W.Frag} {σ : L2.St} {H : Hp} {ta tb te : TE} {D : Ends} {tz tu : TS}
theorem ev_ltI {a b : List Int} (ha : EvD K ta σ H (.list (a.map .int))) (hb : EvD K tb σ H (.list (b.map .int))) : Ev (tOp (rLtI K) ta tb) σ H (.bl (decide (a < b))) := fun H1 e Q q =>
  ha H1 e _ fun v H2 e2 r => hb H2 (e.trans e2) _ fun u H3 e3 r2 => ⟨a, b, r.to e3, r2, q H3 (e2.trans e3)⟩
/-- a op b op c -/
theorem ev_chain {r r' : R2} {tc : TE} {x y z : V} {k b : Bool} (ha : Ev ta σ H x) (hb : Ev tb σ H y) (hc : Ev tc σ H z) (h1 : RV r x y H (.bl k)) (h2 : k = true → RV r' y z H (.bl b)) :
    Ev (tChain r r' ta tb tc) σ H (.bl (k && b)) := fun H1 e Q q =>
  ha H1 e _ fun H2 e2 => hb H2 (e.trans e2) _ fun H3 e3 => h1 H3 ((e.trans e2).trans e3) _ fun H4 e4 => ⟨k, rfl, by
    cases k with
    | false => exact q H4 ((e2.trans e3).trans e4)
    | true =>
      exact hc H4 (((e.trans e2).trans e3).trans e4) _ fun H5 e5 => h2 rfl H5 ((((e.trans e2).trans e3).trans e4).trans e5) Q fun H6 e6 => q H6 ((((e2.trans e3).trans e4).trans e5).trans e6)⟩
/-! ### for x in reversed(xs) -/
theorem q_forRev {tas : TA} {a : Addr} {xs : List V} {j : Nat} (h : EvA tas σ H [.ref a]) (hx : SqL K H a xs) (Pv : Nat → L2.St → Hp → Prop) (h0 : ∀ H1, Ex H H1 → Pv 0 σ H1)
    (hl : ∀ n σ' H', n ≤ xs.length → Pv n σ' H' → SqL K H' a xs)
    (hs : ∀ (n : Nat) x σ' H', xs.reverse[n]? = some x → Pv n σ' H' → tu { D with nx := Pv (n + 1), ct := Pv (n + 1), bk := tz D } (σ'.set j (some x)) H')
    (hd : ∀ σ' H', Pv xs.length σ' H' → tz D σ' H') : tSeq (tFor (iRev K tas) (gName j) tu) tz D σ H := h H (Ex.refl H) _ fun H1 e1 => by
  refine ⟨a, xs, rfl, ex_l e1 hx, fun n m σ' H' => m = xs.length - n ∧ n ≤ xs.length ∧ Pv n σ' H', ⟨xs.length, by simp, Nat.zero_le _, h0 H1 e1⟩, ?_⟩
  rintro n m σ' H' ⟨rfl, hn, p⟩
  have sq : SqL K H' a xs := hl n σ' H' hn p
  rcases Nat.lt_or_ge n xs.length with lt | ge
  · refine .inr ⟨⟨lt, xs, xs[xs.length - 1 - n], sq, List.getElem?_eq_getElem (by omega)⟩, Pv (n + 1), fun σ2 H2 p2 => ⟨xs.length - (n + 1), by omega, rfl, lt, p2⟩, ?_⟩
    rintro x H2 ⟨rfl, hy⟩
    refine hs n x σ' _ ?_ p
    rw [List.getElem?_reverse lt]
    exact hy xs sq
  · have en : n = xs.length := by omega
    subst en
    exact .inl ⟨Nat.le_refl _, hd σ' H' p⟩
/-! ### xs.index(k), xs.remove(k), ys.append(xs.pop(k)) -/
theorem ev_index {p : Addr} {ns : List Int} {k : Int} {j : Nat} (ha : Ev ta σ H (.ref p)) (hb : Ev tb σ H (.int k)) (hs : SqL K H p (ns.map V.int)) (hj : ns[j]? = some k) (hf : ∀ m : Nat, m < j → ns[m]? ≠ some k) :
    Ev (tBM K "list" (rIndex K) ta (tCons tb tNil)) σ H (.int (j : Nat)) := fun H1 e Q q =>
  ha H1 e _ fun H2 e2 => ⟨.inl ⟨rfl, _, ex_l (e.trans e2) hs⟩, hb H2 (e.trans e2) _ fun H3 e3 => ⟨p, ns.map V.int, .int k, j, .int k, rfl, rfl, ex_l ((e.trans e2).trans e3) hs, rfl, by
      rw [List.all_map]
      exact List.all_eq_true.mpr fun _ _ => rfl, by rw [List.getElem?_map, hj]; rfl, by
      show (k == k) = true
      exact beq_self_eq_true k, fun m z hm hz => by
      obtain ⟨i, hi, rfl⟩ := getI hz
      show (i == k) = false
      rw [beq_eq_false_iff_ne]
      intro e
      subst e
      exact hf m hm hi, q H3 (e2.trans e3)⟩⟩
theorem q_remove {p : Addr} {ns : List Int} {k : Int} {j : Nat} (ha : Ev ta σ H (.ref p)) (hb : Ev tb σ H (.int k)) (hp : H p = some (.lst (ns.map V.int))) (hj : ns[j]? = some k) (hf : ∀ m : Nat, m < j → ns[m]? ≠ some k)
    (q : ∀ H1, Ex H H1 → tz D σ (upd H1 p (.lst ((ns.eraseIdx j).map V.int)))) : tSeq (tDrop (tBM K "list" rRemI ta (tCons tb tNil))) tz D σ H :=
  ha H (Ex.refl H) _ fun H1 e1 => ⟨.inl ⟨rfl, _, sq_of (e1 _ _ hp)⟩, hb H1 e1 _ fun H2 e2 => ⟨p, ns, k, j, rfl, rfl, (e1.trans e2) _ _ hp, hj, hf, q H2 (e1.trans e2)⟩⟩
theorem s_remove {p : Addr} {ns : List Int} {k : Int} {j : Nat} (ha : Ev ta σ H (.ref p)) (hb : Ev tb σ H (.int k)) (hp : H p = some (.lst (ns.map V.int))) (hj : ns[j]? = some k) (hf : ∀ m : Nat, m < j → ns[m]? ≠ some k)
    (q : ∀ H1, Ex H H1 → D.nx σ (upd H1 p (.lst ((ns.eraseIdx j).map V.int)))) : tDrop (tBM K "list" rRemI ta (tCons tb tNil)) D σ H :=
  ha H (Ex.refl H) _ fun H1 e1 => ⟨.inl ⟨rfl, _, sq_of (e1 _ _ hp)⟩, hb H1 e1 _ fun H2 e2 => ⟨p, ns, k, j, rfl, rfl, (e1.trans e2) _ _ hp, hj, hf, q H2 (e1.trans e2)⟩⟩
theorem seqIx_nat {j n : Nat} (h : j < n) : seqIndex? (j : Int) n = some j := by
  have e : (if (j : Int) < 0 then (j : Int) + n else (j : Int)) = j := if_neg (by omega)
  unfold seqIndex?
  simp only [e]
  rw [if_pos]
  · rfl
  · rw [Bool.and_eq_true, decide_eq_true_eq, decide_eq_true_eq]
    omega
theorem map_eraseIdx {α β : Type} (f : α → β) : ∀ (l : List α) (j : Nat), (l.eraseIdx j).map f = (l.map f).eraseIdx j
  | [], _ => rfl
  | _ :: _, 0 => rfl
  | x :: l, j + 1 => by
    show f x :: (l.eraseIdx j).map f = f x :: (l.map f).eraseIdx j
    rw [map_eraseIdx f l j]
theorem s_appPop {tc : TE} {l p : Addr} {ys : List V} {ns : List Int} {k : Int} {j : Nat} (ha : Ev ta σ H (.ref l)) (hb : Ev tb σ H (.ref p)) (hc : Ev tc σ H (.int (j : Nat))) (lp : l ≠ p) (hl : H l = some (.lst ys)) (hp : H p = some (.lst (ns.map V.int)))
    (hj : ns[j]? = some k) (hn : ns.length ≤ 100000) (hy : ys.length < 100000) (q : ∀ H1, Ex H H1 → D.nx σ (upd (upd H1 p (.lst ((ns.eraseIdx j).map V.int))) l (.lst (ys ++ [.int k])))) :
    tDrop (tBM K "list" rAppend ta (tCons (tBM K "list" rPopAt tb (tCons tc tNil)) tNil)) D σ H :=
  ha H (Ex.refl H) _ fun H1 e1 => ⟨.inl ⟨rfl, _, sq_of (e1 _ _ hl)⟩, hb H1 e1 _ fun H2 e2 => ⟨.inl ⟨rfl, _, sq_of ((e1.trans e2) _ _ hp)⟩, hc H2 (e1.trans e2) _ fun H3 e3 => by
    have lt := (List.getElem?_eq_some_iff.mp hj).1
    refine ⟨p, ns.map V.int, j, j, .int k, rfl, rfl, ((e1.trans e2).trans e3) _ _ hp, by omega, by omega, seqIx_nat (by rw [List.length_map]; exact lt), by rw [List.getElem?_map, hj]; rfl, ?_⟩
    refine ⟨l, ys, .int k, rfl, rfl, ?_, sz_lt hy, ?_⟩
    · rw [upd_ne lp]
      exact ((e1.trans e2).trans e3) _ _ hl
    · have z := q H3 ((e1.trans e2).trans e3)
      rw [map_eraseIdx] at z
      exact z⟩⟩
end

section
variable {X : Cx} {K : PySem.W.Frag} {tg : Expr}
theorem k_rev {e : Expr} {ta : TA} {p pos : Pos} (h : X.K = K) (hg : Gl X "reversed") (hm : X.mg "reversed" = none) (ha : PA X [e] ta) (hs : starEach [e] X.env = [(false, eval e X.env)] := by rfl) :
    PI X tg (.Call (.Name "reversed" p) [e] [] pos) (iRev K ta) := h ▸ pi_reversed hg hm ha hs
theorem k_index (h : X.K = K) : MtR X "list.index" (rIndex K) := h ▸ mt_index
def rIntB : List V → Hp → VK → Prop := fun xs H Q => ∃ k, xs = [.bl k] ∧ Q (.int (if k then 1 else 0)) H
theorem c_intB : CallR X (.type "int") rIntB := fun pins s σ H xs us Q I r h => call_int1 pins s σ H xs us Q I r (.inr h)
theorem ev_intB {σ : L2.St} {H : Hp} {ta : TE} {b : Bool} (h : Ev ta σ H (.bl b)) : Ev (tCB rIntB (tCons ta tNil)) σ H (.int (if b then 1 else 0)) := fun H1 e Q q =>
  h H1 e _ fun H2 e2 => ⟨b, rfl, q H2 e2⟩
end
/-! ### sorted(xs), lists of numbers -/
def rSortedL (K : PySem.W.Frag) : List V → Hp → VK → Prop := fun vs H Q => ∃ (a : Addr) (xs : List V) (bs : List (List Int)), vs = [.ref a] ∧ SqL K H a xs ∧ RpAll K H xs (bs.map fun b => .list (b.map .int)) ∧
  ∀ p ys, H p = none → RpAll K H ys ((bs.mergeSort fun p q => decide (p ≤ q)).map fun b => .list (b.map .int)) → Q (.ref p) (upd H p (.lst ys))
theorem each_of_rp {K : PySem.W.Frag} {H : Hp} : ∀ {bs : List (List Int)} {xs : List V} {vs : List Value}, RpAll K H xs (bs.map fun b => .list (b.map .int)) → Vals xs vs →
    PySem.W.EachIs (fun (v : Value) (b : List Int) => ∃ x, RelV x v ∧ Rp K H x (.list (b.map .int))) vs bs
  | [], _, _, h, r => by
    cases h
    cases r
    exact .nil
  | b :: bs, _, _, h, r => by
    cases h with
    | cons h hs =>
      cases r with
      | cons r rs => exact .cons ⟨_, r, h⟩ (each_of_rp hs rs)
theorem rp_of_each {K : PySem.W.Frag} {H : Hp} : ∀ {bs : List (List Int)} {vs : List Value}, PySem.W.EachIs (fun (v : Value) (b : List Int) => ∃ x, RelV x v ∧ Rp K H x (.list (b.map .int))) vs bs →
    ∃ xs, RpAll K H xs (bs.map fun b => .list (b.map .int)) ∧ Vals xs vs
  | _, _, .nil => ⟨[], .nil, .nil⟩
  | _, _, .cons ⟨x, r, h⟩ t => by
    obtain ⟨xs, h2, r2⟩ := rp_of_each t
    exact ⟨x :: xs, .cons h h2, .cons r r2⟩
theorem k_sortedL {X : Cx} {K : PySem.W.Frag} (hK : X.K = K) (hu : X.A.units + 64 < cLine) : CallR X (.builtin "sorted") (rSortedL K) := by
  subst hK
  intro pins s σ H vs us Q I r h
  obtain ⟨a, xs, bs, rfl, hs, hr, q⟩ := h
  obtain ⟨its, rv, hl, hz⟩ := I.list hs
  rw [Vals.ref1 r]
  have el := rv.length
  have hb : bs.length = xs.length := by
    have := hr.length
    rw [List.length_map] at this
    exact this.symm
  have e1 := each_of_rp hr rv
  refine PySem.W.sorted_data (enc := fun b : List Int => .list (b.map .int)) (bs := bs) hl.isList e1 ?_ ?_ ?_ (by omega) ?_ fun out ho hr2 => ?_
  · refine e1.mono fun v b ⟨x, rx, hx⟩ => ?_
    exact Dp.reads I (.list (b.map .int)) x v (Rp.dp _ _ hx (ndI' b)) rx
  · exact PySem.W.AllAlike.of fun b b' => by
      show PySem.W.alikeAll _ _ = true
      exact PySem.W.alike_ints b b'
  · exact PySem.W.Sortable.others fun b => ⟨(fun z => by cases z), (fun _ z => by cases z)⟩
  · intro b _
    rw [depI]; omega
  · rw [PySem.W.dataLe_rows (fun b : List Int => b)] at hr2
    obtain ⟨ys, h2, r2⟩ := rp_of_each hr2
    obtain ⟨ep, he'⟩ := PyProof.Rows.sortedAll_at s.heap its out.toArray
    refine ⟨.ref _, upd H (s.heap.objs.size + 1) (.lst ys), I.laid (t' := s.toks) (fun _ _ => PyProof.Rows.sortedAll_old) (Nat.le_succ _) ⟨?_, out, ep, r2, he'⟩, rfl, q _ _ (I.hok.fresh (Nat.le_succ _)) h2⟩
    rw [r2.length, ho]
    omega
theorem eld_sortL {K : PySem.W.Frag} {σ : L2.St} {H : Hp} {ta : TE} {p : Addr} {xs : List V} {bs : List (List Int)} (ha : Ev ta σ H (.ref p)) (h : SqL K H p xs) (hr : RpAll K H xs (bs.map fun b => .list (b.map .int))) :
    EvLD K (tCB (rSortedL K) (tCons ta tNil)) σ H ((bs.mergeSort fun p q => decide (p ≤ q)).map fun b => .list (b.map .int)) := fun H1 e Q q =>
  ha H1 e _ fun H2 e2 => ⟨p, xs, bs, rfl, ex_l (e.trans e2) h, hr.to (e.trans e2), fun m ys hm hy => q m ys _ (fresh_back e2 hm) (e2.trans (Ex.new hm)) upd_same (hy.to (Ex.new hm))⟩
end GS


set_option Elab.async false
set_option linter.all false
set_option maxRecDepth 100000
set_option maxHeartbeats 4000000
/-! lists of numbers and their ranks: which of all orders of n numbers an order is -/
namespace RK
open GS

def fac : Nat → Nat
  | 0 => 1
  | n + 1 => fac n * (n + 1)
def val : List Nat → Nat
  | [] => 0
  | r :: rs => r * fac rs.length + val rs
def Ok : List Nat → Prop
  | [] => True
  | r :: rs => r ≤ rs.length ∧ Ok rs
def dig : Nat → Nat → List Nat
  | 0, _ => []
  | k + 1, N => (N / fac k) % (k + 1) :: dig k N
def pick : List Int → List Nat → List Int
  | _, [] => []
  | l, r :: rs => l.getD r 0 :: pick (l.eraseIdx r) rs
def rank : List Int → List Int → List Nat
  | _, [] => []
  | l, x :: o => l.idxOf x :: rank (l.eraseIdx (l.idxOf x)) o
theorem fac_pos : ∀ n, 0 < fac n
  | 0 => Nat.one_pos
  | n + 1 => Nat.mul_pos (fac_pos n) (Nat.succ_pos n)
theorem dig_len : ∀ k N, (dig k N).length = k
  | 0, _ => rfl
  | k + 1, N => by
    show (dig k N).length + 1 = k + 1
    rw [dig_len k N]
theorem dig_ok : ∀ k N, Ok (dig k N)
  | 0, _ => trivial
  | k + 1, N => by
    refine ⟨?_, dig_ok k N⟩
    rw [dig_len]
    exact Nat.le_of_lt_succ (Nat.mod_lt _ (Nat.succ_pos k))
theorem val_dig : ∀ k N, val (dig k N) = N % fac k
  | 0, N => (Nat.mod_one N).symm
  | k + 1, N => by
    show (N / fac k) % (k + 1) * fac (dig k N).length + val (dig k N) = N % (fac k * (k + 1))
    rw [dig_len, val_dig k N, Nat.mod_mul, Nat.mul_comm, Nat.add_comm]
theorem val_lt : ∀ rs, Ok rs → val rs < fac rs.length
  | [], _ => Nat.one_pos
  | r :: rs, h => by
    have a := val_lt rs h.2
    have b : r * fac rs.length ≤ rs.length * fac rs.length := Nat.mul_le_mul_right _ h.1
    show r * fac rs.length + val rs < fac rs.length * (rs.length + 1)
    rw [Nat.mul_add, Nat.mul_one, Nat.mul_comm (fac rs.length)]
    omega
theorem val_cmp {a b : List Nat} {r s : Nat} (ha : Ok a) (hl : a.length = b.length) (h : r < s) : val (r :: a) < val (s :: b) := by
  have x := val_lt a ha
  show r * fac a.length + val a < s * fac b.length + val b
  rw [← hl]
  have y : (r + 1) * fac a.length ≤ s * fac a.length := Nat.mul_le_mul_right _ h
  rw [Nat.add_mul, Nat.one_mul] at y
  omega
theorem val_inj : ∀ {a b : List Nat}, Ok a → Ok b → a.length = b.length → val a = val b → a = b
  | [], [], _, _, _, _ => rfl
  | [], _ :: _, _, _, h, _ => by simp at h
  | _ :: _, [], _, _, h, _ => by simp at h
  | r :: a, s :: b, ha, hb, h, e => by
    have hl : a.length = b.length := by simpa using h
    rcases Nat.lt_trichotomy r s with lt | eq | gt
    · have := val_cmp (b := b) ha.2 hl lt
      omega
    · subst eq
      have e2 : r * fac a.length + val a = r * fac b.length + val b := e
      rw [hl] at e2
      rw [val_inj ha.2 hb.2 hl (by omega)]
    · have := val_cmp (b := a) hb.2 hl.symm gt
      omega
theorem perm_erase : ∀ {l : List Int} {i : Nat} (h : i < l.length), (l[i] :: l.eraseIdx i).Perm l
  | x :: l, 0, _ => .refl _
  | x :: l, i + 1, h => by
    have z := perm_erase (l := l) (i := i) (by simpa using h)
    exact (List.Perm.swap x _ _).trans (z.cons x)
theorem idx_lt {l : List Int} {x : Int} (h : x ∈ l) : l.idxOf x < l.length := List.idxOf_lt_length_iff.mpr h
theorem idx_at {l : List Int} {x : Int} (h : x ∈ l) : l[l.idxOf x]? = some x := by
  rw [List.getElem?_eq_getElem (idx_lt h), List.getElem_idxOf]
theorem idx_getD {l : List Int} {x : Int} (h : x ∈ l) : l.getD (l.idxOf x) 0 = x := by
  rw [List.getD_eq_getElem?_getD, idx_at h]; rfl
theorem idx_perm {l : List Int} {x : Int} (h : x ∈ l) : (x :: l.eraseIdx (l.idxOf x)).Perm l := by
  have z := perm_erase (idx_lt h)
  rw [List.getElem_idxOf] at z
  exact z
theorem step_perm {l o : List Int} {x : Int} (h : (x :: o).Perm l) : o.Perm (l.eraseIdx (l.idxOf x)) :=
  (h.trans (idx_perm (h.mem_iff.mp List.mem_cons_self)).symm).cons_inv
theorem idx_first {l : List Int} {x : Int} : ∀ m : Nat, m < l.idxOf x → l[m]? ≠ some x := by
  intro m hm e
  obtain ⟨h1, h2⟩ := List.getElem?_eq_some_iff.mp e
  have := List.not_of_lt_findIdx (p := (· == x)) (xs := l) hm
  rw [h2] at this
  simp at this
theorem rank_len : ∀ (o l : List Int), (rank l o).length = o.length
  | [], _ => rfl
  | x :: o, l => by
    show (rank _ o).length + 1 = o.length + 1
    rw [rank_len o]
theorem rank_ok : ∀ (o l : List Int), o.Perm l → Ok (rank l o)
  | [], _, _ => trivial
  | x :: o, l, h => by
    refine ⟨?_, rank_ok o _ (step_perm h)⟩
    rw [rank_len]
    have a := idx_lt (h.mem_iff.mp List.mem_cons_self)
    have b := h.length_eq
    rw [List.length_cons] at b
    omega
theorem pick_rank : ∀ (o l : List Int), o.Perm l → pick l (rank l o) = o
  | [], _, _ => rfl
  | x :: o, l, h => by
    show l.getD (l.idxOf x) 0 :: pick (l.eraseIdx (l.idxOf x)) (rank (l.eraseIdx (l.idxOf x)) o) = x :: o
    rw [idx_getD (h.mem_iff.mp List.mem_cons_self), pick_rank o _ (step_perm h)]
theorem pick_len : ∀ (rs : List Nat) (l : List Int), (pick l rs).length = rs.length
  | [], _ => rfl
  | r :: rs, l => by
    show (pick _ rs).length + 1 = rs.length + 1
    rw [pick_len rs]
theorem erase_len {l : List Int} {r : Nat} {n : Nat} (h : r < l.length) (hn : l.length = n + 1) : (l.eraseIdx r).length = n := by
  rw [List.length_eraseIdx_of_lt h]; omega
theorem pick_perm : ∀ (rs : List Nat) (l : List Int), Ok rs → rs.length = l.length → (pick l rs).Perm l
  | [], l, _, h => by
    have : l = [] := List.eq_nil_of_length_eq_zero h.symm
    subst this
    exact .refl _
  | r :: rs, l, ok, h => by
    rw [List.length_cons] at h
    have hr : r < l.length := by have := ok.1; omega
    have ih := pick_perm rs (l.eraseIdx r) ok.2 (erase_len hr h.symm).symm
    have e : l.getD r 0 = l[r] := by
      rw [List.getD_eq_getElem?_getD, List.getElem?_eq_getElem hr]; rfl
    show (l.getD r 0 :: pick (l.eraseIdx r) rs).Perm l
    rw [e]
    exact (ih.cons _).trans (perm_erase hr)
theorem nd_erase {l : List Int} (h : l.Nodup) (r : Nat) : (l.eraseIdx r).Nodup := h.sublist (List.eraseIdx_sublist l r)
theorem rank_pick : ∀ (rs : List Nat) (l : List Int), l.Nodup → Ok rs → rs.length = l.length → rank l (pick l rs) = rs := by
  intro rs l nd ok h
  refine val_inj (rank_ok _ _ (pick_perm rs l ok h)) ok (by rw [rank_len, pick_len]) ?_
  induction rs generalizing l with
  | nil => rfl
  | cons r rs ih =>
    rw [List.length_cons] at h
    have hr : r < l.length := by have := ok.1; omega
    have e : l.getD r 0 = l[r] := by
      rw [List.getD_eq_getElem?_getD, List.getElem?_eq_getElem hr]; rfl
    have ei : l.idxOf l[r] = r := nd.idxOf_getElem r hr
    show l.idxOf (l.getD r 0) * fac (rank (l.eraseIdx (l.idxOf (l.getD r 0))) (pick (l.eraseIdx r) rs)).length + val (rank (l.eraseIdx (l.idxOf (l.getD r 0))) (pick (l.eraseIdx r) rs)) = r * fac rs.length + val rs
    rw [e, ei, rank_len, pick_len, ih _ (nd_erase nd r) ok.2 (erase_len hr h.symm).symm]
theorem pick_lt : ∀ (a b : List Nat) (l : List Int), l.Pairwise (· < ·) → Ok a → Ok b → a.length = l.length → b.length = l.length → val a < val b → pick l a < pick l b
  | [], [], _, _, _, _, _, _, h => absurd h (Nat.lt_irrefl _)
  | [], _ :: _, _, _, _, _, h1, h2, _ => by simp at h1 h2; omega
  | _ :: _, [], _, _, _, _, h1, h2, _ => by simp at h1 h2; omega
  | r :: a, s :: b, l, pw, ha, hb, h1, h2, h => by
    rw [List.length_cons] at h1 h2
    have hr : r < l.length := by have := ha.1; omega
    have hs : s < l.length := by have := hb.1; omega
    have er : l.getD r 0 = l[r] := by
      rw [List.getD_eq_getElem?_getD, List.getElem?_eq_getElem hr]; rfl
    have es : l.getD s 0 = l[s] := by
      rw [List.getD_eq_getElem?_getD, List.getElem?_eq_getElem hs]; rfl
    show l.getD r 0 :: pick (l.eraseIdx r) a < l.getD s 0 :: pick (l.eraseIdx s) b
    rw [er, es]
    rcases Nat.lt_trichotomy r s with lt | eq | gt
    · exact List.Lex.rel (List.pairwise_iff_getElem.mp pw r s hr hs lt)
    · subst eq
      refine List.cons_lt_cons_self.mpr ?_
      have hl : a.length = b.length := by omega
      have e2 : r * fac a.length + val a < r * fac b.length + val b := h
      rw [hl] at e2
      exact pick_lt a b _ (pw.sublist (List.eraseIdx_sublist l r)) ha.2 hb.2 (erase_len hr h1.symm).symm (erase_len hr h2.symm).symm (by omega)
    · have := val_cmp (b := a) hb.2 (by omega) gt
      omega

theorem rangeI_lt (n : Nat) : (rangeI n).Pairwise (· < ·) := by
  unfold rangeI
  exact List.Pairwise.map _ (fun a b (h : a < b) => (by omega : (a : Int) < (b : Int))) List.pairwise_lt_range
theorem rangeI_nd (n : Nat) : (rangeI n).Nodup := (rangeI_lt n).imp fun h => by omega
def num (o : List Int) : Nat := val (rank (rangeI o.length) o)
def ordN (n N : Nat) : List Int := pick (rangeI n) (dig n N)
theorem ordN_len (n N : Nat) : (ordN n N).length = n := by
  unfold ordN
  rw [pick_len, dig_len]
theorem ordN_perm (n N : Nat) : (ordN n N).Perm (rangeI n) := pick_perm _ _ (dig_ok n N) (by rw [dig_len, rangeI_len])
theorem num_lt {o : List Int} {n : Nat} (h : o.Perm (rangeI n)) : num o < fac n := by
  have hl : o.length = n := by rw [h.length_eq, rangeI_len]
  have z := val_lt _ (rank_ok o (rangeI n) h)
  rw [rank_len, hl] at z
  unfold num
  rw [hl]
  exact z
theorem ordN_num {o : List Int} {n : Nat} (h : o.Perm (rangeI n)) : ordN n (num o) = o := by
  have hl : o.length = n := by rw [h.length_eq, rangeI_len]
  have ok := rank_ok o (rangeI n) h
  have e : dig n (num o) = rank (rangeI n) o := by
    refine val_inj (dig_ok _ _) ok (by rw [dig_len, rank_len, hl]) ?_
    rw [val_dig, Nat.mod_eq_of_lt (num_lt h)]
    unfold num
    rw [hl]
  unfold ordN
  rw [e, pick_rank o _ h]
theorem num_ordN {n N : Nat} (h : N < fac n) : num (ordN n N) = N := by
  unfold num
  rw [ordN_len]
  unfold ordN
  rw [rank_pick _ _ (rangeI_nd n) (dig_ok n N) (by rw [dig_len, rangeI_len]), val_dig, Nat.mod_eq_of_lt h]
theorem ordN_lt {n M N : Nat} (h : N < fac n) (l : M < N) : ordN n M < ordN n N := by
  unfold ordN
  refine pick_lt _ _ _ (rangeI_lt n) (dig_ok _ _) (dig_ok _ _) (by rw [dig_len, rangeI_len]) (by rw [dig_len, rangeI_len]) ?_
  rw [val_dig, val_dig, Nat.mod_eq_of_lt h, Nat.mod_eq_of_lt (Nat.lt_trans l h)]
  exact l
/-- downwards -/
def desc : Nat → List Int
  | 0 => []
  | n + 1 => (n : Int) :: desc n
theorem desc_len : ∀ n, (desc n).length = n
  | 0 => rfl
  | n + 1 => by
    show (desc n).length + 1 = n + 1
    rw [desc_len n]
theorem desc_perm : ∀ n, (desc n).Perm (rangeI n)
  | 0 => .refl _
  | n + 1 => by
    rw [rangeI_succ]
    exact ((desc_perm n).cons _).trans (List.perm_append_comm (l₁ := [(n : Int)]))
theorem val_desc : ∀ n, val (rank (rangeI n) (desc n)) + 1 = fac n
  | 0 => rfl
  | n + 1 => by
    have hi : (rangeI (n + 1)).idxOf (n : Int) = n := by
      have z := (rangeI_nd (n + 1)).idxOf_getElem n (by rw [rangeI_len]; omega)
      have e : (rangeI (n + 1))[n]'(by rw [rangeI_len]; omega) = (n : Int) := by
        unfold rangeI
        rw [List.getElem_map, List.getElem_range]
      rw [e] at z
      exact z
    have he : (rangeI (n + 1)).eraseIdx n = rangeI n := by
      rw [rangeI_succ, List.eraseIdx_append_of_length_le (by rw [rangeI_len]; omega), rangeI_len, Nat.sub_self]
      show rangeI n ++ [] = rangeI n
      rw [List.append_nil]
    have ih := val_desc n
    show (rangeI (n + 1)).idxOf (n : Int) * fac (rank ((rangeI (n + 1)).eraseIdx ((rangeI (n + 1)).idxOf (n : Int))) (desc n)).length + val (rank ((rangeI (n + 1)).eraseIdx ((rangeI (n + 1)).idxOf (n : Int))) (desc n)) + 1 = fac n * (n + 1)
    rw [hi, he, rank_len, desc_len, Nat.mul_add, Nat.mul_one, Nat.mul_comm n]
    omega
theorem num_desc (n : Nat) : num (desc n) = fac n - 1 := by
  have z := val_desc n
  unfold num
  rw [desc_len]
  omega
/-! all of them -/
def up (x y : Int) : Int := y + (if y ≥ x then 1 else 0)
def fnd : Nat → List (List Int)
  | 0 => [[]]
  | k + 1 => (fnd k).flatMap fun o => (rangeI (k + 1)).map fun x => x :: o.map (up x)
def allO (n : Nat) : List (List Int) := (List.range (fac n)).map (ordN n)
theorem allO_len (n : Nat) : (allO n).length = fac n := by
  unfold allO
  rw [List.length_map, List.length_range]
theorem allO_get {n i : Nat} (h : i < fac n) : (allO n)[i]? = some (ordN n i) := by
  unfold allO
  rw [List.getElem?_map, List.getElem?_range h]
  rfl
theorem allO_pw (n : Nat) : (allO n).Pairwise (· < ·) := by
  unfold allO
  refine List.pairwise_map.mpr ?_
  refine List.Pairwise.imp_of_mem ?_ List.pairwise_lt_range
  intro a b ha hb h
  exact ordN_lt (List.mem_range.mp hb) h
theorem fnd_perm : ∀ n, n < 6 → (fnd n).Perm (allO n) := by
  have z : ∀ k : Fin 6, (fnd k).isPerm (allO k) = true := by decide +kernel
  intro n hn
  exact List.isPerm_iff.mp (z ⟨n, hn⟩)
theorem sort_fnd {n : Nat} (h : n < 6) : (fnd n).mergeSort (fun p q => decide (p ≤ q)) = allO n := by
  have tr : ∀ a b c : List Int, decide (a ≤ b) = true → decide (b ≤ c) = true → decide (a ≤ c) = true := fun a b c h1 h2 =>
    decide_eq_true (List.le_trans (of_decide_eq_true h1) (of_decide_eq_true h2))
  have to : ∀ a b : List Int, (decide (a ≤ b) || decide (b ≤ a)) = true := fun a b => by
    rcases List.le_total a b with h | h
    · rw [decide_eq_true h]; rfl
    · rw [decide_eq_true h, Bool.or_true]
  have s1 := List.pairwise_mergeSort tr to (fnd n)
  have p1 := (List.mergeSort_perm (fnd n) (fun p q => decide (p ≤ q))).trans (fnd_perm n h)
  refine p1.eq_of_pairwise (le := fun p q => decide (p ≤ q) = true) (fun a b _ _ h1 h2 => List.le_antisymm (of_decide_eq_true h1) (of_decide_eq_true h2)) s1 ?_
  exact (allO_pw n).imp fun h => decide_eq_true (List.le_of_lt h)
theorem fac_200 : fac 200 < 2 ^ 1300 := by decide +kernel
theorem fac_mono : ∀ {m n : Nat}, m ≤ n → fac m ≤ fac n
  | m, 0, h => by
    have : m = 0 := by omega
    subst this
    exact Nat.le_refl _
  | m, n + 1, h => by
    rcases Nat.lt_or_ge n m with lt | ge
    · have : m = n + 1 := by omega
      subst this
      exact Nat.le_refl _
    · refine Nat.le_trans (fac_mono ge) ?_
      show fac n ≤ fac n * (n + 1)
      exact Nat.le_mul_of_pos_right _ (Nat.succ_pos n)
theorem fac_eq : ∀ n, PySem.Builtin.Math.factorialNat n = fac n
  | 0 => rfl
  | n + 1 => by
    rw [PySem.W.mc_fac_succ, fac_eq n]
    rfl
end RK



set_option Elab.async false
set_option linter.all false
set_option maxRecDepth 100000
set_option maxHeartbeats 4000000
namespace K03
open PySem PySem.Spec PyProof.Rows L2 Evl GS
abbrev PW := PySem.Challenge.pw_gapswaps_k03_whole_all_orders_numbered
def topS (i : Nat) : Stmt := PW.main.body.getD i (.Pass ⟨0, 0, 0, 0⟩)
abbrev s_InvalidNumber_init : Stmt := inClass (topS 3) 0
abbrev N_InvalidNumber_init : List Str := ["self", "value"]
abbrev P_InvalidNumber_init : List Str := ["self", "value"]
theorem sc_InvalidNumber_init : FnScope N_InvalidNumber_init P_InvalidNumber_init (defScope s_InvalidNumber_init) := ⟨rfl, rfl, rfl, by decide +kernel, rfl, by decide +kernel, by decide +kernel⟩
theorem nd_InvalidNumber_init : N_InvalidNumber_init.Nodup := by decide +kernel
abbrev s_InvalidOrder_init : Stmt := inClass (topS 4) 0
abbrev N_InvalidOrder_init : List Str := ["self", "value"]
abbrev P_InvalidOrder_init : List Str := ["self", "value"]
theorem sc_InvalidOrder_init : FnScope N_InvalidOrder_init P_InvalidOrder_init (defScope s_InvalidOrder_init) := ⟨rfl, rfl, rfl, by decide +kernel, rfl, by decide +kernel, by decide +kernel⟩
theorem nd_InvalidOrder_init : N_InvalidOrder_init.Nodup := by decide +kernel
abbrev s_is_whole : Stmt := topS 7
abbrev N_is_whole : List Str := ["value"]
abbrev P_is_whole : List Str := ["value"]
theorem sc_is_whole : FnScope N_is_whole P_is_whole (defScope s_is_whole) := ⟨rfl, rfl, rfl, by decide +kernel, rfl, by decide +kernel, by decide +kernel⟩
theorem nd_is_whole : N_is_whole.Nodup := by decide +kernel
abbrev s_is_count : Stmt := topS 8
abbrev N_is_count : List Str := ["value"]
abbrev P_is_count : List Str := ["value"]
theorem sc_is_count : FnScope N_is_count P_is_count (defScope s_is_count) := ⟨rfl, rfl, rfl, by decide +kernel, rfl, by decide +kernel, by decide +kernel⟩
theorem nd_is_count : N_is_count.Nodup := by decide +kernel
abbrev s_is_row : Stmt := topS 9
abbrev N_is_row : List Str := ["value", "item"]
abbrev P_is_row : List Str := ["value"]
theorem sc_is_row : FnScope N_is_row P_is_row (defScope s_is_row) := ⟨rfl, rfl, rfl, by decide +kernel, rfl, by decide +kernel, by decide +kernel⟩
theorem nd_is_row : N_is_row.Nodup := by decide +kernel
abbrev s_is_order : Stmt := topS 10
abbrev N_is_order : List Str := ["value"]
abbrev P_is_order : List Str := ["value"]
theorem sc_is_order : FnScope N_is_order P_is_order (defScope s_is_order) := ⟨rfl, rfl, rfl, by decide +kernel, rfl, by decide +kernel, by decide +kernel⟩
theorem nd_is_order : N_is_order.Nodup := by decide +kernel
abbrev s_need_order : Stmt := topS 11
abbrev N_need_order : List Str := ["order"]
abbrev P_need_order : List Str := ["order"]
theorem sc_need_order : FnScope N_need_order P_need_order (defScope s_need_order) := ⟨rfl, rfl, rfl, by decide +kernel, rfl, by decide +kernel, by decide +kernel⟩
theorem nd_need_order : N_need_order.Nodup := by decide +kernel
abbrev s_order_number : Stmt := topS 12
abbrev N_order_number : List Str := ["order", "left", "found", "item"]
abbrev P_order_number : List Str := ["order"]
theorem sc_order_number : FnScope N_order_number P_order_number (defScope s_order_number) := ⟨rfl, rfl, rfl, by decide +kernel, rfl, by decide +kernel, by decide +kernel⟩
theorem nd_order_number : N_order_number.Nodup := by decide +kernel
abbrev s_order_numbered : Stmt := topS 13
abbrev N_order_numbered : List Str := ["length", "number", "ranks", "rest", "size", "rank", "left", "found"]
abbrev P_order_numbered : List Str := ["length", "number"]
theorem sc_order_numbered : FnScope N_order_numbered P_order_numbered (defScope s_order_numbered) := ⟨rfl, rfl, rfl, by decide +kernel, rfl, by decide +kernel, by decide +kernel⟩
theorem nd_order_numbered : N_order_numbered.Nodup := by decide +kernel
abbrev s_l_hash : Stmt := topS 15
abbrev N_l_hash : List Str := ["_law_seed", "_law_index", "_law_mixed"]
abbrev P_l_hash : List Str := ["_law_seed", "_law_index"]
theorem sc_l_hash : FnScope N_l_hash P_l_hash (defScope s_l_hash) := ⟨rfl, rfl, rfl, by decide +kernel, rfl, by decide +kernel, by decide +kernel⟩
theorem nd_l_hash : N_l_hash.Nodup := by decide +kernel
abbrev s_l_random : Stmt := topS 16
abbrev N_l_random : List Str := ["_law_generator_here", "_law_bound", "_law_drawn", "_law_turn"]
abbrev P_l_random : List Str := ["_law_generator_here", "_law_bound"]
theorem sc_l_random : FnScope N_l_random P_l_random (defScope s_l_random) := ⟨rfl, rfl, rfl, by decide +kernel, rfl, by decide +kernel, by decide +kernel⟩
theorem nd_l_random : N_l_random.Nodup := by decide +kernel
abbrev s_l_cell : Stmt := topS 17
abbrev N_l_cell : List Str := ["_law_script", "_law_index"]
abbrev P_l_cell : List Str := ["_law_script", "_law_index"]
theorem sc_l_cell : FnScope N_l_cell P_l_cell (defScope s_l_cell) := ⟨rfl, rfl, rfl, by decide +kernel, rfl, by decide +kernel, by decide +kernel⟩
theorem nd_l_cell : N_l_cell.Nodup := by decide +kernel
abbrev s_l_generator : Stmt := topS 18
abbrev N_l_generator : List Str := ["_law_script", "_law_index", "_law_seed"]
abbrev P_l_generator : List Str := ["_law_script", "_law_index"]
theorem sc_l_generator : FnScope N_l_generator P_l_generator (defScope s_l_generator) := ⟨rfl, rfl, rfl, by decide +kernel, rfl, by decide +kernel, by decide +kernel⟩
theorem nd_l_generator : N_l_generator.Nodup := by decide +kernel
abbrev s_l_order : Stmt := topS 19
abbrev N_l_order : List Str := ["_law_log_here", "_law_found", "_law_item", "_law_other"]
abbrev P_l_order : List Str := ["_law_log_here"]
theorem sc_l_order : FnScope N_l_order P_l_order (defScope s_l_order) := ⟨rfl, rfl, rfl, by decide +kernel, rfl, by decide +kernel, by decide +kernel⟩
theorem nd_l_order : N_l_order.Nodup := by decide +kernel
abbrev s_l_log : Stmt := topS 20
abbrev N_l_log : List Str := ["_law_order_here", "_law_at", "_law_other"]
abbrev P_l_log : List Str := ["_law_order_here"]
theorem sc_l_log : FnScope N_l_log P_l_log (defScope s_l_log) := ⟨rfl, rfl, rfl, by decide +kernel, rfl, by decide +kernel, by decide +kernel⟩
theorem nd_l_log : N_l_log.Nodup := by decide +kernel
abbrev s_l_drawn_log : Stmt := topS 21
abbrev N_l_drawn_log : List Str := ["_law_generator_here", "_law_length", "_law_at"]
abbrev P_l_drawn_log : List Str := ["_law_generator_here", "_law_length"]
theorem sc_l_drawn_log : FnScope N_l_drawn_log P_l_drawn_log (defScope s_l_drawn_log) := ⟨rfl, rfl, rfl, by decide +kernel, rfl, by decide +kernel, by decide +kernel⟩
theorem nd_l_drawn_log : N_l_drawn_log.Nodup := by decide +kernel
abbrev s_l_all : Stmt := topS 22
abbrev N_l_all : List Str := ["_law_length", "_law_found", "_law_size", "_law_more", "_law_order_here", "_law_item", "_law_other"]
abbrev P_l_all : List Str := ["_law_length"]
theorem sc_l_all : FnScope N_l_all P_l_all (defScope s_l_all) := ⟨rfl, rfl, rfl, by decide +kernel, rfl, by decide +kernel, by decide +kernel⟩
theorem nd_l_all : N_l_all.Nodup := by decide +kernel
abbrev s_l_count : Stmt := topS 23
abbrev N_l_count : List Str := ["_law_length", "_law_found", "_law_number"]
abbrev P_l_count : List Str := ["_law_length"]
theorem sc_l_count : FnScope N_l_count P_l_count (defScope s_l_count) := ⟨rfl, rfl, rfl, by decide +kernel, rfl, by decide +kernel, by decide +kernel⟩
theorem nd_l_count : N_l_count.Nodup := by decide +kernel
abbrev s_l_long_right : Stmt := topS 24
abbrev N_l_long_right : List Str := ["_law_generator_here", "_law_length", "_law_order_here", "_law_given", "_law_number", "_law_other", "_law_one", "_law_two"]
abbrev P_l_long_right : List Str := ["_law_generator_here", "_law_length"]
theorem sc_l_long_right : FnScope N_l_long_right P_l_long_right (defScope s_l_long_right) := ⟨rfl, rfl, rfl, by decide +kernel, rfl, by decide +kernel, by decide +kernel⟩
theorem nd_l_long_right : N_l_long_right.Nodup := by decide +kernel
abbrev s_l_caught : Stmt := topS 25
abbrev N_l_caught : List Str := ["_law_which", "_law_one", "_law_other", "_law_error", "e"]
abbrev P_l_caught : List Str := ["_law_which", "_law_one", "_law_other"]
theorem sc_l_caught : FnScope N_l_caught P_l_caught (defScope s_l_caught) := ⟨rfl, rfl, rfl, by decide +kernel, rfl, by decide +kernel, by decide +kernel⟩
theorem nd_l_caught : N_l_caught.Nodup := by decide +kernel
abbrev s_l_refused : Stmt := topS 26
abbrev N_l_refused : List Str := ["_law_bad"]
abbrev P_l_refused : List Str := []
theorem sc_l_refused : FnScope N_l_refused P_l_refused (defScope s_l_refused) := ⟨rfl, rfl, rfl, by decide +kernel, rfl, by decide +kernel, by decide +kernel⟩
theorem nd_l_refused : N_l_refused.Nodup := by decide +kernel
abbrev s_law : Stmt := topS 27
abbrev N_law : List Str := ["_law_script", "_law_index", "_law_generator_here", "_law_length", "_law_every", "_law_size", "_law_order_here", "_law_number"]
abbrev P_law : List Str := ["_law_script"]
theorem sc_law : FnScope N_law P_law (defScope s_law) := ⟨rfl, rfl, rfl, by decide +kernel, rfl, by decide +kernel, by decide +kernel⟩
theorem nd_law : N_law.Nodup := by decide +kernel
structure Tx (K : PySem.W.Frag) (mg : Str → Option Value) where
  a_is_whole : Addr
  fd_is_whole : FuncData
  F_is_whole : Fun K "is_whole" "is_whole" s_is_whole a_is_whole fd_is_whole
  g_is_whole : mg "is_whole" = some (.ref a_is_whole)
  b_is_whole : Binds K fd_is_whole P_is_whole []
  a_is_count : Addr
  fd_is_count : FuncData
  F_is_count : Fun K "is_count" "is_count" s_is_count a_is_count fd_is_count
  g_is_count : mg "is_count" = some (.ref a_is_count)
  b_is_count : Binds K fd_is_count P_is_count []
  a_is_row : Addr
  fd_is_row : FuncData
  F_is_row : Fun K "is_row" "is_row" s_is_row a_is_row fd_is_row
  g_is_row : mg "is_row" = some (.ref a_is_row)
  b_is_row : Binds K fd_is_row P_is_row []
  a_is_order : Addr
  fd_is_order : FuncData
  F_is_order : Fun K "is_order" "is_order" s_is_order a_is_order fd_is_order
  g_is_order : mg "is_order" = some (.ref a_is_order)
  b_is_order : Binds K fd_is_order P_is_order []
  a_need_order : Addr
  fd_need_order : FuncData
  F_need_order : Fun K "need_order" "need_order" s_need_order a_need_order fd_need_order
  g_need_order : mg "need_order" = some (.ref a_need_order)
  b_need_order : Binds K fd_need_order P_need_order []
  a_order_number : Addr
  fd_order_number : FuncData
  F_order_number : Fun K "order_number" "order_number" s_order_number a_order_number fd_order_number
  g_order_number : mg "order_number" = some (.ref a_order_number)
  b_order_number : Binds K fd_order_number P_order_number []
  a_order_numbered : Addr
  fd_order_numbered : FuncData
  F_order_numbered : Fun K "order_numbered" "order_numbered" s_order_numbered a_order_numbered fd_order_numbered
  g_order_numbered : mg "order_numbered" = some (.ref a_order_numbered)
  b_order_numbered : Binds K fd_order_numbered P_order_numbered []
  a_l_hash : Addr
  fd_l_hash : FuncData
  F_l_hash : Fun K "_law_hash" "_law_hash" s_l_hash a_l_hash fd_l_hash
  g_l_hash : mg "_law_hash" = some (.ref a_l_hash)
  b_l_hash : Binds K fd_l_hash P_l_hash []
  a_l_random : Addr
  fd_l_random : FuncData
  F_l_random : Fun K "_law_random" "_law_random" s_l_random a_l_random fd_l_random
  g_l_random : mg "_law_random" = some (.ref a_l_random)
  b_l_random : Binds K fd_l_random P_l_random []
  a_l_cell : Addr
  fd_l_cell : FuncData
  F_l_cell : Fun K "_law_cell" "_law_cell" s_l_cell a_l_cell fd_l_cell
  g_l_cell : mg "_law_cell" = some (.ref a_l_cell)
  b_l_cell : Binds K fd_l_cell P_l_cell []
  a_l_generator : Addr
  fd_l_generator : FuncData
  F_l_generator : Fun K "_law_generator" "_law_generator" s_l_generator a_l_generator fd_l_generator
  g_l_generator : mg "_law_generator" = some (.ref a_l_generator)
  b_l_generator : Binds K fd_l_generator P_l_generator []
  a_l_order : Addr
  fd_l_order : FuncData
  F_l_order : Fun K "_law_order" "_law_order" s_l_order a_l_order fd_l_order
  g_l_order : mg "_law_order" = some (.ref a_l_order)
  b_l_order : Binds K fd_l_order P_l_order []
  a_l_drawn_log : Addr
  fd_l_drawn_log : FuncData
  F_l_drawn_log : Fun K "_law_drawn_log" "_law_drawn_log" s_l_drawn_log a_l_drawn_log fd_l_drawn_log
  g_l_drawn_log : mg "_law_drawn_log" = some (.ref a_l_drawn_log)
  b_l_drawn_log : Binds K fd_l_drawn_log P_l_drawn_log []
  a_l_all : Addr
  fd_l_all : FuncData
  F_l_all : Fun K "_law_all" "_law_all" s_l_all a_l_all fd_l_all
  g_l_all : mg "_law_all" = some (.ref a_l_all)
  b_l_all : Binds K fd_l_all P_l_all []
  a_l_count : Addr
  fd_l_count : FuncData
  F_l_count : Fun K "_law_count" "_law_count" s_l_count a_l_count fd_l_count
  g_l_count : mg "_law_count" = some (.ref a_l_count)
  b_l_count : Binds K fd_l_count P_l_count []
  a_l_long_right : Addr
  fd_l_long_right : FuncData
  F_l_long_right : Fun K "_law_long_right" "_law_long_right" s_l_long_right a_l_long_right fd_l_long_right
  g_l_long_right : mg "_law_long_right" = some (.ref a_l_long_right)
  b_l_long_right : Binds K fd_l_long_right P_l_long_right []
  a_l_caught : Addr
  fd_l_caught : FuncData
  F_l_caught : Fun K "_law_caught" "_law_caught" s_l_caught a_l_caught fd_l_caught
  g_l_caught : mg "_law_caught" = some (.ref a_l_caught)
  b_l_caught : Binds K fd_l_caught P_l_caught []
  a_l_refused : Addr
  fd_l_refused : FuncData
  F_l_refused : Fun K "_law_refused" "_law_refused" s_l_refused a_l_refused fd_l_refused
  g_l_refused : mg "_law_refused" = some (.ref a_l_refused)
  b_l_refused : Binds K fd_l_refused P_l_refused []
  a_law : Addr
  fd_law : FuncData
  F_law : Fun K "law" "law" s_law a_law fd_law
  g_law : mg "law" = some (.ref a_law)
  b_law : Binds K fd_law P_law []
  a_GapError : Addr
  a_InvalidNumber : Addr
  a_InvalidOrder : Addr
  g_GapError : mg "GapError" = some (.ref a_GapError)
  g_InvalidNumber : mg "InvalidNumber" = some (.ref a_InvalidNumber)
  e_InvalidNumber : ErrC K a_InvalidNumber
  x_InvalidNumber : OexC K a_InvalidNumber
  ai_InvalidNumber : Addr
  fdi_InvalidNumber : FuncData
  i_InvalidNumber : PySem.W.findIn K (.ref a_InvalidNumber) "__init__" = some (some (.ref ai_InvalidNumber))
  t_InvalidNumber : PySem.W.typeIn K (.ref ai_InvalidNumber) = some (.type "function")
  Fi_InvalidNumber : FunV K "__init__" "InvalidNumber.__init__" s_InvalidNumber_init ai_InvalidNumber fdi_InvalidNumber
  bi_InvalidNumber : Binds K fdi_InvalidNumber P_InvalidNumber_init []
  nv_InvalidNumber : PySem.W.findIn K (.ref a_InvalidNumber) "value" = some none
  m_InvalidNumber_GapError : PySem.W.exmOne K (.ref a_InvalidNumber) (.ref a_GapError) = some true
  k_InvalidNumber_InvalidNumber : PySem.W.kitOne K (.ref a_InvalidNumber) (.ref a_InvalidNumber) = some true
  k_InvalidNumber_InvalidOrder : PySem.W.kitOne K (.ref a_InvalidNumber) (.ref a_InvalidOrder) = some false
  kn_InvalidNumber : PySem.W.kitOne K (.type "NoneType") (.ref a_InvalidNumber) = some false
  g_InvalidOrder : mg "InvalidOrder" = some (.ref a_InvalidOrder)
  e_InvalidOrder : ErrC K a_InvalidOrder
  x_InvalidOrder : OexC K a_InvalidOrder
  ai_InvalidOrder : Addr
  fdi_InvalidOrder : FuncData
  i_InvalidOrder : PySem.W.findIn K (.ref a_InvalidOrder) "__init__" = some (some (.ref ai_InvalidOrder))
  t_InvalidOrder : PySem.W.typeIn K (.ref ai_InvalidOrder) = some (.type "function")
  Fi_InvalidOrder : FunV K "__init__" "InvalidOrder.__init__" s_InvalidOrder_init ai_InvalidOrder fdi_InvalidOrder
  bi_InvalidOrder : Binds K fdi_InvalidOrder P_InvalidOrder_init []
  nv_InvalidOrder : PySem.W.findIn K (.ref a_InvalidOrder) "value" = some none
  m_InvalidOrder_GapError : PySem.W.exmOne K (.ref a_InvalidOrder) (.ref a_GapError) = some true
  k_InvalidOrder_InvalidNumber : PySem.W.kitOne K (.ref a_InvalidOrder) (.ref a_InvalidNumber) = some false
  k_InvalidOrder_InvalidOrder : PySem.W.kitOne K (.ref a_InvalidOrder) (.ref a_InvalidOrder) = some true
  kn_InvalidOrder : PySem.W.kitOne K (.type "NoneType") (.ref a_InvalidOrder) = some false
  g_LONGEST : ∃ tk, mg "LONGEST" = some (.int 200 tk)
  g_factorial : mg "factorial" = some (.builtin "math.factorial")
  m_all : mg "all" = none
  m_bool : mg "bool" = none
  m_divmod : mg "divmod" = none
  m_int : mg "int" = none
  m_isinstance : mg "isinstance" = none
  m_len : mg "len" = none
  m_list : mg "list" = none
  m_max : mg "max" = none
  m_min : mg "min" = none
  m_range : mg "range" = none
  m_repr : mg "repr" = none
  m_reversed : mg "reversed" = none
  m_sorted : mg "sorted" = none
  m_sum : mg "sum" = none
end K03



set_option Elab.async false
set_option linter.all false
set_option maxRecDepth 100000
set_option maxHeartbeats 4000000
namespace K03
open PySem PySem.Spec PyProof.Rows L2 Evl GS
local macro_rules | `(tactic| walk_at "bits") => `(tactic| first | (refine bits64 ?_; omega) | (apply bitsM; (focus walk_at "bits"); (focus walk_at "bits")))
local macro_rules | `(tactic| walk_at "side") => `(tactic| first
  | (apply CMulX.of; (focus walk_at "bits"); (focus walk_at "bits"); decide)
  | (dsimp only; omega) | assumption | decide)
local macro_rules | `(tactic| walk_at "rv") => `(tactic| first | exact rv_I0 | (apply rv_I; walk_at "side"))
local macro_rules | `(tactic| walk_at "ev") => `(tactic| first
  | exact ev_c
  | exact ev_var rfl
  | (apply ev_op; (focus walk_at "ev"); (focus walk_at "ev"); (focus walk_at "rv"))
  | (apply ev_int1; walk_at "ev")
  | (apply ev_max2; (focus walk_at "ev"); (focus walk_at "ev"))
  | (apply ev_bits; walk_at "ev"))
/-! ### the draws -/
def hashI (a b : Int) : Int :=
  ((((a * 1140671 + 27644437 * b * b + 131 * b + 19) % 2147483629) * ((a * 1140671 + 27644437 * b * b + 131 * b + 19) % 2147483629) + 62089 * b + 32416187) % 2147483587 * 48271) % 2147483647
theorem hashI_0 (a b : Int) : 0 ≤ hashI a b := Int.emod_nonneg _ (by decide)
theorem hashI_1 (a b : Int) : hashI a b < 2147483647 := Int.emod_lt_of_pos _ (by decide)
/-- the generator's list: its three numbers, the third at most m -/
def Gn (H : Hp) (g : Addr) (m : Int) : Prop := ∃ a b c : Int, H g = some (.lst [.int a, .int b, .int c]) ∧ 0 ≤ a ∧ a < 10 ^ 600 ∧ 0 ≤ b ∧ b < 2147483647 ∧ 0 ≤ c ∧ c ≤ m
/-- all but the generator is as it was -/
def Off (g : Addr) (H H2 : Hp) : Prop := ∀ x o, x ≠ g → H x = some o → H2 x = some o
theorem Off.refl (g : Addr) (H : Hp) : Off g H H := fun _ _ _ h => h
theorem Off.trans {g : Addr} {H H1 H2 : Hp} (a : Off g H H1) (b : Off g H1 H2) : Off g H H2 := fun x o n h => b x o n (a x o n h)
theorem Off.ex {g : Addr} {H H1 H2 : Hp} (a : Off g H H1) (b : Ex H1 H2) : Off g H H2 := fun x o n h => b x o (a x o n h)
theorem Off.upd {g : Addr} {H H1 : Hp} {o : HO} (a : Off g H H1) : Off g H (upd H1 g o) := fun x u n h => by
  rw [upd_ne n]; exact a x u n h
theorem Off.of {g : Addr} {H H1 : Hp} (a : Ex H H1) : Off g H H1 := fun x o _ h => a x o h
theorem Gn.up {H : Hp} {g : Addr} {m n : Int} (h : Gn H g m) (e : m ≤ n) : Gn H g n := by
  obtain ⟨a, b, c, h1, h2, h3, h4, h5, h6, h7⟩ := h
  exact ⟨a, b, c, h1, h2, h3, h4, h5, h6, by omega⟩
theorem Gn.ex {H H2 : Hp} {g : Addr} {m : Int} (h : Gn H g m) (e : Ex H H2) : Gn H2 g m := by
  obtain ⟨a, b, c, h1, h2⟩ := h
  exact ⟨a, b, c, e _ _ h1, h2⟩
/-- a call of hash gives hashI; what a draw leaves -/
def spHash : Sp := fun vs H Q _ => ∃ a b : Int, vs = [.int a, .int b] ∧ 0 ≤ a ∧ a < 2147483647 ∧ 0 ≤ b ∧ b < 2 ^ 60 ∧
  ∀ H2, Ex H H2 → Q (.int (hashI a b)) H2
def spRand : Sp := fun vs H Q _ => ∃ (g : Addr) (n m : Int), vs = [.ref g, .int n] ∧ Gn H g m ∧ m < 2 ^ 59 ∧ 0 < n ∧ n < 2 ^ 300 ∧
  ∀ r H2, 0 ≤ r → r < n → Off g H H2 → Gn H2 g (m + 11) → Q (.int r) H2
section
variable {P : Program} {w : World} {K : PySem.W.Frag} {mg : Str → Option Value} {base : Heap}
theorem ok_hash (T : Tx K mg) : FnOk P w K mg base CX0 1 T.a_l_hash T.fd_l_hash P_l_hash spHash := by
  refine T.F_l_hash.ok sc_l_hash (fun vs H Q E h => ?_) (fun cdv A outer s H vs Q E hr h => ?_)
  · obtain ⟨a, b, rfl, _⟩ := h
    rfl
  · obtain ⟨a, b, rfl, a0, a1, b0, b1, q⟩ := h
    refine ⟨_, (pss_cons (ps_set (i := 2) nd_l_hash rfl (.inl rfl) (pe_op op_mod (pe_callTy c_int (by rfl) T.m_int (by decide +kernel) (pa_cons (pe_op op_add (pe_op op_add (pe_op op_add (pe_op op_mulX (pv 0) pe_int) (pe_op op_mulX (pe_op op_mulX pe_int (pv 1)) (pv 1))) (pe_op op_mulX pe_int (pv 1))) pe_int) pa_nil)) pe_int))
      (pss_cons (ps_set (i := 2) nd_l_hash rfl (.inl rfl) (pe_op op_mod (pe_callTy c_int (by rfl) T.m_int (by decide +kernel) (pa_cons (pe_op op_add (pe_op op_add (pe_op op_mulX (pv 2) (pv 2)) (pe_op op_mulX pe_int (pv 1))) pe_int) pa_nil)) pe_int))
      (pss_one (ps_ret (pe_op op_mod (pe_callTy c_int (by rfl) T.m_int (by decide +kernel) (pa_cons (pe_op op_mulX (pv 2) pe_int) pa_nil)) pe_int))))), ?_⟩
    unfold hashI at q
    apply q_asg; (focus walk_at "ev")
    intro H1 e1
    have m0 := Int.emod_nonneg (a * 1140671 + 27644437 * b * b + 131 * b + 19) (show (2147483629 : Int) ≠ 0 by decide)
    have m1 := Int.emod_lt_of_pos (a * 1140671 + 27644437 * b * b + 131 * b + 19) (show (0 : Int) < 2147483629 by decide)
    generalize (a * 1140671 + 27644437 * b * b + 131 * b + 19) % 2147483629 = m at m0 m1 q ⊢
    apply q_asg; (focus walk_at "ev")
    intro H2 e2
    have k0 := Int.emod_nonneg (m * m + 62089 * b + 32416187) (show (2147483587 : Int) ≠ 0 by decide)
    have k1 := Int.emod_lt_of_pos (m * m + 62089 * b + 32416187) (show (0 : Int) < 2147483587 by decide)
    generalize (m * m + 62089 * b + 32416187) % 2147483587 = k at k0 k1 q ⊢
    apply s_ret; (focus walk_at "ev")
    intro H3 e3
    exact q H3 ((e1.trans e2).trans e3)
theorem bits_turn {d h : Int} {i : Nat} (hd : Builtin.Int.intBits d ≤ 40 * i) (h0 : 0 ≤ h) (h1 : h < 2147483647) :
    Builtin.Int.intBits (d * 2147483587 + h) ≤ 40 * (i + 1) := by
  have a := PySem.intBits_mul_le hd (bits64 (i := 2147483587) (by omega))
  have b : Builtin.Int.intBits 2147483587 ≤ 31 := PySem.intBits_le_iff.mpr (by decide)
  have c := PySem.intBits_mul_le hd b
  have e : Builtin.Int.intBits h ≤ 31 := PySem.intBits_le_iff.mpr (by omega)
  have f := PySem.intBits_add_le c e
  omega
theorem ok_rand (T : Tx K mg) : FnOk P w K mg base CX0 2 T.a_l_random T.fd_l_random P_l_random spRand := by
  have c_l_hash := ok_hash (P := P) (w := w) (base := base) T
  refine T.F_l_random.ok sc_l_random (fun vs H Q E h => ?_) (fun cdv A outer s H vs Q E hr h => ?_)
  · obtain ⟨g, n, m, rfl, _⟩ := h
    rfl
  · obtain ⟨g, n, m, rfl, ⟨a, b, c, hg, a0, a1, b0, b1, c0, c1⟩, hm, n0, n1, q⟩ := h
    have lg : n.natAbs.log2 < 9000 := by
      rcases Nat.lt_or_ge n.natAbs 1 with z | z
      · omega
      · have : n.natAbs.log2 < 300 := (Nat.log2_lt (by omega)).mpr (by omega)
        omega
    have nb : Builtin.Int.intBits n ≤ 300 := PySem.intBits_le_iff.mpr (by omega)
    refine ⟨_, (pss_cons (ps_if (pt_cmpR op_gt (pe_ix (k_ixl (K := K) rfl) (pv 0) pe_int (fun _ _ => rfl)) pe_int (nomark _)) (pss_cons (ps_set (i := 2) nd_l_random rfl (.inl rfl) (pe_op op_mod (pe_callTy c_int (by rfl) T.m_int (by decide +kernel) (pa_cons (pe_ix (k_ixl (K := K) rfl) (pv 0) pe_int (fun _ _ => rfl)) pa_nil)) (pv 1)))
      (pss_cons (ps_asg (pe_op op_fdivW (pe_ix (k_ixl (K := K) rfl) (pv 0) pe_int (fun _ _ => rfl)) (pv 1)) (pg_sub (pv 0) pe_int set_list))
      (pss_one (ps_ret (pv 2))))) pss_nil)
      (pss_cons (ps_set (i := 2) nd_l_random rfl (.inl rfl) pe_int)
      (pss_cons (ps_for PassesOwn.never rfl (pi_range1 (by rfl) T.m_range (pa_cons (pe_op op_add pe_int (pe_op op_fdivW (pe_bits (pv 1)) pe_int)) pa_nil)) (pg_name (i := 3) nd_l_random rfl (.inl rfl)) (pss_cons (ps_asg (pe_op op_add (pe_ix (k_ixl (K := K) rfl) (pv 0) pe_int (fun _ _ => rfl)) pe_int) (pg_sub (pv 0) pe_int set_list))
      (pss_one (ps_set (i := 2) nd_l_random rfl (.inl rfl) (pe_op op_add (pe_op op_mulX (pv 2) pe_int) (pe_call c_l_hash (hr.mono (by decide)) (by rfl) T.g_l_hash T.F_l_hash.kp T.b_l_hash .nil pass0 (pa_cons (pe_ix (k_ixl (K := K) rfl) (pv 0) pe_int (fun _ _ => rfl)) (pa_cons (pe_ix (k_ixl (K := K) rfl) (pv 0) pe_int (fun _ _ => rfl)) pa_nil))))))))
      (pss_one (ps_ret (pe_op op_mod (pe_callTy c_int (by rfl) T.m_int (by decide +kernel) (pa_cons (pv 2) pa_nil)) (pv 1))))))), ?_⟩
    have g0 : ∀ {H1 : Hp} {x y z : V}, H1 g = some (.lst [x, y, z]) → SqL K H1 g [x, y, z] := fun h => sq_of h
    apply q_when (b := decide (0 < a))
    · apply et_test
      apply ev_op
      (focus (apply ev_ixL (ev_var rfl) ev_c (g0 hg) (atI_nat (j := 0) rfl)))
      (focus exact ev_c)
      (focus exact rv_I0)
    · intro hb H1 e1
      have ha := of_decide_eq_true hb
      have hg1 := e1 _ _ hg
      apply q_asg
      · apply ev_op
        · apply ev_int1
          exact ev_ixL (ev_var rfl) ev_c (g0 hg1) (atI_nat (j := 0) rfl)
        · exact ev_var rfl
        · exact rv_I n0
      intro H2 e2
      have hg2 := e2 _ _ hg1
      apply q_setL (j := 0) hg2
      · apply ev_op
        · exact ev_ixL (ev_var rfl) ev_c (g0 hg2) (atI_nat (j := 0) rfl)
        · exact ev_var rfl
        · exact rv_I ⟨n0, lg⟩
      · exact ev_var rfl
      · exact ev_c
      · show 0 < 3
        decide
      intro H3 e3
      apply s_ret
      · exact ev_var rfl
      intro H4 e4
      refine q _ H4 (Int.emod_nonneg _ (by omega)) (Int.emod_lt_of_pos _ n0) ?_ ?_
      · exact ((Off.of ((e1.trans e2).trans e3)).upd).ex e4
      · refine ⟨a / n, b, c, e4 _ _ upd_same, Int.ediv_nonneg a0 (by omega), ?_, b0, b1, c0, by omega⟩
        exact Int.lt_of_le_of_lt (Int.ediv_le_self n a0) a1
    · intro hb H1 e1
      have hg1 := e1 _ _ hg
      apply q_asg
      · exact ev_c
      intro H2 e2
      have hg2 := e2 _ _ hg1
      have tb : (Builtin.Int.intBits n : Int) / 30 ≤ 10 := by omega
      have tb0 : 0 ≤ (Builtin.Int.intBits n : Int) / 30 := by omega
      apply q_forR1 (n := 1 + (Builtin.Int.intBits n : Int) / 30)
      · apply ea_cons
        · apply ev_op
          · exact ev_c
          · apply ev_op
            · exact ev_bits (ev_var rfl)
            · exact ev_c
            · exact rv_I ⟨by decide, by decide⟩
          · exact rv_I0
        · exact ea_nil
      · omega
      rotate_left 3
      · exact fun i σ H3 => ∃ (d : Int) (y : Option V) (c3 : Int), σ = [some (.ref g), some (.int n), some (.int d), y] ∧ Builtin.Int.intBits d ≤ 40 * i ∧
          Off g H H3 ∧ H3 g = some (.lst [.int a, .int b, .int c3]) ∧ 0 ≤ c3 ∧ c3 ≤ c + i
      · intro H3 e3
        refine ⟨0, none, c, rfl, by decide, Off.of ((e1.trans e2).trans e3), e3 _ _ hg2, c0, by omega⟩
      · rintro i σ3 H3 hi ⟨d, y, c3, rfl, hd, of, hg3, c30, c31⟩
        apply q_setL (j := 2) hg3
        · apply ev_op
          · exact ev_ixL (ev_var rfl) ev_c (g0 hg3) (atI_nat (j := 2) rfl)
          · exact ev_c
          · exact rv_I0
        · exact ev_var rfl
        · exact ev_c
        · show 2 < 3
          decide
        intro H4 e4
        have hg4 : (upd H4 g (.lst [.int a, .int b, .int (c3 + 1)])) g = some (.lst [.int a, .int b, .int (c3 + 1)]) := upd_same
        apply s_asg (v := .int (d * 2147483587 + hashI b (c3 + 1)))
        · apply ev_op
          · apply ev_op
            · exact ev_var rfl
            · exact ev_c
            · apply rv_I
              exact CMulX.of hd (bits64 (by omega)) (by omega)
          · apply ev_own
            · apply ea_cons
              · exact ev_ixL (ev_var rfl) ev_c (g0 hg4) (atI_nat (j := 1) rfl)
              apply ea_cons
              · exact ev_ixL (ev_var rfl) ev_c (g0 hg4) (atI_nat (j := 2) rfl)
              exact ea_nil
            · intro H5 e5 Q2 q2
              exact ⟨b, c3 + 1, rfl, b0, b1, by omega, by omega, q2⟩
          · exact rv_I0
        intro H5 e5
        refine ⟨_, _, c3 + 1, rfl, bits_turn hd (hashI_0 _ _) (hashI_1 _ _), ?_, e5 _ _ hg4, by omega, by omega⟩
        exact ((of.ex e4).upd).ex e5
      · rintro σ3 H3 ⟨d, y, c3, rfl, hd, of, hg3, c30, c31⟩
        apply s_ret
        · apply ev_op
          · apply ev_int1
            exact ev_var rfl
          · exact ev_var rfl
          · exact rv_I n0
        intro H4 e4
        refine q _ H4 (Int.emod_nonneg _ (by omega)) (Int.emod_lt_of_pos _ n0) (of.ex e4) ⟨a, b, c3, e4 _ _ hg3, a0, a1, b0, b1, c30, ?_⟩
        omega
end
end K03



set_option Elab.async false
set_option linter.all false
set_option maxRecDepth 100000
set_option maxHeartbeats 4000000
namespace K03
open PySem PySem.Spec PyProof.Rows L2 Evl GS
local macro_rules | `(tactic| walk_at "bits") => `(tactic| first | (refine bits64 ?_; omega) | (apply bitsM; (focus walk_at "bits"); (focus walk_at "bits")))
local macro_rules | `(tactic| walk_at "side") => `(tactic| first
  | (apply CMulX.of; (focus walk_at "bits"); (focus walk_at "bits"); decide)
  | (dsimp only; omega) | assumption | decide)
local macro_rules | `(tactic| walk_at "rv") => `(tactic| first | exact rv_I0 | (apply rv_I; walk_at "side"))
local macro_rules | `(tactic| walk_at "ev") => `(tactic| first
  | exact ev_c
  | exact ev_var rfl
  | (apply ev_op; (focus walk_at "ev"); (focus walk_at "ev"); (focus walk_at "rv"))
  | (apply ev_int1; walk_at "ev")
  | (apply ev_max2; (focus walk_at "ev"); (focus walk_at "ev"))
  | (apply ev_bits; walk_at "ev"))

/-- what the law's order of a log is -/
def lift (x : Int) (o : Int) : Int := if o ≥ x then o + 1 else o
def ordOf : List Int → List Int := fun ns => ns.foldl (fun f x => f.map (lift x) ++ [x]) []
theorem ordOf_snoc (ns : List Int) (x : Int) : ordOf (ns ++ [x]) = (ordOf ns).map (lift x) ++ [x] := by
  unfold ordOf
  rw [List.foldl_append]
  rfl
theorem ordOf_len (ns : List Int) : (ordOf ns).length = ns.length := by
  have key : ∀ (l : List Int) (f : List Int), (l.foldl (fun f x => f.map (lift x) ++ [x]) f).length = f.length + l.length := by
    intro l
    induction l with
    | nil => intro f; rfl
    | cons x l ih =>
      intro f
      rw [List.foldl_cons, ih, List.length_append, List.length_map, List.length_singleton, List.length_cons]
      omega
  have := key ns []
  simpa [ordOf] using this
def logOf (ns : List Int) : List Int := (List.range ns.length).map fun i => (((ns.take i).filter fun o => decide (o < ns.getD i 0)).length : Int)
def spCell (K : PySem.W.Frag) : Sp := fun vs H Q _ => ∃ (a : Addr) (ns : List Int) (i : Nat), vs = [.ref a, .int i] ∧ SqL K H a (ns.map V.int) ∧
  ∀ (r : Int) H2, Ex H H2 → Q (.int r) H2
def spGen (K : PySem.W.Frag) : Sp := fun vs H Q _ => ∃ (a : Addr) (ns : List Int) (i : Nat), vs = [.ref a, .int i] ∧ SqL K H a (ns.map V.int) ∧ i < 1000 ∧
  ∀ p H2, H p = none → Ex H H2 → Gn H2 p (1000 * i) → Q (.ref p) H2
def spOrd (K : PySem.W.Frag) : Sp := fun vs H Q _ => ∃ (a : Addr) (ns : List Int), vs = [.ref a] ∧ SqL K H a (ns.map V.int) ∧ ns.length ≤ 1000 ∧
  RetL ((ordOf ns).map V.int) H Q
def spLog (K : PySem.W.Frag) : Sp := fun vs H Q _ => ∃ (a : Addr) (ns : List Int), vs = [.ref a] ∧ SqL K H a (ns.map V.int) ∧ ns.length ≤ 1000 ∧
  RetL ((logOf ns).map V.int) H Q
/-- logs that are drawn -/
def IsLog (ns : List Int) : Prop := ∀ (i : Nat) (k : Int), ns[i]? = some k → 0 ≤ k ∧ k ≤ i
def spDrawn : Sp := fun vs H Q _ => ∃ (g : Addr) (m : Int) (n : Nat), vs = [.ref g, .int n] ∧ Gn H g m ∧ n ≤ 1000 ∧ m + 11 * n < 2 ^ 59 ∧
  ∀ p ns H2, H p = none → Off g H H2 → Gn H2 g (m + 11 * n) → H2 p = some (.lst (ns.map V.int)) → ns.length = n → IsLog ns → Q (.ref p) H2
section
variable {P : Program} {w : World} {K : PySem.W.Frag} {mg : Str → Option Value} {base : Heap}
theorem ok_cell (T : Tx K mg) : FnOk P w K mg base CX0 1 T.a_l_cell T.fd_l_cell P_l_cell (spCell K) := by
  refine T.F_l_cell.ok sc_l_cell (fun vs H Q E h => ?_) (fun cdv A outer s H vs Q E hr h => ?_)
  · obtain ⟨a, ns, i, rfl, _⟩ := h
    rfl
  · obtain ⟨a, ns, i, rfl, hs, q⟩ := h
    refine ⟨_, (pss_cons (ps_if (pt_cmpR op_lt (pv 1) (pe_callB (k_len (K := K) rfl) (by rfl) T.m_len (by decide +kernel) (pa_cons (pv 0) pa_nil)) (nomark _)) (pss_one (ps_ret (pe_ix (k_ixl (K := K) rfl) (pv 0) (pv 1) (fun _ _ => rfl)))) pss_nil)
      (pss_one (ps_ret (pe_op op_mod (pe_callB (k_sum (K := K) rfl rfl) (by rfl) T.m_sum (by decide +kernel) (pa_cons (pe_slice (k_sll (K := K) rfl) (pv 0) po_none (po_some pe_int)) pa_nil)) pe_int)))), ?_⟩
    apply q_when (b := decide ((i : Int) < (ns.map V.int).length))
    · apply et_test
      apply ev_op
      · exact ev_var rfl
      · exact ev_len (ev_var rfl) hs
      · exact rv_I0
    · intro hb H1 e1
      have hl := of_decide_eq_true hb
      rw [List.length_map] at hl
      have hi : i < ns.length := by omega
      apply s_ret
      · exact ev_ixL (ev_var rfl) (ev_var rfl) (ex_l e1 hs) (atI_int (List.getElem?_eq_getElem hi))
      · intro H2 e2
        exact q _ H2 (e1.trans e2)
    · intro hb H1 e1
      apply s_ret
      · apply ev_op
        · refine ev_sumN (ns := (ns.drop (HT.sIx (ns.map V.int).length 0 none)).take (HT.sIx (ns.map V.int).length (ns.map V.int).length (some 1) - HT.sIx (ns.map V.int).length 0 none)) ?_
          rw [List.map_take, List.map_drop]
          exact el_sl (ev_var rfl) eo_none (eo_some ev_c) (ex_l e1 hs)
        · exact ev_c
        · exact rv_I (by decide)
      · intro H2 e2
        exact q _ H2 (e1.trans e2)
theorem ok_gen (T : Tx K mg) : FnOk P w K mg base CX0 2 T.a_l_generator T.fd_l_generator P_l_generator (spGen K) := by
  have c_l_cell := ok_cell (P := P) (w := w) (base := base) T
  refine T.F_l_generator.ok sc_l_generator (fun vs H Q E h => ?_) (fun cdv A outer s H vs Q E hr h => ?_)
  · obtain ⟨a, ns, i, rfl, _⟩ := h
    rfl
  · obtain ⟨a, ns, i, rfl, hs, hi, q⟩ := h
    refine ⟨_, (pss_cons (ps_set (i := 2) nd_l_generator rfl (.inl rfl) (pe_call c_l_cell (hr.mono (by decide)) (by rfl) T.g_l_cell T.F_l_cell.kp T.b_l_cell .nil pass0 (pa_cons (pv 0) (pa_cons (pv 1) pa_nil))))
      (pss_one (ps_ret (pe_lst (pa_cons (pe_op op_mod (pe_callTy c_int (by rfl) T.m_int (by decide +kernel) (pa_cons (pe_callB (c_max2 rfl) (by rfl) T.m_max (by decide +kernel) (pa_cons (pe_op op_sub (pv 2) (pe_op op_powX pe_int pe_int)) (pa_cons pe_int pa_nil))) pa_nil)) (pe_op op_powX (pe_op op_powX pe_int pe_int) pe_int)) (pa_cons (pe_op op_mod (pe_callTy c_int (by rfl) T.m_int (by decide +kernel) (pa_cons (pv 2) pa_nil)) pe_int) (pa_cons (pe_op op_mulX pe_int (pv 1)) pa_nil))))))), ?_⟩
    apply q_set
    refine ⟨.ref a, rfl, .int i, rfl, a, ns, i, rfl, hs, fun r H1 e1 => ?_⟩
    have p0 : (0 : Int) < ((10 : Int) ^ Int.toNat 60) ^ Int.toNat 10 := by decide +kernel
    have pe : ((10 : Int) ^ Int.toNat 60) ^ Int.toNat 10 = 10 ^ 600 := by decide +kernel
    apply s_retL
    · apply el_lst
      · apply ea_cons
        · apply ev_op
          · apply ev_int1
            apply ev_max2
            · apply ev_op
              · exact ev_var rfl
              · apply ev_op
                · exact ev_c
                · exact ev_c
                · exact rv_I ⟨by decide, by decide +kernel⟩
              · exact rv_I0
            · exact ev_c
          · apply ev_op
            · apply ev_op
              · exact ev_c
              · exact ev_c
              · exact rv_I ⟨by decide, by decide +kernel⟩
            · exact ev_c
            · exact rv_I ⟨by decide, by decide +kernel⟩
          · exact rv_I p0
        apply ea_cons
        · apply ev_op
          · apply ev_int1
            exact ev_var rfl
          · exact ev_c
          · exact rv_I (by decide)
        apply ea_cons
        · apply ev_op
          · exact ev_c
          · exact ev_var rfl
          · apply rv_I
            exact CMulX.of (bits64 (by omega)) (bits64 (by omega)) (by decide)
        exact ea_nil
      · show 3 ≤ 100000
        decide
    intro p H2 np e2 hp
    refine q p H2 (free_of e1 np) (e1.trans e2) ⟨_, _, _, hp, Int.emod_nonneg _ (by rw [pe]; decide), ?_, Int.emod_nonneg _ (by decide), Int.emod_lt_of_pos _ (by decide), by omega, Int.le_refl _⟩
    rw [← pe]
    exact Int.emod_lt_of_pos _ p0
theorem ok_ord (T : Tx K mg) : FnOk P w K mg base CX0 1 T.a_l_order T.fd_l_order P_l_order (spOrd K) := by
  refine T.F_l_order.ok sc_l_order (fun vs H Q E h => ?_) (fun cdv A outer s H vs Q E hr h => ?_)
  · obtain ⟨a, ns, rfl, _⟩ := h
    rfl
  · obtain ⟨a, ns, rfl, hs, hl, q⟩ := h
    refine ⟨_, (pss_cons (ps_set (i := 1) nd_l_order rfl (.inl rfl) (pe_lst pa_nil))
      (pss_cons (ps_for PassesOwn.never rfl (k_pil (K := K) rfl (pv 0)) (pg_name (i := 2) nd_l_order rfl (.inr rfl)) (pss_one (ps_set (i := 1) nd_l_order rfl (.inl rfl) (pe_op op_cat (pe_lc (own := [("_law_other", 3)]) rfl nd_l_order (k_pil (K := K) rfl (pv 1)) (blkOk_by (N := N_l_order) (sc := (defScope s_l_order)) (by decide +kernel)) (fun _ _ _ _ _ => pg_name (i := 3) nd_l_order rfl (.inl rfl)) (fun _ _ _ _ _ => pts_nil) (fun _ _ _ _ _ => (pe_ifExp (pt_cmpR op_ge (pv 3) (pv 2) (nomark _)) (pe_op op_add (pv 3) pe_int) (pv 3)))) (pe_lst (pa_cons (pv 2) pa_nil))))))
      (pss_one (ps_ret (pv 1))))), ?_⟩
    apply q_asgL
    · exact el_lst ea_nil (by decide)
    intro o H1 no e1 ho
    apply q_forLn (ev_var rfl) (ex_l e1 hs)
    rotate_left 4
    · exact fun i σ H2 => ∃ (o : Addr) (y z : Option V), σ = [some (.ref a), some (.ref o), y, z] ∧ H o = none ∧ Ex H H2 ∧ H2 o = some (.lst ((ordOf (ns.take i)).map V.int))
    · intro H2 e2
      exact ⟨o, _, _, rfl, no, e1.trans e2, e2 _ _ ho⟩
    · rintro i σ H2 hi ⟨o, y, z, rfl, no, e2, ho⟩
      exact ex_l e2 hs
    · rintro i x σ H2 hx ⟨o, y, z, rfl, no, e2, ho⟩
      obtain ⟨k, hk, rfl⟩ := getI hx
      have hlen : (ordOf (ns.take i)).length ≤ 1000 := by
        rw [ordOf_len, List.length_take]; omega
      have hr : given ((ordOf (ns.take i)).map V.int).length (fun _ => true) (fun j => .int (lift k ((ordOf (ns.take i)).getD j 0))) = ((ordOf (ns.take i)).map (lift k)).map V.int := by
        rw [given_all, List.length_map, range_getD (ordOf (ns.take i)) 0 (fun z => V.int (lift k z)), List.map_map]
        rfl
      apply s_asgL (xs := (ordOf (ns.take (i + 1))).map V.int)
      · rw [take_snoc hk, ordOf_snoc, List.map_append]
        apply el_cat
        · rw [← hr]
          apply el_lcL (xs := (ordOf (ns.take i)).map V.int) (a := o)
          · exact ev_var rfl
          · exact sq_of ho
          · rw [List.length_map]; omega
          · intro x; rfl
          · intro j x H3 e3 hj
            exact fun H4 e4 Q4 q4 => q4 H4 (Ex.refl _)
          · intro j x H3 e3 hj _
            obtain ⟨c, hc, rfl⟩ := getI hj
            rw [getD_of hc]
            apply ev_if (b := decide (k ≤ c))
            · apply et_test
              apply ev_op
              · exact ev_var rfl
              · exact ev_var rfl
              · exact rv_I0
            · intro hb
              have := of_decide_eq_true hb
              rw [show lift k c = c + 1 from if_pos this]
              apply ev_op
              · exact ev_var rfl
              · exact ev_c
              · exact rv_I0
            · intro hb
              have := of_decide_eq_false hb
              rw [show lift k c = c from if_neg this]
              exact ev_var rfl
        · apply el_lst
          · exact ea_cons (ev_var rfl) ea_nil
          · show 1 ≤ 100000
            decide
        · simp only [List.length_map, List.length_singleton, ordOf_len, List.length_cons, List.length_nil]
          rw [List.length_take]
          omega
      intro p H3 np e3 hp
      exact ⟨p, _, _, rfl, free_of e2 np, e2.trans e3, hp⟩
    · rintro σ H2 ⟨o, y, z, rfl, no, e2, ho⟩
      rw [List.length_map, List.take_length] at ho
      apply s_ret
      · exact ev_var rfl
      intro H3 e3
      exact q o H3 no (e2.trans e3) (e3 _ _ ho)
end
end K03



set_option Elab.async false
set_option linter.all false
set_option maxRecDepth 100000
set_option maxHeartbeats 4000000
namespace K03
open PySem PySem.Spec PyProof.Rows L2 Evl GS
local macro_rules | `(tactic| walk_at "bits") => `(tactic| first | (refine bits64 ?_; omega) | (apply bitsM; (focus walk_at "bits"); (focus walk_at "bits")))
local macro_rules | `(tactic| walk_at "side") => `(tactic| first
  | (apply CMulX.of; (focus walk_at "bits"); (focus walk_at "bits"); decide)
  | (dsimp only; omega) | assumption | decide)
local macro_rules | `(tactic| walk_at "rv") => `(tactic| first | exact rv_I0 | (apply rv_I; walk_at "side"))
local macro_rules | `(tactic| walk_at "ev") => `(tactic| first
  | exact ev_c
  | exact ev_var rfl
  | (apply ev_op; (focus walk_at "ev"); (focus walk_at "ev"); (focus walk_at "rv"))
  | (apply ev_int1; walk_at "ev")
  | (apply ev_max2; (focus walk_at "ev"); (focus walk_at "ev"))
  | (apply ev_bits; walk_at "ev"))

theorem cut_to (xs : List V) (i : Nat) : cutV xs none (some (i : Int)) = xs.take i := by
  unfold cutV
  rw [HT.sIx_none, HT.sIx_nat, Nat.sub_zero, List.drop_zero]
  rcases Nat.le_total i xs.length with h | h
  · rw [Nat.min_eq_left h]
  · rw [Nat.min_eq_right h, List.take_of_length_le h, List.take_length]
theorem given_filter (l : List Int) (p : Int → Bool) : given l.length (fun j => p (l.getD j 0)) (fun j => V.int (l.getD j 0)) = (l.filter p).map V.int := by
  have e : ∀ n, n ≤ l.length → given n (fun j => p (l.getD j 0)) (fun j => V.int (l.getD j 0)) = ((l.take n).filter p).map V.int := by
    intro n
    induction n with
    | zero => intro _; rfl
    | succ n ih =>
      intro hn
      have hg : l[n]? = some (l.getD n 0) := by
        rw [List.getD_eq_getElem?_getD, List.getElem?_eq_getElem (by omega)]
        rfl
      rw [take_snoc hg, List.filter_append, List.map_append, ← ih (by omega)]
      cases hp : p (l.getD n 0) with
      | true =>
        rw [given_yes hp, List.filter_cons, if_pos hp]
        rfl
      | false =>
        rw [given_no hp, List.filter_cons, if_neg (by rw [hp]; decide)]
        simp
  rw [e l.length (Nat.le_refl _), List.take_length]
section
variable {P : Program} {w : World} {K : PySem.W.Frag} {mg : Str → Option Value} {base : Heap}
/-- len([o for o in xs[:i] if o < k]), over the items ahead -/
theorem ev_count {σ : L2.St} {H : Hp} {ta tb ti : TE} {j : Nat} {a : Addr} {ns : List Int} {i : Nat} {k : Int} (h : Ev ta σ H (.ref a)) (hi : Ev ti σ H (.int i)) (hs : SqL K H a (ns.map V.int))
    (hl : ns.length ≤ 1000) (hj : j < σ.length) (hb : ∀ (x : V) H1, Ex H H1 → Ev tb ((wipe σ [j]).set j (some x)) H1 (.int k)) :
    Ev (tCB (rLenS K) (tCons (tLc (iList K (tSl (rSlL K) ta tNoPart (tPart ti))) (gName j) (tTest (tOp (rI0 fun x y => .bl (decide (x < y))) (tVar j) tb)) (tVar j) [j]) tNil)) σ H
      (.int ((((ns.take i).filter fun o => decide (o < k)).length : Nat) : Int)) := by
  have e := given_filter (ns.take i) (fun o => decide (o < k))
  have e2 : (((ns.take i).filter fun o => decide (o < k)).length) = (((ns.take i).filter fun o => decide (o < k)).map V.int).length := by rw [List.length_map]
  rw [e2, ← e]
  apply ev_lenN
  have c : (cutV (ns.map V.int) none (some (i : Int))).length = (ns.take i).length := by rw [cut_to, ← List.map_take, List.length_map]
  rw [← c]
  have look : ∀ (x : V), ((wipe σ [j]).set j (some x))[j]? = some (some x) := fun x => by
    rw [List.getElem?_set_self (by rw [wipe_length]; exact hj)]
  apply el_lcNL
  · exact el_sl h eo_none (eo_some hi) hs
  · rw [c, List.length_take]; omega
  · intro x
    show ((σ.set j none).set j (some x)).set j none = σ.set j none
    rw [List.set_set, List.set_set]
  · intro n x H1 e1 hx
    rw [cut_to, ← List.map_take] at hx
    obtain ⟨z, hz, rfl⟩ := getI hx
    rw [getD_of hz]
    apply et_test
    apply ev_op
    · exact ev_var (look _)
    · exact hb _ H1 e1
    · exact rv_I0
  · intro n x H1 e1 hx _
    rw [cut_to, ← List.map_take] at hx
    obtain ⟨z, hz, rfl⟩ := getI hx
    rw [getD_of hz]
    exact ev_var (look _)
theorem ok_drawn (T : Tx K mg) : FnOk P w K mg base CX0 3 T.a_l_drawn_log T.fd_l_drawn_log P_l_drawn_log spDrawn := by
  have c_l_random := ok_rand (P := P) (w := w) (base := base) T
  refine T.F_l_drawn_log.ok sc_l_drawn_log (fun vs H Q E h => ?_) (fun cdv A outer s H vs Q E hr h => ?_)
  · obtain ⟨g, m, n, rfl, _⟩ := h
    rfl
  · obtain ⟨g, m, n, rfl, hg, hn, hm, q⟩ := h
    refine ⟨_, (pss_one (ps_ret (pe_lc (own := [("_law_at", 2)]) rfl nd_l_drawn_log (pi_range1 (by rfl) T.m_range (pa_cons (pv 1) pa_nil)) (blkOk_by (N := N_l_drawn_log) (sc := (defScope s_l_drawn_log)) (by decide +kernel)) (fun _ _ _ _ _ => pg_name (i := 2) nd_l_drawn_log rfl (.inl rfl)) (fun _ _ _ _ _ => pts_nil) (fun _ _ _ _ _ => (pe_call c_l_random (hr.mono (by decide)) (by rfl) T.g_l_random T.F_l_random.kp T.b_l_random .nil pass0 (pa_cons (pv 0) (pa_cons (pe_op op_add (pv 2) pe_int) pa_nil))))))), ?_⟩
    have gl : ∀ {H1 : Hp} {D : Addr} {m : Int}, Gn H1 g m → H1 D = none → D ≠ g := by
      rintro H1 D m ⟨a, b, c, h1, _⟩ h2 rfl
      rw [h1] at h2
      cases h2
    refine lc_rng (n := n) ?_ ?_ ?_ (fun D i acc H2 => ∃ ns : List Int, acc = ns.map V.int ∧ H2 D = some (.lst acc) ∧ ns.length = i ∧ IsLog ns ∧ Off g H H2 ∧ H D = none ∧ D ≠ g ∧ Gn H2 g (m + 11 * i)) ?_ ?_ ?_
    · exact ea_cons (ev_var rfl) ea_nil
    · omega
    · intro x; rfl
    · intro D H1 e1 hD
      have nD := gl (hg.ex e1) hD
      refine ⟨[], rfl, upd_same, rfl, fun i k h => by simp at h, ?_, free_of e1 hD, nD, ?_⟩
      · exact Off.of (e1.trans (Ex.new hD))
      · exact ((hg.ex e1).ex (Ex.new hD)).up (by omega)
    · rintro D i acc H2 hi ⟨ns, rfl, hD, hl, il, of, nD, Dg, g2⟩
      unfold tYes
      refine iteT ?_
      refine ⟨.ref g, rfl, .int i, rfl, i, 1, rfl, rfl, g, (i : Int) + 1, m + 11 * i, rfl, g2, by omega, by omega, by omega, ?_⟩
      intro r H3 r0 r1 of3 g3
      have hD3 := of3 D _ Dg hD
      refine ⟨ns.map V.int, hD3, ?_, _, ns ++ [r], rfl, ?_, ?_, ?_, ?_, nD, Dg, ?_⟩
      · rw [List.length_map]; exact small1000 (by omega)
      · rw [upd_same, List.map_append]; rfl
      · rw [List.length_append, List.length_singleton, hl]
      · intro j k hj
        rcases Nat.lt_or_ge j ns.length with lt | ge
        · rw [List.getElem?_append_left lt] at hj
          exact il j k hj
        · rw [List.getElem?_append_right ge] at hj
          have e0 : j - ns.length = 0 := by
            rcases Nat.eq_zero_or_pos (j - ns.length) with z | z
            · exact z
            · rw [List.getElem?_eq_none (by rw [List.length_singleton]; exact z)] at hj
              cases hj
          rw [e0] at hj
          have e1 : r = k := Option.some.inj hj
          subst e1
          omega
      · intro x o nx hx
        have z := of3 x o nx (of x o nx hx)
        rw [upd_ne (ne_of_none hx nD)]
        exact z
      · obtain ⟨a, b, c, h1, h2, h3, h4, h5, h6, h7⟩ := g3
        refine ⟨a, b, c, by rw [upd_ne (Ne.symm Dg)]; exact h1, h2, h3, h4, h5, h6, ?_⟩
        push_cast
        omega
    · rintro D acc H2 ⟨ns, rfl, hD, hl, il, of, nD, Dg, g2⟩
      exact q D ns H2 nD of (g2.up (by omega)) hD (by omega) il
end
end K03



set_option Elab.async false
set_option linter.all false
set_option maxRecDepth 100000
set_option maxHeartbeats 4000000
namespace K03
open PySem PySem.Spec PyProof.Rows L2 Evl GS
local macro_rules | `(tactic| walk_at "bits") => `(tactic| first | (refine bits64 ?_; omega) | (apply bitsM; (focus walk_at "bits"); (focus walk_at "bits")))
local macro_rules | `(tactic| walk_at "side") => `(tactic| first
  | (apply CMulX.of; (focus walk_at "bits"); (focus walk_at "bits"); decide)
  | (dsimp only; omega) | assumption | decide)
local macro_rules | `(tactic| walk_at "rv") => `(tactic| first | exact rv_I0 | (apply rv_I; walk_at "side"))
local macro_rules | `(tactic| walk_at "ev") => `(tactic| first
  | exact ev_c
  | exact ev_var rfl
  | (apply ev_op; (focus walk_at "ev"); (focus walk_at "ev"); (focus walk_at "rv"))
  | (apply ev_int1; walk_at "ev")
  | (apply ev_max2; (focus walk_at "ev"); (focus walk_at "ev"))
  | (apply ev_bits; walk_at "ev"))

/-! ### what is an order, a row, a log -/
def isWhole : PyData → Bool
  | .int _ => true
  | _ => false
def isCount : PyData → Bool
  | .int i => decide (0 ≤ i)
  | _ => false
def isRow : PyData → Bool
  | .list ds => decide (ds.length ≤ 200) && ds.all isCount
  | _ => false
def intD : PyData → Int
  | .int i => i
  | _ => 0
def intsD (ds : List PyData) : List Int := ds.map intD
def isOrder : PyData → Bool
  | .list ds => isRow (.list ds) && decide (isort (intsD ds) = rangeI ds.length)
  | _ => false
def isLog : PyData → Bool
  | .list ds => isRow (.list ds) && (List.range ds.length).all fun i => decide (intD (ds.getD i .none) ≤ i)
  | _ => false
theorem isRow_ints {ds : List PyData} (h : isRow (.list ds) = true) : ds = (intsD ds).map PyData.int ∧ ds.length ≤ 200 := by
  obtain ⟨h1, h2⟩ := Bool.and_eq_true_iff.mp h
  refine ⟨?_, of_decide_eq_true h1⟩
  unfold intsD
  rw [List.map_map]
  have e : ds.map id = ds.map (PyData.int ∘ intD) := by
    apply List.map_congr_left
    intro d hd
    have c := List.all_eq_true.mp h2 d hd
    cases d with
    | int i => rfl
    | _ => cases c
  simpa using e
theorem rp_ints {K : PySem.W.Frag} {H : Hp} : ∀ {ns : List Int} {xs : List V}, RpAll K H xs (ns.map PyData.int) → xs = ns.map V.int
  | [], [], _ => rfl
  | [], _ :: _, h => by cases h
  | n :: ns, [], h => by cases h
  | n :: ns, x :: xs, h => by
    cases h with
    | cons h hs =>
      cases h
      rw [rp_ints hs]
      rfl
/-- of one datum: a truth value -/
def spTell (K : PySem.W.Frag) (f : PyData → Bool) : Sp := fun vs H Q _ => ∃ v d, vs = [v] ∧ Rp K H v d ∧ RetV (.bl (f d)) H Q
def mW : PyData → Bool
  | .int _ => true
  | .bool _ => true
  | _ => false
def mB : PyData → Bool
  | .bool _ => true
  | _ => false
def mL : PyData → Bool
  | .list _ => true
  | _ => false
theorem kWhole (d : PyData) : kitB (tyD d) "int" = some (mW d) := by
  cases d with
  | none => exact (by decide +kernel : kitB "NoneType" "int" = some false)
  | bool b => exact (by decide +kernel : kitB "bool" "int" = some true)
  | int b => exact (by decide +kernel : kitB "int" "int" = some true)
  | str b => exact (by decide +kernel : kitB "str" "int" = some false)
  | list b => exact (by decide +kernel : kitB "list" "int" = some false)
  | tuple b => exact (by decide +kernel : kitB "tuple" "int" = some false)
  | dict b => exact (by decide +kernel : kitB "dict" "int" = some false)
theorem kBool (d : PyData) : kitB (tyD d) "bool" = some (mB d) := by
  cases d with
  | none => exact (by decide +kernel : kitB "NoneType" "bool" = some false)
  | bool b => exact (by decide +kernel : kitB "bool" "bool" = some true)
  | int b => exact (by decide +kernel : kitB "int" "bool" = some false)
  | str b => exact (by decide +kernel : kitB "str" "bool" = some false)
  | list b => exact (by decide +kernel : kitB "list" "bool" = some false)
  | tuple b => exact (by decide +kernel : kitB "tuple" "bool" = some false)
  | dict b => exact (by decide +kernel : kitB "dict" "bool" = some false)
theorem kList (d : PyData) : kitB (tyD d) "list" = some (mL d) := by
  cases d with
  | none => exact (by decide +kernel : kitB "NoneType" "list" = some false)
  | bool b => exact (by decide +kernel : kitB "bool" "list" = some false)
  | int b => exact (by decide +kernel : kitB "int" "list" = some false)
  | str b => exact (by decide +kernel : kitB "str" "list" = some false)
  | list b => exact (by decide +kernel : kitB "list" "list" = some true)
  | tuple b => exact (by decide +kernel : kitB "tuple" "list" = some false)
  | dict b => exact (by decide +kernel : kitB "dict" "list" = some false)
section
variable {P : Program} {w : World} {K : PySem.W.Frag} {mg : Str → Option Value} {base : Heap}
theorem ok_whole (T : Tx K mg) : FnOk P w K mg base CX0 1 T.a_is_whole T.fd_is_whole P_is_whole (spTell K isWhole) := by
  refine T.F_is_whole.ok sc_is_whole (fun vs H Q E h => ?_) (fun cdv A outer s H vs Q E hr h => ?_)
  · obtain ⟨v, d, rfl, _⟩ := h
    rfl
  · obtain ⟨v, d, rfl, hd, q⟩ := h
    refine ⟨_, (pss_one (ps_ret (pe_and (pe_callB (k_isi (K := K) rfl) (by rfl) T.m_isinstance (by decide +kernel) (pa_cons (pv 0) (pa_cons (pe_bltn (v := .ty "int") (by rfl) T.m_int (by decide +kernel) rfl) pa_nil))) (pe_one (pe_not (pe_callB (k_isi (K := K) rfl) (by rfl) T.m_isinstance (by decide +kernel) (pa_cons (pv 0) (pa_cons (pe_bltn (v := .ty "bool") (by rfl) T.m_bool (by decide +kernel) rfl) pa_nil)))))))), ?_⟩
    have e : isWhole d = (mW d && !mB d) := by
      cases d <;> rfl
    rw [e] at q
    apply s_ret
    · apply ev_andV
      · exact ev_isT (ed_var rfl hd) (kWhole d)
      · intro _
        apply ev_notV
        exact ev_isT (ed_var rfl hd) (kBool d)
    · exact fun H2 e2 => q H2 e2
theorem ok_count (T : Tx K mg) : FnOk P w K mg base CX0 2 T.a_is_count T.fd_is_count P_is_count (spTell K isCount) := by
  have c_is_whole := ok_whole (P := P) (w := w) (base := base) T
  refine T.F_is_count.ok sc_is_count (fun vs H Q E h => ?_) (fun cdv A outer s H vs Q E hr h => ?_)
  · obtain ⟨v, d, rfl, _⟩ := h
    rfl
  · obtain ⟨v, d, rfl, hd, q⟩ := h
    refine ⟨_, (pss_one (ps_ret (pe_and (pe_call c_is_whole (hr.mono (by decide)) (by rfl) T.g_is_whole T.F_is_whole.kp T.b_is_whole .nil pass0 (pa_cons (pv 0) pa_nil)) (pe_one (pe_cmpR op_ge (pv 0) pe_int (nomark _)))))), ?_⟩
    have e : isCount d = (isWhole d && decide (0 ≤ intD d)) := by
      cases d <;> rfl
    rw [e] at q
    apply s_ret (v := .bl (isWhole d && decide (0 ≤ intD d)))
    · apply ev_andV
      · apply ev_ownD (eda_cons (ed_var rfl hd) eda_nil)
        rintro vs H1 e1 hv Q2 q2
        cases hv with
        | cons hv hn =>
          cases hn
          exact ⟨_, d, rfl, hv, q2⟩
      · intro hw
        cases d with
        | int i =>
          cases hd
          apply ev_op
          · exact ev_var rfl
          · exact ev_c
          · exact rv_I0
        | _ => cases hw
    · exact fun H2 e2 => q H2 e2
theorem ok_row (T : Tx K mg) : FnOk P w K mg base CX0 3 T.a_is_row T.fd_is_row P_is_row (spTell K isRow) := by
  have c_is_count := ok_count (P := P) (w := w) (base := base) T
  refine T.F_is_row.ok sc_is_row (fun vs H Q E h => ?_) (fun cdv A outer s H vs Q E hr h => ?_)
  · obtain ⟨v, d, rfl, _⟩ := h
    rfl
  · obtain ⟨v, d, rfl, hd, q⟩ := h
    refine ⟨_, (pss_cons (ps_if (PW.pt (pw_or (pt_not (pt_val (pe_callB (k_isi (K := K) rfl) (by rfl) T.m_isinstance (by decide +kernel) (pa_cons (pv 0) (pa_cons (pe_bltn (v := .ty "list") (by rfl) T.m_list (by decide +kernel) rfl) pa_nil))))) (pw_or1 (pt_cmpR op_gt (pe_callB (k_len (K := K) rfl) (by rfl) T.m_len (by decide +kernel) (pa_cons (pv 0) pa_nil)) (pe_const (by rfl) T.g_LONGEST) (nomark _))))) (pss_one (ps_ret pe_bl)) pss_nil)
      (pss_one (ps_ret (pe_callB (k_all (K := K) rfl rfl) (by rfl) T.m_all (by decide +kernel) (pa_cons (pe_lc (own := [("item", 1)]) rfl nd_is_row (k_pil (K := K) rfl (pv 0)) (blkOk_by (N := N_is_row) (sc := (defScope s_is_row)) (by decide +kernel)) (fun _ _ _ _ _ => pg_name (i := 1) nd_is_row rfl (.inl rfl)) (fun _ _ _ _ _ => pts_nil) (fun _ _ _ _ _ => (pe_call c_is_count (hr.mono (by decide)) (by rfl) T.g_is_count T.F_is_count.kp T.b_is_count .nil pass0 (pa_cons (pv 1) pa_nil)))) pa_nil))))), ?_⟩
    cases d with
    | list ds =>
      cases hd with
      | @lst a xs ds hx hs =>
        have hl := hs.length
        apply q_when (b := decide (200 < (xs.length : Int)))
        · have z : EvT (tNot (tB (tCB (rIsAny K) (tCons (tVar 0) (tCons (tC (.ty "list")) tNil))))) (L2.start N_is_row [.ref a]) H false := by
            exact et_is (et_not (et_B (ev_isT (ed_var rfl (.lst hx hs)) (kList _)))) rfl
          refine et_is (a := false || decide (200 < (xs.length : Int))) (et_or z fun _ => et_test ?_) rfl
          apply ev_op
          · exact ev_len (ev_var rfl) hx
          · exact ev_c
          · exact rv_I0
        · intro hb H1 e1
          have h2 := of_decide_eq_true hb
          apply s_ret
          · exact ev_c
          · intro H2 e2
            have e : isRow (.list ds) = false := by
              show (decide (ds.length ≤ 200) && ds.all isCount) = false
              rw [decide_eq_false (by omega), Bool.false_and]
            rw [e] at q
            exact q H2 (e1.trans e2)
        · intro hb H1 e1
          have h2 := of_decide_eq_false hb
          apply s_ret (v := .bl (isRow (.list ds)))
          · have e : isRow (.list ds) = ((List.range ds.length).map fun i => isCount (ds.getD i .none)).all id := by
              show (decide (ds.length ≤ 200) && ds.all isCount) = _
              rw [decide_eq_true (by omega), Bool.true_and, range_getD ds .none isCount, List.all_map]
              rfl
            rw [e]
            apply ev_all
            have e3 : ((List.range ds.length).map fun i => isCount (ds.getD i .none)).map V.bl = given xs.length (fun _ => true) (fun i => .bl (isCount (ds.getD i .none))) := by
              rw [given_all, hl, List.map_map]
              rfl
            rw [e3]
            apply el_lcL (a := a)
            · exact ev_var rfl
            · exact ex_l e1 hx
            · omega
            · intro x; rfl
            · intro j x H3 e3 hj H4 e4 Q4 q4
              exact q4 H4 (Ex.refl _)
            · intro j x H3 e3 hj _
              obtain ⟨d, hdj, hr⟩ := (hs.to (e1.trans e3)).get hj
              have e5 : ds.getD j .none = d := by
                rw [List.getD_eq_getElem?_getD, hdj]; rfl
              rw [e5]
              apply ev_ownD (eda_cons (ed_var rfl hr) eda_nil)
              rintro vs H5 e5 hv Q2 q2
              cases hv with
              | cons hv hn =>
                cases hn
                exact ⟨_, d, rfl, hv, q2⟩
          · exact fun H2 e2 => q H2 (e1.trans e2)
    | _ =>
      apply q_when (b := true)
      · have z := et_not (et_B (ev_isT (K := K) (ed_var (σ := L2.start N_is_row [v]) (i := 0) rfl hd) (kList _)))
        refine et_is (a := true || true) (et_or z fun h => by cases h) rfl
      · intro _ H1 e1
        apply s_ret
        · exact ev_c
        · exact fun H2 e2 => q H2 (e1.trans e2)
      · intro h
        cases h
end
end K03



set_option Elab.async false
set_option linter.all false
set_option maxRecDepth 100000
set_option maxHeartbeats 4000000
namespace K03
open PySem PySem.Spec PyProof.Rows L2 Evl GS
local macro_rules | `(tactic| walk_at "bits") => `(tactic| first | (refine bits64 ?_; omega) | (apply bitsM; (focus walk_at "bits"); (focus walk_at "bits")))
local macro_rules | `(tactic| walk_at "side") => `(tactic| first
  | (apply CMulX.of; (focus walk_at "bits"); (focus walk_at "bits"); decide)
  | (dsimp only; omega) | assumption | decide)
local macro_rules | `(tactic| walk_at "rv") => `(tactic| first | exact rv_I0 | (apply rv_I; walk_at "side"))
local macro_rules | `(tactic| walk_at "ev") => `(tactic| first
  | exact ev_c
  | exact ev_var rfl
  | (apply ev_op; (focus walk_at "ev"); (focus walk_at "ev"); (focus walk_at "rv"))
  | (apply ev_int1; walk_at "ev")
  | (apply ev_max2; (focus walk_at "ev"); (focus walk_at "ev"))
  | (apply ev_bits; walk_at "ev"))

theorem eqvAll_ints : ∀ (a b : List Int), PyData.eqvAll (a.map .int) (b.map .int) = decide (a = b)
  | [], [] => rfl
  | [], _ :: _ => rfl
  | _ :: _, [] => rfl
  | x :: a, y :: b => by
    show ((x == y) && PyData.eqvAll (a.map .int) (b.map .int)) = _
    rw [eqvAll_ints a b]
    by_cases h : x = y
    · subst h
      by_cases h2 : a = b
      · subst h2; simp
      · simp [h2]
    · simp [h]
theorem eqv_ints (a b : List Int) : PyData.eqv (.list (a.map .int)) (.list (b.map .int)) = decide (a = b) := eqvAll_ints a b
theorem lay_ints : ∀ a : List Int, PyData.canLayAll0 (a.map .int) = true
  | [] => rfl
  | x :: a => by
    show (true && PyData.canLayAll0 (a.map .int)) = true
    rw [lay_ints a]; rfl
theorem depth_ints : ∀ a : List Int, PyData.depthAll (a.map .int) = 0
  | [] => rfl
  | x :: a => by
    show max 0 (PyData.depthAll (a.map .int)) = 0
    rw [depth_ints a]; rfl
theorem shaped_ints (a : List Int) : SeqAt.shaped (.list (a.map .int)) = true := by
  show (PyData.canLayAll0 (a.map .int) && decide (PyData.depthAll (a.map .int) + 1 ≤ 64)) = true
  rw [lay_ints, depth_ints]; rfl
theorem nodict_ints' : ∀ a : List Int, PyData.hasDictAll (a.map .int) = false
  | [] => rfl
  | x :: a => by
    show (false || PyData.hasDictAll (a.map .int)) = false
    rw [nodict_ints' a]; rfl
theorem nodict_ints (a : List Int) : (PyData.list (a.map .int)).hasDict = false := nodict_ints' a
/-- an error leaves, with its value -/
def RaisesV (C : Addr) (v : V) (H : Hp) (E : XK) : Prop := ∀ dd H2, H dd = none → Ex H H2 → H2 dd = some (.xd [("value", v)]) → E (.ref C) (some dd) H2
def spInit (C : Addr) : Sp := fun vs H Q _ => ∃ (a : Addr) (v : V), vs = [.ref a, v] ∧ H a = some (exo a C none) ∧
  ∀ dx, H dx = none → dx ≠ a → Q .non (upd (upd H dx (exd dx [("value", v)])) a (exo a C (some dx)))
/-- a check: nothing, or the error with the argument -/
def spNeed (K : PySem.W.Frag) (C : Addr) (f : PyData → Bool) : Sp := fun vs H Q E => ∃ v d, vs = [v] ∧ Rp K H v d ∧
  (f d = true → RetV .non H Q) ∧ (f d = false → RaisesV C v H E)
theorem tMkO_of {C : Addr} {ta : TA} {σ : L2.St} {H : Hp} {v : V} {Q : XK} (ha : EvA ta σ H [v])
    (q : RaisesV C v H Q) : tMkO C (spInit C) [] ta σ H Q := by
  refine ha H (Ex.refl H) _ fun H1 e1 => ⟨by show 1 ≤ 1000; decide, fun a na => ⟨a, v, rfl, upd_same, fun dx hdx nd => ⟨rfl, dx, [("value", v)], upd_same, ?_, ?_, ?_⟩⟩⟩
  · rw [upd_ne nd, upd_same]
  · rw [upd_ne nd] at hdx
    exact hdx
  · rw [upd_ne nd] at hdx
    refine q dx _ (free_of e1 hdx) (fun x o hx => ?_) upd_same
    have h1 := e1 x o hx
    have xa : x ≠ a := ne_of_none h1 na
    have xd : x ≠ dx := ne_of_none h1 hdx
    rw [upd_ne xd, del_ne xa, upd_ne xa, upd_ne xd, upd_ne xa]
    exact h1
section
variable {P : Program} {w : World} {K : PySem.W.Frag} {mg : Str → Option Value} {base : Heap}
theorem ok_initO (T : Tx K mg) : FnOk P w K mg base CX0 1 T.ai_InvalidOrder T.fdi_InvalidOrder P_InvalidOrder_init (spInit T.a_InvalidOrder) := by
  refine fun_v T.Fi_InvalidOrder sc_InvalidOrder_init (fun vs H Q E h => ?_) (fun cdv A outer s H vs Q E hr h => ?_)
  · obtain ⟨a, v, rfl, _⟩ := h
    rfl
  · obtain ⟨a, v, rfl, hs, q⟩ := h
    refine ⟨_, (pss_one (ps_ost (pv 0) (pv 1))), ?_⟩
    exact ⟨v, rfl, .ref a, rfl, a, _, rfl, T.x_InvalidOrder, T.nv_InvalidOrder, .inl ⟨hs, fun dx h1 h2 => q dx h1 h2⟩⟩
theorem ok_initR (T : Tx K mg) : FnOk P w K mg base CX0 1 T.ai_InvalidNumber T.fdi_InvalidNumber P_InvalidNumber_init (spInit T.a_InvalidNumber) := by
  refine fun_v T.Fi_InvalidNumber sc_InvalidNumber_init (fun vs H Q E h => ?_) (fun cdv A outer s H vs Q E hr h => ?_)
  · obtain ⟨a, v, rfl, _⟩ := h
    rfl
  · obtain ⟨a, v, rfl, hs, q⟩ := h
    refine ⟨_, (pss_one (ps_ost (pv 0) (pv 1))), ?_⟩
    exact ⟨v, rfl, .ref a, rfl, a, _, rfl, T.x_InvalidNumber, T.nv_InvalidNumber, .inl ⟨hs, fun dx h1 h2 => q dx h1 h2⟩⟩
/-- a call that tells of one datum -/
theorem ev_tell {σ : L2.St} {H : Hp} {te : TE} {f : PyData → Bool} {d : PyData} {E : XK} (h : EvD K te σ H d) : Ev (tCall (spTell K f) [] E (tCons te tNil)) σ H (.bl (f d)) := by
  apply ev_ownD (eda_cons h eda_nil)
  rintro vs H1 e1 hv Q2 q2
  cases hv with
  | cons hv hn =>
    cases hn
    exact ⟨_, d, rfl, hv, q2⟩
theorem ok_order (T : Tx K mg) : FnOk P w K mg base CX0 4 T.a_is_order T.fd_is_order P_is_order (spTell K isOrder) := by
  have c_is_row := ok_row (P := P) (w := w) (base := base) T
  refine T.F_is_order.ok sc_is_order (fun vs H Q E h => ?_) (fun cdv A outer s H vs Q E hr h => ?_)
  · obtain ⟨v, d, rfl, _⟩ := h
    rfl
  · obtain ⟨v, d, rfl, hd, q⟩ := h
    refine ⟨_, (pss_one (ps_ret (pe_and (pe_call c_is_row (hr.mono (by decide)) (by rfl) T.g_is_row T.F_is_row.kp T.b_is_row .nil pass0 (pa_cons (pv 0) pa_nil)) (pe_one (pe_cmpR (k_eq (K := K) rfl hr.units) (pe_callB (k_sorted (K := K) rfl) (by rfl) T.m_sorted (by decide +kernel) (pa_cons (pv 0) pa_nil)) (pe_listRg rfl (by rfl) T.m_list (prg_1 (by rfl) T.m_range (pe_callB (k_len (K := K) rfl) (by rfl) T.m_len (by decide +kernel) (pa_cons (pv 0) pa_nil)))) (nomark _)))))), ?_⟩
    have e : isOrder d = (isRow d && (match d with | .list ds => decide (isort (intsD ds) = rangeI ds.length) | _ => true)) := by
      cases d <;> rfl
    cases d with
    | list ds =>
      apply s_ret (v := .bl (isRow (.list ds) && decide (isort (intsD ds) = rangeI ds.length)))
      · apply ev_andV
        · exact ev_tell (ed_var rfl hd)
        · intro hw
          obtain ⟨hi, hl⟩ := isRow_ints hw
          cases hd with
          | @lst a xs ds hx hs =>
            have hl2 := hs.length
            rw [hi] at hs
            have hv := rp_ints hs
            subst hv
            rw [List.length_map] at hl2
            apply ev_one
            have ev := ev_eqD (K := K) (σ := L2.start N_is_order [.ref a]) (H := H) (d := .list ((isort (intsD ds)).map .int)) (e := .list ((rangeI ds.length).map .int))
              (ed_new (EvL.ld (el_sort (ta := tVar 0) (ev_var rfl) hx) fun _ => rpInts _))
              (ed_new (EvL.ld (el_range (n := ds.length) (ta := tCB (rLenS K) (tCons (tVar 0) tNil)) (ev_is (ev_len (ev_var rfl) hx) (by rw [List.length_map, hl2])) (by omega)) fun _ => rpInts _))
              (nodict_ints _) (nodict_ints _) (shaped_ints _) (shaped_ints _)
            rw [eqv_ints] at ev
            exact ev
      · exact fun H2 e2 => q H2 e2
    | _ =>
      apply s_ret (v := .bl (false && true))
      · apply ev_andV
        · exact ev_tell (ed_var rfl hd)
        · intro h; cases h
      · exact fun H2 e2 => q H2 e2
theorem ok_need (T : Tx K mg) : FnOk P w K mg base (L2.CX P w) 5 T.a_need_order T.fd_need_order P_need_order (spNeed K T.a_InvalidOrder isOrder) := by
  have c_is_order := ok_order (P := P) (w := w) (base := base) T
  have c_InvalidOrder_init := ok_initO (P := P) (w := w) (base := base) T
  refine T.F_need_order.okX sc_need_order (fun vs H Q E h => ?_) (fun cdv A outer s H vs Q E hr h => ?_)
  · obtain ⟨v, d, rfl, _⟩ := h
    rfl
  · obtain ⟨v, d, rfl, hd, q, r⟩ := h
    refine ⟨_, (pss_one (ps_if (pt_not (pt_val (pe_call c_is_order (hr.mono (by decide)) (by rfl) T.g_is_order T.F_is_order.kp T.b_is_order .nil pass0 (pa_cons (pv 0) pa_nil)))) (pss_one (ps_raise rfl (takes_of rfl rfl rfl rfl) (pmk_oex T.x_InvalidOrder T.i_InvalidOrder T.t_InvalidOrder c_InvalidOrder_init (hr.mono (by decide)) T.bi_InvalidOrder .nil pass0 (by rfl) T.g_InvalidOrder (pa_cons (pv 0) pa_nil)))) pss_nil)), ?_⟩
    apply s_when (b := !isOrder d)
    · exact et_not (et_B (ev_tell (ed_var rfl hd)))
    · intro hb H1 e1
      have hb2 : isOrder d = false := by cases h : isOrder d with | true => rw [h] at hb; cases hb | false => rfl
      refine tMkO_of (v := v) (ea_cons (ev_var rfl) ea_nil) ?_
      intro dd H2 n e2 h2
      exact r hb2 dd H2 (free_of e1 n) (e1.trans e2) h2
    · intro hb H1 e1
      have hb2 : isOrder d = true := by cases h : isOrder d with | true => rfl | false => rw [h] at hb; cases hb
      exact q hb2 H1 e1
end
end K03



set_option Elab.async false
set_option linter.all false
set_option maxRecDepth 100000
set_option maxHeartbeats 4000000
namespace K03
open PySem PySem.Spec PyProof.Rows L2 Evl GS
local macro_rules | `(tactic| walk_at "bits") => `(tactic| first | (refine bits64 ?_; omega) | (apply bitsM; (focus walk_at "bits"); (focus walk_at "bits")))
local macro_rules | `(tactic| walk_at "side") => `(tactic| first
  | (apply CMulX.of; (focus walk_at "bits"); (focus walk_at "bits"); decide)
  | (dsimp only; omega) | assumption | decide)
local macro_rules | `(tactic| walk_at "rv") => `(tactic| first | exact rv_I0 | (apply rv_I; walk_at "side"))
local macro_rules | `(tactic| walk_at "ev") => `(tactic| first
  | exact ev_c
  | exact ev_var rfl
  | (apply ev_op; (focus walk_at "ev"); (focus walk_at "ev"); (focus walk_at "rv"))
  | (apply ev_int1; walk_at "ev")
  | (apply ev_max2; (focus walk_at "ev"); (focus walk_at "ev"))
  | (apply ev_bits; walk_at "ev"))

theorem isOrder_ints {d : PyData} (h : isOrder d = true) : ∃ ns : List Int, d = .list (ns.map .int) ∧ ns.length ≤ 200 ∧ isort ns = rangeI ns.length := by
  cases d with
  | list ds =>
    obtain ⟨h1, h2⟩ := Bool.and_eq_true_iff.mp h
    obtain ⟨h3, h4⟩ := isRow_ints h1
    refine ⟨intsD ds, by rw [← h3], ?_, ?_⟩
    · show (ds.map intD).length ≤ 200
      rw [List.length_map]; exact h4
    · have := of_decide_eq_true h2
      rw [this]
      show _ = rangeI (ds.map intD).length
      rw [List.length_map]
  | _ => cases h
theorem isLog_ints {d : PyData} (h : isLog d = true) : ∃ ns : List Int, d = .list (ns.map .int) ∧ ns.length ≤ 200 := by
  cases d with
  | list ds =>
    obtain ⟨h1, h2⟩ := Bool.and_eq_true_iff.mp h
    obtain ⟨h3, h4⟩ := isRow_ints h1
    refine ⟨intsD ds, by rw [← h3], ?_⟩
    show (ds.map intD).length ≤ 200
    rw [List.length_map]; exact h4
  | _ => cases h
/-- a function of an order (of a log): the error, or a new list -/
def spMade (K : PySem.W.Frag) (C : Addr) (f : PyData → Bool) (g : List Int → List Int) : Sp := fun vs H Q E => ∃ v d, vs = [v] ∧ Rp K H v d ∧
  (∀ ns : List Int, d = .list (ns.map .int) → f d = true → RetL ((g ns).map V.int) H Q) ∧ (f d = false → RaisesV C v H E)
theorem ps_nox {X : Cx} {st : Stmt} {t : TS} (h : PS X.nox st t) : PS X st t :=
  ⟨fun pins s σ H D I z => wpAny_mono (h.run pins s σ H D (I.wish _) z) (fun _ _ q => SP.unwish q) fun _ _ z => z.elim⟩
theorem q_do {σ : L2.St} {H : Hp} {te : TE} {D : Ends} {tz : TS} (k : te σ H fun _ H1 => tz D σ H1) : tSeq (tDrop te) tz D σ H := k
theorem not_true {b : Bool} (h : (!b) = true) : b = false := by cases b with | true => cases h | false => rfl
theorem not_false' {b : Bool} (h : (!b) = false) : b = true := by cases b with | true => rfl | false => cases h
end K03


set_option Elab.async false
set_option linter.all false
set_option maxRecDepth 100000
set_option maxHeartbeats 4000000
namespace K03
open PySem PySem.Spec PyProof.Rows L2 Evl GS
theorem snoc_ind {p : List Int → Prop} (h0 : p []) (hs : ∀ l x, p l → p (l ++ [x])) (l : List Int) : p l := by
  have key : ∀ n, p (l.take n) := by
    intro n
    induction n with
    | zero => exact h0
    | succ n ih =>
      rcases Nat.lt_or_ge n l.length with lt | ge
      · rw [take_snoc (List.getElem?_eq_getElem lt)]
        exact hs _ _ ih
      · rw [List.take_of_length_le (by omega)]
        rw [List.take_of_length_le ge] at ih
        exact ih
  have := key l.length
  rwa [List.take_length] at this
theorem lift_lt {x a b : Int} : lift x a < lift x b ↔ a < b := by
  unfold lift
  split <;> split <;> omega
theorem lift_lt_x {x a : Int} : lift x a < x ↔ a < x := by
  unfold lift
  split <;> omega
theorem logOf_snoc (f : List Int) (y : Int) : logOf (f ++ [y]) = logOf f ++ [((f.filter fun o => decide (o < y)).length : Int)] := by
  unfold logOf
  rw [List.length_append, List.length_singleton, List.range_succ, List.map_append]
  congr 1
  · apply List.map_congr_left
    intro i hi
    have hi2 := List.mem_range.mp hi
    rw [List.take_append_of_le_length (by omega)]
    have : (f ++ [y]).getD i 0 = f.getD i 0 := by
      rw [List.getD_eq_getElem?_getD, List.getD_eq_getElem?_getD, List.getElem?_append_left hi2]
    rw [this]
  · show [((((f ++ [y]).take f.length).filter fun o => decide (o < (f ++ [y]).getD f.length 0)).length : Int)] = [_]
    have e1 : (f ++ [y]).take f.length = f := by
      rw [List.take_append_of_le_length (Nat.le_refl _), List.take_length]
    have e2 : (f ++ [y]).getD f.length 0 = y := by
      rw [List.getD_eq_getElem?_getD, List.getElem?_append_right (Nat.le_refl _), Nat.sub_self]
      rfl
    rw [e1, e2]
theorem logOf_len (f : List Int) : (logOf f).length = f.length := by unfold logOf; rw [List.length_map, List.length_range]
theorem logOf_lift (x : Int) (f : List Int) : logOf (f.map (lift x)) = logOf f := by
  induction f using snoc_ind with
  | h0 => rfl
  | hs l y ih =>
    rw [List.map_append, List.map_singleton, logOf_snoc, logOf_snoc, ih]
    congr 3
    rw [List.filter_map, List.length_map]
    congr 1
    apply List.filter_congr
    intro o _
    show decide (lift x o < lift x y) = decide (o < y)
    exact decide_eq_decide.mpr lift_lt
theorem range_count (k : Nat) (x : Int) (h0 : 0 ≤ x) (h1 : x ≤ k) : (((rangeI k).filter fun o => decide (o < x)).length : Int) = x := by
  induction k with
  | zero =>
    show ((0 : Nat) : Int) = x
    omega
  | succ k ih =>
    rw [rangeI_succ, List.filter_append, List.length_append]
    by_cases h : x ≤ k
    · have e : ([(k : Int)].filter fun o => decide (o < x)) = [] := by
        rw [List.filter_cons, if_neg (by rw [decide_eq_true_eq]; omega)]
        rfl
      rw [e]
      have := ih h
      show ((_ + 0 : Nat) : Int) = x
      exact this
    · have ex : x = k + 1 := by omega
      have e : ([(k : Int)].filter fun o => decide (o < x)) = [(k : Int)] := by
        rw [List.filter_cons, if_pos (by rw [decide_eq_true_eq]; omega)]
        rfl
      have e2 : (rangeI k).filter (fun o => decide (o < x)) = rangeI k := by
        apply List.filter_eq_self.mpr
        intro o ho
        have := rangeI_mem.mp ho
        rw [decide_eq_true_eq]; omega
      rw [e, e2, rangeI_len]
      show ((k + 1 : Nat) : Int) = x
      omega
theorem lift_range (x : Int) (h0 : 0 ≤ x) : ∀ k : Nat, x ≤ k → ((rangeI k).map (lift x) ++ [x]).Perm (rangeI (k + 1)) := by
  intro k
  induction k with
  | zero =>
    intro h
    have : x = 0 := by omega
    subst this
    exact .refl _
  | succ k ih =>
    intro h
    by_cases hx : x ≤ k
    · rw [rangeI_succ k, List.map_append, List.map_singleton]
      have e : lift x (k : Int) = ((k + 1 : Nat) : Int) := by
        unfold lift
        rw [if_pos (by omega)]
        rfl
      rw [e, List.append_assoc, rangeI_succ (k + 1)]
      refine (List.Perm.append_left _ (List.Perm.swap _ _ [])).trans ?_
      have z := (ih hx).append_right [((k + 1 : Nat) : Int)]
      rw [List.append_assoc] at z
      exact z
    · have ex : x = ((k + 1 : Nat) : Int) := by omega
      rw [rangeI_succ (k + 1), ex]
      have e : (rangeI (k + 1)).map (lift ((k + 1 : Nat) : Int)) = rangeI (k + 1) := by
        have z : (rangeI (k + 1)).map (lift ((k + 1 : Nat) : Int)) = (rangeI (k + 1)).map id := by
          apply List.map_congr_left
          intro o ho
          have := rangeI_mem.mp ho
          show lift _ o = o
          unfold lift
          rw [if_neg (by omega)]
        rw [z, List.map_id]
      rw [e]
theorem IsLog.init {l : List Int} {x : Int} (h : IsLog (l ++ [x])) : IsLog l ∧ 0 ≤ x ∧ x ≤ l.length := by
  refine ⟨fun i k hk => h i k ?_, h l.length x ?_⟩
  · rw [List.getElem?_append_left (List.getElem?_eq_some_iff.mp hk).1]
    exact hk
  · rw [List.getElem?_append_right (Nat.le_refl _), Nat.sub_self]
    rfl
theorem ordOf_perm (ns : List Int) (h : IsLog ns) : (ordOf ns).Perm (rangeI ns.length) := by
  induction ns using snoc_ind with
  | h0 => exact .refl _
  | hs l x ih =>
    obtain ⟨h1, h2, h3⟩ := h.init
    rw [ordOf_snoc, List.length_append, List.length_singleton]
    exact (((ih h1).map (lift x)).append_right [x]).trans (lift_range x h2 _ h3)
theorem log_ord (ns : List Int) (h : IsLog ns) : logOf (ordOf ns) = ns := by
  induction ns using snoc_ind with
  | h0 => rfl
  | hs l x ih =>
    obtain ⟨h1, h2, h3⟩ := h.init
    rw [ordOf_snoc, logOf_snoc, logOf_lift, ih h1]
    congr 2
    rw [List.filter_map, List.length_map]
    have e : (ordOf l).filter ((fun o => decide (o < x)) ∘ lift x) = (ordOf l).filter (fun o => decide (o < x)) := by
      apply List.filter_congr
      intro o _
      exact decide_eq_decide.mpr lift_lt_x
    rw [e, ((ordOf_perm l h1).filter _).length_eq]
    exact range_count _ x h2 h3
/-! what the checks say of these -/
theorem isCount_ints : ∀ ns : List Int, (ns.map PyData.int).all isCount = decide (∀ x ∈ ns, 0 ≤ x)
  | [] => by simp
  | x :: ns => by
    rw [List.map_cons, List.all_cons, isCount_ints ns]
    show (decide (0 ≤ x) && decide (∀ y ∈ ns, 0 ≤ y)) = decide (∀ y ∈ x :: ns, 0 ≤ y)
    rw [← Bool.decide_and]
    apply decide_eq_decide.mpr
    simp
theorem isRow_of {ns : List Int} (hl : ns.length ≤ 200) (h : ∀ x ∈ ns, 0 ≤ x) : isRow (.list (ns.map .int)) = true := by
  show (decide ((ns.map PyData.int).length ≤ 200) && (ns.map PyData.int).all isCount) = true
  rw [isCount_ints, List.length_map, decide_eq_true hl, decide_eq_true h]
  rfl
theorem intsD_ints (ns : List Int) : intsD (ns.map PyData.int) = ns := by
  unfold intsD
  rw [List.map_map]
  have : (intD ∘ PyData.int) = id := rfl
  rw [this, List.map_id]
theorem isOrder_eq {ns : List Int} (hl : ns.length ≤ 200) (h : ∀ x ∈ ns, 0 ≤ x) : isOrder (.list (ns.map .int)) = decide (isort ns = rangeI ns.length) := by
  show (isRow (.list (ns.map .int)) && decide (isort (intsD (ns.map PyData.int)) = rangeI (ns.map PyData.int).length)) = _
  rw [isRow_of hl h, intsD_ints, List.length_map, Bool.true_and]
theorem isLog_eq {ns : List Int} (hl : ns.length ≤ 200) (h : ∀ x ∈ ns, 0 ≤ x) : isLog (.list (ns.map .int)) = decide (∀ i : Nat, i < ns.length → ns.getD i 0 ≤ i) := by
  show (isRow (.list (ns.map .int)) && (List.range (ns.map PyData.int).length).all fun i => decide (intD ((ns.map PyData.int).getD i .none) ≤ i)) = _
  rw [isRow_of hl h, Bool.true_and, List.length_map]
  have e : ∀ i : Nat, i < ns.length → intD ((ns.map PyData.int).getD i .none) = ns.getD i 0 := by
    intro i hi
    rw [List.getD_eq_getElem?_getD, List.getElem?_map, List.getD_eq_getElem?_getD, List.getElem?_eq_getElem hi]
    rfl
  rw [Bool.eq_iff_iff, List.all_eq_true, decide_eq_true_eq]
  constructor
  · intro z i hi
    have := of_decide_eq_true (z i (List.mem_range.mpr hi))
    rwa [e i hi] at this
  · intro z i hi
    have hi2 := List.mem_range.mp hi
    rw [decide_eq_true_eq, e i hi2]
    exact z i hi2
theorem log_nn {ns : List Int} (h : IsLog ns) : ∀ x ∈ ns, 0 ≤ x := by
  intro x hx
  obtain ⟨i, hi⟩ := List.getElem?_of_mem hx
  exact (h i x hi).1
theorem ord_nn {ns : List Int} (h : IsLog ns) : ∀ x ∈ ordOf ns, 0 ≤ x := by
  intro x hx
  have := rangeI_mem.mp ((ordOf_perm ns h).mem_iff.mp hx)
  omega
theorem log_yes {ns : List Int} (h : IsLog ns) (hl : ns.length ≤ 200) : isLog (.list (ns.map .int)) = true := by
  rw [isLog_eq hl (log_nn h), decide_eq_true_eq]
  intro i hi
  rw [List.getD_eq_getElem?_getD, List.getElem?_eq_getElem hi]
  exact (h i _ (List.getElem?_eq_getElem hi)).2
theorem ord_yes {ns : List Int} (h : IsLog ns) (hl : ns.length ≤ 200) : isOrder (.list ((ordOf ns).map .int)) = true := by
  have e := ordOf_len ns
  rw [isOrder_eq (by omega) (ord_nn h), decide_eq_true_eq, e]
  have p := ordOf_perm ns h
  rw [isort_of_perm p, isort_range]
end K03



set_option Elab.async false
set_option linter.all false
set_option maxRecDepth 100000
set_option maxHeartbeats 4000000
namespace K03
open PySem PySem.Spec PyProof.Rows L2 Evl GS
local macro_rules | `(tactic| walk_at "bits") => `(tactic| first | (refine bits64 ?_; omega) | (apply bitsM; (focus walk_at "bits"); (focus walk_at "bits")))
local macro_rules | `(tactic| walk_at "side") => `(tactic| first
  | (apply CMulX.of; (focus walk_at "bits"); (focus walk_at "bits"); decide)
  | (dsimp only; omega) | assumption | decide)
local macro_rules | `(tactic| walk_at "rv") => `(tactic| first | exact rv_I0 | (apply rv_I; walk_at "side"))
local macro_rules | `(tactic| walk_at "ev") => `(tactic| first
  | exact ev_c
  | exact ev_var rfl
  | (apply ev_op; (focus walk_at "ev"); (focus walk_at "ev"); (focus walk_at "rv"))
  | (apply ev_int1; walk_at "ev")
  | (apply ev_max2; (focus walk_at "ev"); (focus walk_at "ev"))
  | (apply ev_bits; walk_at "ev"))

open RK (num ordN fac)
theorem count_int {d : PyData} (h : isCount d = true) : ∃ k : Nat, d = .int k := by
  cases d with
  | int i =>
    have : 0 ≤ i := of_decide_eq_true h
    exact ⟨i.toNat, by rw [Int.toNat_of_nonneg this]⟩
  | _ => cases h
def lenNo (d : PyData) : Bool := !isCount d || decide (intD d > 200)
def numNo (d e : PyData) : Bool := !isCount e || decide (intD e ≥ (fac (intD d).toNat : Nat))
/-- the number of an order; the order of a number -/
def spNum (K : PySem.W.Frag) (C : Addr) : Sp := fun vs H Q E => ∃ v d, vs = [v] ∧ Rp K H v d ∧
  (∀ ns : List Int, d = .list (ns.map .int) → isOrder d = true → RetV (.int (num ns : Nat)) H Q) ∧ (isOrder d = false → RaisesV C v H E)
def spNumd (K : PySem.W.Frag) (C : Addr) : Sp := fun vs H Q E => ∃ v d u e, vs = [v, u] ∧ Rp K H v d ∧ Rp K H u e ∧
  (∀ n N : Nat, d = .int n → e = .int N → n ≤ 200 → N < fac n → RetL ((ordN n N).map V.int) H Q) ∧
  (lenNo d = true → RaisesV C v H E) ∧ (lenNo d = false → numNo d e = true → RaisesV C u H E)
theorem bits_step {f m j : Int} {i : Nat} (hf : Builtin.Int.intBits f ≤ 10 * i) (m0 : 0 ≤ m) (m1 : m ≤ 200) (j0 : 0 ≤ j) (j1 : j ≤ 200) : Builtin.Int.intBits (f * m + j) ≤ 10 * (i + 1) := by
  have b : Builtin.Int.intBits m ≤ 8 := PySem.intBits_le_iff.mpr (by omega)
  have c := PySem.intBits_mul_le hf b
  have e : Builtin.Int.intBits j ≤ 8 := PySem.intBits_le_iff.mpr (by omega)
  have g := PySem.intBits_add_le c e
  omega
theorem bits_fac {N n : Nat} (h : n ≤ 200) (hN : N ≤ fac n) : Builtin.Int.intBits (N : Int) ≤ 1300 := by
  have a := RK.fac_mono h
  have b := RK.fac_200
  refine PySem.intBits_le_iff.mpr ?_
  rw [Int.natAbs_natCast]
  exact Nat.lt_of_le_of_lt (Nat.le_trans hN a) b
section
variable {P : Program} {w : World} {K : PySem.W.Frag} {mg : Str → Option Value} {base : Heap}
theorem ok_num (T : Tx K mg) : FnOk P w K mg base (L2.CX P w) 6 T.a_order_number T.fd_order_number P_order_number (spNum K T.a_InvalidOrder) := by
  have c_need_order := ok_need (P := P) (w := w) (base := base) T
  refine T.F_order_number.okX sc_order_number (fun vs H Q E h => ?_) (fun cdv A outer s H vs Q E hr h => ?_)
  · obtain ⟨v, d, rfl, _⟩ := h
    rfl
  · obtain ⟨v, d, rfl, hd, q, r⟩ := h
    refine ⟨_, (pss_cons (ps_expr (pe_call c_need_order (hr.mono (by decide)) (by rfl) T.g_need_order T.F_need_order.kp T.b_need_order .nil (passes_call (takes_of rfl rfl rfl rfl) (fun _ _ _ _ h => h)) (pa_cons (pv 0) pa_nil)))
      (pss_cons (ps_set (i := 1) nd_order_number rfl (.inl rfl) (pe_callB (k_sorted (K := K) rfl) (by rfl) T.m_sorted (by decide +kernel) (pa_cons (pv 0) pa_nil)))
      (pss_cons (ps_set (i := 2) nd_order_number rfl (.inl rfl) pe_int)
      (pss_cons (ps_nox (ps_for PassesOwn.never rfl (k_pil (K := K) rfl (pv 0)) (pg_name (i := 3) nd_order_number rfl (.inl rfl)) (pss_cons (ps_set (i := 2) nd_order_number rfl (.inl rfl) (pe_op op_add (pe_op op_mulX (pv 2) (pe_callB (k_len (K := K) rfl) (by rfl) T.m_len (by decide +kernel) (pa_cons (pv 1) pa_nil))) (pe_bm PySem.F.plainAttrs_list PySem.F.slot_list_index PySem.F.type_list_index (k_index (K := K) rfl) (pv 1) (pa_cons (pv 3) pa_nil))))
      (pss_one (ps_expr (pe_bm PySem.F.plainAttrs_list PySem.F.slot_list_remove PySem.F.type_list_remove mt_remove (pv 1) (pa_cons (pv 3) pa_nil)))))))
      (pss_one (ps_ret (pv 2))))))), ?_⟩
    apply q_do
    refine ⟨v, rfl, v, d, rfl, hd, fun ht => ?_, fun hf => ?_⟩
    · intro H1 e1
      obtain ⟨ns, rfl, hl, hp⟩ := isOrder_ints ht
      have pm := perm_iff_isort.mpr hp
      cases hd with
      | @lst a xs ds hx hs =>
        have hv := rp_ints hs
        subst hv
        have hx1 := ex_l e1 hx
        apply q_asgL (xs := (rangeI ns.length).map V.int)
        · rw [← hp]
          exact el_sort (ev_var rfl) hx1
        intro l H2 nl e2 hl2
        apply q_asg
        · exact ev_c
        intro H3 e3
        apply q_forLn (ev_var rfl) (ex_l (e2.trans e3) hx1)
        rotate_left 4
        · exact fun i σ H4 => ∃ (f : Nat) (y : Option V) (left : List Int), σ = [some (.ref a), some (.ref l), some (.int f), y] ∧ Ex H H4 ∧ H4 l = some (.lst (left.map V.int)) ∧
            (ns.drop i).Perm left ∧ f * fac (ns.length - i) + RK.val (RK.rank left (ns.drop i)) = num ns ∧ Builtin.Int.intBits (f : Int) ≤ 10 * i
        · intro H4 e4
          refine ⟨0, _, rangeI ns.length, rfl, ((e1.trans e2).trans e3).trans e4, e4 _ _ (e3 _ _ hl2), pm, ?_, by decide⟩
          show 0 * _ + RK.val (RK.rank (rangeI ns.length) ns) = num ns
          rw [Nat.zero_mul, Nat.zero_add]
          rfl
        · rintro i σ H4 hi ⟨f, y, left, rfl, e4, hl4, pl, hv, hb⟩
          exact ex_l e4 hx
        · rintro i x σ H4 hi ⟨f, y, left, rfl, e4, hl4, pl, hv, hb⟩
          obtain ⟨k, hk, rfl⟩ := getI hi
          have lt := (List.getElem?_eq_some_iff.mp hk).1
          have dr : ns.drop i = k :: ns.drop (i + 1) := by
            rw [List.drop_eq_getElem_cons lt, (List.getElem?_eq_some_iff.mp hk).2]
          rw [dr] at pl hv
          have ll : left.length = ns.length - i := by
            have := pl.length_eq
            rw [List.length_cons, List.length_drop] at this
            omega
          have km : k ∈ left := pl.mem_iff.mp List.mem_cons_self
          have il := RK.idx_lt km
          apply q_asg (v := .int ((f * left.length + left.idxOf k : Nat) : Int))
          · refine ev_is (v := .int ((f : Int) * ((left.length : Nat) : Int) + ((left.idxOf k : Nat) : Int))) ?_ (by push_cast; rfl)
            apply ev_op
            · apply ev_op
              · exact ev_var rfl
              · exact ev_is (ev_len (ev_var rfl) (sq_of hl4)) (by rw [List.length_map])
              · apply rv_I
                exact CMulX.of hb (bits64 (by omega)) (by omega)
            · exact ev_index (ev_var rfl) (ev_var rfl) (sq_of hl4) (RK.idx_at km) RK.idx_first
            · exact rv_I0
          intro H5 e5
          refine s_remove (ev_var rfl) (ev_var rfl) (e5 _ _ hl4) (RK.idx_at km) RK.idx_first fun H6 e6 => ?_
          refine ⟨f * left.length + left.idxOf k, _, left.eraseIdx (left.idxOf k), rfl, ?_, upd_same, RK.step_perm pl, ?_, ?_⟩
          · exact (e4.trans (e5.trans e6)).mut (free_of (e1.trans (Ex.refl _)) (free_of (Ex.refl _) nl))
          · have z : f * fac (ns.length - i) + (left.idxOf k * fac (RK.rank (left.eraseIdx (left.idxOf k)) (ns.drop (i + 1))).length + RK.val (RK.rank (left.eraseIdx (left.idxOf k)) (ns.drop (i + 1)))) = num ns := hv
            rw [RK.rank_len, List.length_drop] at z
            have e : ns.length - i = (ns.length - (i + 1)) + 1 := by omega
            have fs : fac (ns.length - i) = fac (ns.length - (i + 1)) * (ns.length - i) := by
              rw [e]
              show fac _ * (ns.length - (i + 1) + 1) = _
              rfl
            rw [← z, fs, ll, Nat.add_mul, Nat.mul_assoc, Nat.mul_comm (ns.length - i) (fac _), Nat.add_assoc]
          · push_cast
            exact bits_step hb (by omega) (by omega) (by omega) (by omega)
        · rintro σ H4 ⟨f, y, left, rfl, e4, hl4, pl, hv, hb⟩
          rw [List.length_map] at hv pl
          rw [List.drop_length] at hv
          have z : f * fac (ns.length - ns.length) + 0 = num ns := hv
          rw [Nat.sub_self, Nat.add_zero] at z
          have z2 : f * 1 = num ns := z
          rw [Nat.mul_one] at z2
          apply s_ret
          · exact ev_var rfl
          intro H5 e5
          rw [z2]
          exact q ns rfl ht H5 (e4.trans e5)
    · exact r hf
end
end K03



set_option Elab.async false
set_option linter.all false
set_option maxRecDepth 100000
set_option maxHeartbeats 4000000
namespace K03
open PySem PySem.Spec PyProof.Rows L2 Evl GS
local macro_rules | `(tactic| walk_at "bits") => `(tactic| first | (refine bits64 ?_; omega) | (apply bitsM; (focus walk_at "bits"); (focus walk_at "bits")))
local macro_rules | `(tactic| walk_at "side") => `(tactic| first
  | (apply CMulX.of; (focus walk_at "bits"); (focus walk_at "bits"); decide)
  | (dsimp only; omega) | assumption | decide)
local macro_rules | `(tactic| walk_at "rv") => `(tactic| first | exact rv_I0 | (apply rv_I; walk_at "side"))
local macro_rules | `(tactic| walk_at "ev") => `(tactic| first
  | exact ev_c
  | exact ev_var rfl
  | (apply ev_op; (focus walk_at "ev"); (focus walk_at "ev"); (focus walk_at "rv"))
  | (apply ev_int1; walk_at "ev")
  | (apply ev_max2; (focus walk_at "ev"); (focus walk_at "ev"))
  | (apply ev_bits; walk_at "ev"))

open RK (num ordN fac)
theorem drop_at {α : Type} {l : List α} {i : Nat} {k : α} (h : l[i]? = some k) : l.drop i = k :: l.drop (i + 1) := by
  rw [List.drop_eq_getElem_cons (List.getElem?_eq_some_iff.mp h).1, (List.getElem?_eq_some_iff.mp h).2]
section
variable {P : Program} {w : World} {K : PySem.W.Frag} {mg : Str → Option Value} {base : Heap}
theorem ok_initN (T : Tx K mg) : FnOk P w K mg base CX0 1 T.ai_InvalidNumber T.fdi_InvalidNumber P_InvalidNumber_init (spInit T.a_InvalidNumber) := ok_initR T
theorem ok_numd (T : Tx K mg) : FnOk P w K mg base (L2.CX P w) 6 T.a_order_numbered T.fd_order_numbered P_order_numbered (spNumd K T.a_InvalidNumber) := by
  have c_is_count := ok_count (P := P) (w := w) (base := base) T
  have c_InvalidNumber_init := ok_initN (P := P) (w := w) (base := base) T
  refine T.F_order_numbered.okX sc_order_numbered (fun vs H Q E h => ?_) (fun cdv A outer s H vs Q E hr h => ?_)
  · obtain ⟨v, d, u, e, rfl, _⟩ := h
    rfl
  · obtain ⟨v, d, u, e, rfl, hd, hu, q, r1, r2⟩ := h
    refine ⟨_, (pss_cons (ps_if (PW.pt (pw_or (pt_not (pt_val (pe_call c_is_count (hr.mono (by decide)) (by rfl) T.g_is_count T.F_is_count.kp T.b_is_count .nil pass0 (pa_cons (pv 0) pa_nil)))) (pw_or1 (pt_cmpR op_gt (pv 0) (pe_const (by rfl) T.g_LONGEST) (nomark _))))) (pss_one (ps_raise rfl (takes_of rfl rfl rfl rfl) (pmk_oex T.x_InvalidNumber T.i_InvalidNumber T.t_InvalidNumber c_InvalidNumber_init (hr.mono (by decide)) T.bi_InvalidNumber .nil pass0 (by rfl) T.g_InvalidNumber (pa_cons (pv 0) pa_nil)))) pss_nil)
      (pss_cons (ps_if (PW.pt (pw_or (pt_not (pt_val (pe_call c_is_count (hr.mono (by decide)) (by rfl) T.g_is_count T.F_is_count.kp T.b_is_count .nil pass0 (pa_cons (pv 1) pa_nil)))) (pw_or1 (pt_cmpR op_ge (pv 1) (pe_callBfun c_fact (by rfl) T.g_factorial (pa_cons (pv 0) pa_nil)) (nomark _))))) (pss_one (ps_raise rfl (takes_of rfl rfl rfl rfl) (pmk_oex T.x_InvalidNumber T.i_InvalidNumber T.t_InvalidNumber c_InvalidNumber_init (hr.mono (by decide)) T.bi_InvalidNumber .nil pass0 (by rfl) T.g_InvalidNumber (pa_cons (pv 1) pa_nil)))) pss_nil)
      (pss_cons (ps_set (i := 2) nd_order_numbered rfl (.inl rfl) (pe_lst pa_nil))
      (pss_cons (ps_set (i := 3) nd_order_numbered rfl (.inl rfl) (pv 1))
      (pss_cons (ps_nox (ps_for PassesOwn.never rfl (pi_range2 (by rfl) T.m_range (pa_cons pe_int (pa_cons (pe_op op_add (pv 0) pe_int) pa_nil))) (pg_name (i := 4) nd_order_numbered rfl (.inl rfl)) (pss_cons (ps_asg (pe_callB c_divm (by rfl) T.m_divmod (by decide +kernel) (pa_cons (pv 3) (pa_cons (pv 4) pa_nil))) (k_gtup (K := K) (n := 2) rfl rfl (pgs_cons (pg_name (i := 3) nd_order_numbered rfl (.inl rfl)) (pgs_cons (pg_name (i := 5) nd_order_numbered rfl (.inl rfl)) pgs_nil))))
      (pss_one (ps_expr (pe_bm PySem.F.plainAttrs_list PySem.F.slot_list_append PySem.F.type_list_append mt_append (pv 2) (pa_cons (pv 5) pa_nil)))))))
      (pss_cons (ps_set (i := 6) nd_order_numbered rfl (.inl rfl) (pe_listRg rfl (by rfl) T.m_list (prg_1 (by rfl) T.m_range (pv 0))))
      (pss_cons (ps_set (i := 7) nd_order_numbered rfl (.inl rfl) (pe_lst pa_nil))
      (pss_cons (ps_nox (ps_for PassesOwn.never rfl (k_rev (K := K) rfl (by rfl) T.m_reversed (pa_cons (pv 2) pa_nil)) (pg_name (i := 5) nd_order_numbered rfl (.inl rfl)) (pss_one (ps_expr (pe_bm PySem.F.plainAttrs_list PySem.F.slot_list_append PySem.F.type_list_append mt_append (pv 7) (pa_cons (pe_bm PySem.F.plainAttrs_list PySem.F.slot_list_pop PySem.F.type_list_pop mt_popAt (pv 6) (pa_cons (pv 5) pa_nil)) pa_nil))))))
      (pss_one (ps_ret (pv 7))))))))))), ?_⟩
    apply q_when (b := lenNo d)
    · unfold lenNo
      apply et_or
      · exact et_not (et_B (ev_tell (ed_var rfl hd)))
      · intro hc
        obtain ⟨k, rfl⟩ := count_int (not_false' hc)
        cases hd
        apply et_test
        apply ev_op
        · exact ev_var rfl
        · exact ev_c
        · exact rv_I0
    · intro hb H1 e1
      refine tMkO_of (v := v) (ea_cons (ev_var rfl) ea_nil) ?_
      intro dd H2 n e2 h2
      exact r1 hb dd H2 (free_of e1 n) (e1.trans e2) h2
    intro hb H1 e1
    have hb2 := hb
    unfold lenNo at hb2
    obtain ⟨c1, c2⟩ := Bool.or_eq_false_iff.mp hb2
    obtain ⟨n, rfl⟩ := count_int (not_false' c1)
    cases hd
    have nl : n ≤ 200 := by
      have z := of_decide_eq_false c2
      have z2 : ¬ ((n : Int) > 200) := z
      omega
    apply q_when (b := numNo (.int n) e)
    · unfold numNo
      apply et_or
      · exact et_not (et_B (ev_tell (ed_var rfl (hu.to e1))))
      · intro hc
        obtain ⟨k, rfl⟩ := count_int (not_false' hc)
        cases hu
        apply et_test
        apply ev_op
        · exact ev_var rfl
        · exact ev_fact (ev_var rfl) (by omega)
        · rw [RK.fac_eq]
          exact rv_I0
    · intro hb3 H2 e2
      refine tMkO_of (v := u) (ea_cons (ev_var rfl) ea_nil) ?_
      intro dd H3 n e3 h3
      exact r2 hb hb3 dd H3 (free_of (e1.trans e2) n) ((e1.trans e2).trans e3) h3
    intro hb3 H2 e2
    have hb4 := hb3
    unfold numNo at hb4
    obtain ⟨c3, c4⟩ := Bool.or_eq_false_iff.mp hb4
    obtain ⟨N, rfl⟩ := count_int (not_false' c3)
    cases hu
    have Nl : N < fac n := by
      have z := of_decide_eq_false c4
      have z2 : ¬ ((N : Int) ≥ (fac ((n : Int)).toNat : Nat)) := z
      rw [Int.toNat_natCast] at z2
      omega
    have bN : ∀ k, Builtin.Int.intBits ((N / fac k : Nat) : Int) ≤ 1300 := fun k => bits_fac nl (Nat.le_trans (Nat.div_le_self _ _) (Nat.le_of_lt Nl))
    apply q_asgL (xs := [])
    · exact el_lst ea_nil (by decide)
    intro p H3 np e3 hp
    apply q_asg
    · exact ev_var rfl
    intro H4 e4
    apply q_forR2 (lo := 1) (n := (n : Int) + 1)
    · apply ea_cons ev_c
      apply ea_cons
      · apply ev_op
        · exact ev_var rfl
        · exact ev_c
        · exact rv_I0
      · exact ea_nil
    · omega
    rotate_left 3
    · exact fun i σ H5 => ∃ (y z : Option V), σ = [some (.int n), some (.int N), some (.ref p), some (.int ((N / fac i : Nat) : Int)), y, z, none, none] ∧ Ex H H5 ∧
        H5 p = some (.lst (((RK.dig i N).reverse.map fun k : Nat => (k : Int)).map V.int))
    · intro H5 e5
      refine ⟨none, none, ?_, (((e1.trans e2).trans e3).trans e4).trans e5, e5 _ _ (e4 _ _ hp)⟩
      show _ = [some (V.int n), some (V.int N), some (.ref p), some (V.int ((N / 1 : Nat) : Int)), none, none, none, none]
      rw [Nat.div_one]
      rfl
    · rintro i σ H5 hi ⟨y, z, rfl, e5, hp5⟩
      have e0 : (1 : Int) + (i : Int) = ((i + 1 : Nat) : Int) := by push_cast; omega
      rw [e0]
      apply q_divm (a := ((N / fac i : Nat) : Int)) (b := ((i + 1 : Nat) : Int))
      · exact ev_var rfl
      · exact ev_var rfl
      · exact divp_ok (by omega) (by have := bN i; omega)
      intro H6 e6
      have f1 : ((N / fac i : Nat) : Int) / ((i + 1 : Nat) : Int) = ((N / fac (i + 1) : Nat) : Int) := by
        rw [← Int.natCast_ediv, Nat.div_div_eq_div_mul]
        rfl
      have f2 : ((N / fac i : Nat) : Int) % ((i + 1 : Nat) : Int) = ((N / fac i % (i + 1) : Nat) : Int) := by
        rw [Int.natCast_emod]
      rw [f1, f2]
      apply s_app (e6 _ _ hp5)
      · exact ev_var rfl
      · exact ev_var rfl
      · rw [List.length_map, List.length_map, List.length_reverse, RK.dig_len]; omega
      intro H7 e7
      refine ⟨_, _, rfl, ?_, ?_⟩
      · exact (e5.trans (e6.trans e7)).mut (free_of (e1.trans e2) np)
      · rw [upd_same]
        show _ = some (HO.lst ((((N / fac i % (i + 1)) :: RK.dig i N).reverse.map fun k : Nat => (k : Int)).map V.int))
        rw [List.reverse_cons, List.map_append, List.map_append]
        rfl
    · rintro σ H5 ⟨y, z, rfl, e5, hp5⟩
      have et : ((n : Int) + 1 - 1).toNat = n := by omega
      rw [et] at hp5 ⊢
      have n0 : H p = none := free_of (e1.trans e2) np
      apply q_asgL (xs := (rangeI n).map V.int)
      · exact el_range (ev_var rfl) (by omega)
      intro l H6 nl6 e6 hl6
      apply q_asgL (xs := [])
      · exact el_lst ea_nil (by decide)
      intro f H7 nf e7 hf
      have pl : p ≠ l := ne_of_none hp5 nl6
      have pf : p ≠ f := ne_of_none (e6 _ _ hp5) nf
      have lf : l ≠ f := ne_of_none hl6 nf
      have nl0 : H l = none := free_of e5 nl6
      have nf0 : H f = none := free_of (e5.trans e6) nf
      apply q_forRev (a := p) (ea_cons (ev_var rfl) ea_nil) (sq_of (e7 _ _ (e6 _ _ hp5)))
      rotate_left 4
      · exact fun i σ H8 => ∃ (z : Option V) (left found : List Int), σ = [some (.int n), some (.int N), some (.ref p), some (.int ((N / fac n : Nat) : Int)), y, z, some (.ref l), some (.ref f)] ∧ Ex H H8 ∧
          H8 p = some (.lst (((RK.dig n N).reverse.map fun k : Nat => (k : Int)).map V.int)) ∧ H8 l = some (.lst (left.map V.int)) ∧ H8 f = some (.lst (found.map V.int)) ∧
          left.length = n - i ∧ found.length = i ∧ found ++ RK.pick left ((RK.dig n N).drop i) = ordN n N ∧ RK.Ok ((RK.dig n N).drop i)
      · intro H8 e8
        exact ⟨_, rangeI n, [], rfl, ((e5.trans e6).trans e7).trans e8, e8 _ _ (e7 _ _ (e6 _ _ hp5)), e8 _ _ (e7 _ _ hl6), e8 _ _ hf, rangeI_len n, rfl, rfl, RK.dig_ok n N⟩
      · rintro i σ H8 hi ⟨z, left, found, rfl, e8, hp8, _⟩
        exact sq_of hp8
      · rintro i x σ H8 hx ⟨z, left, found, rfl, e8, hp8, hl8, hf8, ll, fl, hv, ok⟩
        have hx2 : ((RK.dig n N).map fun k : Nat => V.int (k : Int))[i]? = some x := by
          rw [← hx, ← List.map_reverse, ← List.map_reverse, List.reverse_reverse, List.map_map]
          rfl
        rw [List.getElem?_map] at hx2
        obtain ⟨k, hk, rfl⟩ := Option.map_eq_some_iff.mp hx2
        have lt := (List.getElem?_eq_some_iff.mp hk).1
        rw [RK.dig_len] at lt
        rw [drop_at hk] at hv ok
        have kl : k < left.length := by
          have z := ok.1
          rw [List.length_drop, RK.dig_len] at z
          omega
        have hj : left[k]? = some (left.getD k 0) := by
          rw [List.getD_eq_getElem?_getD, List.getElem?_eq_getElem kl]; rfl
        apply s_appPop (l := f) (p := l) (j := k) (k := left.getD k 0) (ev_var rfl) (ev_var rfl) (ev_var rfl) (Ne.symm lf) hf8 hl8 hj (by omega) (by rw [List.length_map]; omega)
        intro H9 e9
        refine ⟨_, left.eraseIdx k, found ++ [left.getD k 0], rfl, ?_, ?_, ?_, ?_, ?_, ?_, ?_, ok.2⟩
        · exact ((e8.trans e9).mut nl0).mut nf0
        · rw [upd_ne pf, upd_ne pl]; exact e9 _ _ hp8
        · rw [upd_ne lf, upd_same]
        · rw [upd_same, List.map_append]; rfl
        · rw [List.length_eraseIdx_of_lt kl]; omega
        · rw [List.length_append, List.length_singleton]; omega
        · rw [List.append_assoc]
          exact hv
      · rintro σ H8 ⟨z, left, found, rfl, e8, hp8, hl8, hf8, ll, fl, hv, ok⟩
        rw [List.length_map, List.length_map, List.length_reverse, RK.dig_len] at fl hv
        rw [List.drop_of_length_le (by rw [RK.dig_len]; exact Nat.le_refl _)] at hv
        have hv2 : found ++ [] = ordN n N := hv
        rw [List.append_nil] at hv2
        apply s_ret
        · exact ev_var rfl
        intro H9 e9
        rw [hv2] at hf8
        exact q n N rfl rfl nl Nl f H9 nf0 (e8.trans e9) (e9 _ _ hf8)
end
end K03



set_option Elab.async false
set_option linter.all false
set_option maxRecDepth 100000
set_option maxHeartbeats 4000000
namespace K03
open PySem PySem.Spec PyProof.Rows L2 Evl GS
local macro_rules | `(tactic| walk_at "bits") => `(tactic| first | (refine bits64 ?_; omega) | (apply bitsM; (focus walk_at "bits"); (focus walk_at "bits")))
local macro_rules | `(tactic| walk_at "side") => `(tactic| first
  | (apply CMulX.of; (focus walk_at "bits"); (focus walk_at "bits"); decide)
  | (dsimp only; omega) | assumption | decide)
local macro_rules | `(tactic| walk_at "rv") => `(tactic| first | exact rv_I0 | (apply rv_I; walk_at "side"))
local macro_rules | `(tactic| walk_at "ev") => `(tactic| first
  | exact ev_c
  | exact ev_var rfl
  | (apply ev_op; (focus walk_at "ev"); (focus walk_at "ev"); (focus walk_at "rv"))
  | (apply ev_int1; walk_at "ev")
  | (apply ev_max2; (focus walk_at "ev"); (focus walk_at "ev"))
  | (apply ev_bits; walk_at "ev"))

section
variable {K : PySem.W.Frag} {σ : L2.St} {H : Hp} {ta tb te : TE} {D : Ends} {tz : TS}
theorem q_parLL {i j : Nat} {xs ys : List V} (ha : EvL ta σ H xs) (hb : EvL tb σ H ys)
    (k : ∀ p r H2, H p = none → H r = none → p ≠ r → Ex H H2 → H2 p = some (.lst xs) → H2 r = some (.lst ys) → tz D ((σ.set i (some (.ref p))).set j (some (.ref r))) H2) :
    tSeq (tPar i j (tCons ta (tCons tb tNil))) tz D σ H :=
  ha H (Ex.refl H) _ fun p H1 n1 e1 hp => hb H1 e1 _ fun r H2 n2 e2 hr => ⟨.ref p, .ref r, rfl,
    k p r H2 n1 (free_of e1 n2) (ne_of_none hp n2) (e1.trans e2) (e2 _ _ hp) hr⟩
theorem el_ownK0 {sp : Sp} {E : XK} {tk : TA} {vs xs : List V} (h : EvA tk σ H vs)
    (k : ∀ H1, Ex H H1 → ∀ Q : VK, (∀ p H2, H1 p = none → Ex H1 H2 → H2 p = some (.lst xs) → Q (.ref p) H2) → sp vs H1 Q E) :
    EvL (tCallK sp (fun vs zs => vs ++ zs) E tNil tk) σ H xs := fun H1 a Q q =>
  h H1 a _ fun H2 e2 => k H2 (a.trans e2) Q fun p H3 n e3 hp => q p H3 (fresh_back e2 n) (e2.trans e3) hp
theorem ev_ownK0 {sp : Sp} {E : XK} {tk : TA} {ds : List PyData} {v : V} (h : EvDA K tk σ H ds)
    (k : ∀ vs H1, Ex H H1 → RpAll K H1 vs ds → ∀ Q : VK, (∀ H2, Ex H1 H2 → Q v H2) → sp vs H1 Q E) :
    Ev (tCallK sp (fun vs zs => vs ++ zs) E tNil tk) σ H v := fun H1 a Q q =>
  h H1 a _ fun vs H2 e2 r => k vs H2 (a.trans e2) r Q fun H3 e3 => q H3 (e2.trans e3)
theorem ev_tellK {f : PyData → Bool} {d : PyData} {E : XK} (h : EvD K te σ H d) : Ev (tCallK (spTell K f) (fun vs zs => vs ++ zs) E tNil (tCons te tNil)) σ H (.bl (f d)) := by
  apply ev_ownK0 (eda_cons h eda_nil)
  rintro vs H1 e1 hv Q2 q2
  cases hv with
  | cons hv hn =>
    cases hn
    exact ⟨_, d, rfl, hv, q2⟩
theorem ed_ints {a : Addr} {ns : List Int} (h : Ev te σ H (.ref a)) (hs : SqL K H a (ns.map V.int)) : EvD K te σ H (.list (ns.map .int)) := ed_of h (.lst hs (rpInts ns))
theorem ed_newI {ns : List Int} (h : EvL te σ H (ns.map V.int)) : EvD K te σ H (.list (ns.map .int)) := ed_new (EvL.ld h fun _ => rpInts _)
theorem ev_neI {a b : List Int} (ha : EvD K ta σ H (.list (a.map .int))) (hb : EvD K tb σ H (.list (b.map .int))) : Ev (tOp (rNeD K) ta tb) σ H (.bl (!decide (a = b))) := by
  have z := ev_neD ha hb (nodict_ints a) (nodict_ints b) (shaped_ints a) (shaped_ints b)
  rwa [eqv_ints] at z
theorem ev_eqI {a b : List Int} (ha : EvD K ta σ H (.list (a.map .int))) (hb : EvD K tb σ H (.list (b.map .int))) : Ev (tOp (rEqD K) ta tb) σ H (.bl (decide (a = b))) := by
  have z := ev_eqD ha hb (nodict_ints a) (nodict_ints b) (shaped_ints a) (shaped_ints b)
  rwa [eqv_ints] at z
theorem ev_neSame {a : List Int} (ha : EvD K ta σ H (.list (a.map .int))) (hb : EvD K tb σ H (.list (a.map .int))) : Ev (tOp (rNeD K) ta tb) σ H (.bl false) :=
  ev_is (ev_neI ha hb) (by rw [decide_eq_true rfl]; rfl)
theorem ev_eqSame {a : List Int} (ha : EvD K ta σ H (.list (a.map .int))) (hb : EvD K tb σ H (.list (a.map .int))) : Ev (tOp (rEqD K) ta tb) σ H (.bl true) :=
  ev_is (ev_eqI ha hb) (by rw [decide_eq_true rfl])
theorem ev_neStr {s : Str} (ha : Ev ta σ H (.str s)) (hb : Ev tb σ H (.str s)) : Ev (tOp rNe ta tb) σ H (.bl false) := by
  have z := ev_op ha hb (rv_ne (H := H) (x := .str s) (y := .str s) rfl)
  exact ev_is z (by rw [decide_eq_true rfl]; rfl)
theorem el_made {C : Addr} {f : PyData → Bool} {g : List Int → List Int} {E : XK} {ns : List Int} (h : EvD K te σ H (.list (ns.map .int))) (ht : f (.list (ns.map .int)) = true) :
    EvL (tCall (spMade K C f g) [] E (tCons te tNil)) σ H ((g ns).map V.int) := fun H1 a Q q =>
  h H1 a _ fun v H2 e2 hv => ⟨v, _, rfl, hv, fun ms em hm => by
    have : ms = ns := by
      have z : ns.map PyData.int = ms.map PyData.int := PyData.list.inj em
      have z2 := congrArg intsD z
      rw [intsD_ints, intsD_ints] at z2
      exact z2.symm
    subst this
    exact fun p H3 n e3 hp => q p H3 (fresh_back e2 n) (e2.trans e3) hp, fun hf => by rw [ht] at hf; cases hf⟩
theorem el_madeK {C : Addr} {f : PyData → Bool} {g : List Int → List Int} {E : XK} {ns : List Int} (h : EvD K te σ H (.list (ns.map .int))) (ht : f (.list (ns.map .int)) = true) :
    EvL (tCallK (spMade K C f g) (fun vs zs => vs ++ zs) E tNil (tCons te tNil)) σ H ((g ns).map V.int) := el_made (E := E) h ht
theorem et_or4 {a b c d : TT} (h1 : EvT a σ H false) (h2 : EvT b σ H false) (h3 : EvT c σ H false) (h4 : EvT d σ H false) : EvT (tOr a (tOr b (tOr c d))) σ H false :=
  et_is (et_or h1 fun _ => et_or h2 fun _ => et_or h3 fun _ => h4) rfl
theorem et_or2 {a b : TT} (h1 : EvT a σ H false) (h2 : EvT b σ H false) : EvT (tOr a b) σ H false := et_is (et_or h1 fun _ => h2) rfl
theorem ev_and3 {a b c : TE} (h1 : Ev a σ H (.bl true)) (h2 : Ev b σ H (.bl true)) (h3 : Ev c σ H (.bl true)) : Ev (tAndV a (tAndV b c)) σ H (.bl true) :=
  ev_is (ev_andV h1 fun _ => ev_andV h2 fun _ => h3) rfl
theorem no_if {t : TT} {tu : TS} (h : EvT t σ H false) (k : ∀ H1, Ex H H1 → tz D σ H1) : tSeq (tIfS t tu tNext) tz D σ H :=
  q_when (b := false) h (fun z => by cases z) fun _ => k
end
section
variable {K : PySem.W.Frag} {σ : L2.St} {H : Hp} {ta tb te : TE} {D : Ends} {tz : TS}
theorem ev_neg {i : Int} (h : Ev ta σ H (.int i)) : Ev (tUn (rU fun i => .int (-i)) ta) σ H (.int (-i)) := fun H1 e Q q =>
  h H1 e _ fun H2 e2 => ⟨i, rfl, q H2 e2⟩
theorem ed_neg {i : Int} : EvD K (tUn (rU fun i => .int (-i)) (tC (.int i))) σ H (.int (-i)) := ed_int (ev_neg ev_c)
/-- a list that is there, and a new one behind it -/
theorem eld_catV {i : Nat} {p : Addr} {xs : List V} {ds es : List PyData} (h : σ[i]? = some (some (.ref p))) (hp : H p = some (.lst xs)) (r : RpAll K H xs ds)
    (hb : EvLD K tb σ H es) (hl : ds.length + es.length ≤ 100000) : EvLD K (tOp rCat (tVar i) tb) σ H (ds ++ es) := fun H1 e Q q =>
  ev_var h H1 e _ fun H2 e2 => hb H2 (e.trans e2) _ fun s ws H3 n3 e3 hs r2 =>
    ⟨p, s, xs, ws, rfl, rfl, ((e.trans e2).trans e3) _ _ hp, hs, sz_of (by rw [r.length, r2.length]; exact hl), fun u nu =>
      q u _ _ (fresh_back (e2.trans e3) nu) ((e2.trans e3).trans (Ex.new nu)) upd_same (((r.to ((e.trans e2).trans e3)).app r2).to (Ex.new nu))⟩
theorem s_retLD {ds : List PyData} (h : EvLD K te σ H ds) (k : ∀ p xs H1, H p = none → Ex H H1 → H1 p = some (.lst xs) → RpAll K H1 xs ds → D.rt (.ref p) H1) : tRet te D σ H := h H (Ex.refl H) _ k
theorem q_asgLD {i : Nat} {ds : List PyData} (h : EvLD K te σ H ds) (k : ∀ p xs H1, H p = none → Ex H H1 → H1 p = some (.lst xs) → RpAll K H1 xs ds → tz D (σ.set i (some (.ref p))) H1) :
    tSeq (tAsg te (gName i)) tz D σ H := h H (Ex.refl H) _ k
end
def z201 : PyData := .list ((rangeI 201).map .int)
def isEmp : PyData → Bool
  | .dict [] => true
  | _ => false
theorem isEmp_of {d : PyData} (h : isEmp d = true) : d = .dict [] := by
  cases d with
  | dict es =>
    cases es with
    | nil => rfl
    | cons _ _ => cases h
  | _ => cases h
/-- what is refused, and may be written -/
def okBad (f : PyData → Bool) (d : PyData) : Bool := (!f d) && ((!d.hasDict) || isEmp d) && d.showable && decide (d.depth ≤ 60) && decide (d.shown.length ≤ 5000) && PyData.canLay0 (.str d.shown)
structure OkBad (f : PyData → Bool) (d : PyData) : Prop where
  no : f d = false
  nd : d.hasDict = false ∨ d = .dict []
  sh : d.showable = true
  dp : d.depth ≤ 60
  ln : d.shown.length ≤ sizeLine
  st : PyData.canLay0 (.str d.shown) = true
theorem OkBad.of {f : PyData → Bool} {d : PyData} (h : okBad f d = true) : OkBad f d := by
  unfold okBad at h
  simp only [Bool.and_eq_true, decide_eq_true_eq, Bool.not_eq_true', Bool.or_eq_true] at h
  obtain ⟨⟨⟨⟨⟨h1, h2⟩, h3⟩, h4⟩, h5⟩, h6⟩ := h
  exact ⟨h1, h2.imp id isEmp_of, h3, h4, sz_of (by omega), h6⟩
/-- how long a list's text is, and of what -/
abbrev strOk (s : Str) : Bool := PyData.canLay0 (.str s)
def okT (m : Nat) (s : Str) : Prop := s.length ≤ m ∧ strOk s = true
theorem strOk_add {a b : Str} (h1 : strOk a = true) (h2 : strOk b = true) : strOk (a ++ b) = true := by
  show (a.cps ++ b.cps).all (· < 0x110000) = true
  rw [Array.all_append]
  exact Bool.and_eq_true_iff.mpr ⟨h1, h2⟩
theorem okT.add {m n : Nat} {a b : Str} (h1 : okT m a) (h2 : okT n b) : okT (m + n) (a ++ b) := by
  refine ⟨?_, strOk_add h1.2 h2.2⟩
  rw [strLen_append]
  have := h1.1
  have := h2.1
  omega
theorem okT.up {m n : Nat} {a : Str} (h : okT m a) (e : m ≤ n) : okT n a := ⟨Nat.le_trans h.1 e, h.2⟩
theorem okT.sep (k : Nat) : okT 2 (if k > 0 then ", " else "" : String) := by
  split <;> exact ⟨by decide, by decide +kernel⟩
theorem okT.from (m : Nat) : ∀ (ts : List Str) (k n : Nat) (acc : Str), (∀ t ∈ ts, okT m t) → okT n acc → okT (n + ts.length * (m + 2)) (textFrom k acc ts)
  | [], k, n, acc, _, h => h.up (by omega)
  | t :: ts, k, n, acc, ht, h => by
    have z := okT.from m ts (k + 1) _ _ (fun t hm => ht t (List.mem_cons_of_mem _ hm)) ((h.add (okT.sep k)).add (ht t List.mem_cons_self))
    refine z.up ?_
    rw [List.length_cons, Nat.add_mul]
    omega
theorem shownAll_map : ∀ ns : List Int, PyData.shownAll (ns.map .int) = ns.map fun i => PyData.shown (.int i)
  | [] => rfl
  | n :: ns => by
    show _ :: PyData.shownAll (ns.map .int) = _ :: ns.map _
    rw [shownAll_map ns]
theorem okT.ints {ns : List Int} (h : ∀ n ∈ ns, okT 3 (PyData.shown (.int n))) : okT (2 + ns.length * 5) (PyData.shown (.list (ns.map .int))) := by
  show okT _ (textFrom 0 "[" (PyData.shownAll (ns.map .int)) ++ "]")
  rw [shownAll_map]
  have z := okT.from 3 (ns.map fun i => PyData.shown (.int i)) 0 1 "[" (by
    intro t ht
    obtain ⟨n, hn, rfl⟩ := List.mem_map.mp ht
    exact h n hn) ⟨by decide, by decide +kernel⟩
  rw [List.length_map] at z
  exact (z.add (n := 1) (b := "]") ⟨by decide, by decide +kernel⟩).up (by omega)
theorem okT.small : ∀ n ∈ rangeI 201, okT 3 (PyData.shown (.int n)) := by
  have z : ((rangeI 201).all fun n => decide ((PyData.shown (.int n)).length ≤ 3) && strOk (PyData.shown (.int n))) = true := by decide +kernel
  intro n hn
  obtain ⟨h1, h2⟩ := Bool.and_eq_true_iff.mp (List.all_eq_true.mp z n hn)
  exact ⟨of_decide_eq_true h1, h2⟩
theorem ok_z201 : OkBad isOrder z201 := by
  have z := okT.ints okT.small
  exact ⟨by decide +kernel, .inl (by decide +kernel), by decide +kernel, by decide +kernel, sz_of (Nat.le_trans z.1 (by rw [rangeI_len]; decide)), z.2⟩
theorem eqv_tri (a b : Bool) (s : Str) : PyData.eqv (.list [.bool a, .bool b, .str s]) (.list [.bool a, .bool b, .str s]) = true := by
  show ((a == a) && ((b == b) && ((s == s) && true))) = true
  rw [beq_self_eq_true, beq_self_eq_true, beq_self_eq_true]; rfl
def triV (b : Bool) (s : Str) : List V := [.bl b, .bl (!b), .str s]
section
variable {K : PySem.W.Frag} {σ : L2.St} {H : Hp} {ta tb te tl : TE} {D : Ends} {tz tu : TS} {t : TT}
theorem ev_isHeld {a C C2 : Addr} {v : V} {b : Bool} (h : Ev ta σ H (.ref a)) (hh : Held H a C v) (hc : ErrC K C) (hk : PySem.W.kitOne K (.ref C) (.ref C2) = some b) :
    Ev (tCB (rIsAny K) (tCons ta (tCons (tC (.ref C2)) tNil))) σ H (.bl b) := fun H1 e Q q =>
  h H1 e _ fun H2 e2 => .inr ⟨a, C, v, .ref C2, _, b, rfl, hh.mono (e.trans e2), hc, .own C2, hk, q H2 e2⟩
theorem ev_held {a C : Addr} {v : V} (h : Ev ta σ H (.ref a)) (hh : Held H a C v) (hc : ErrC K C) : Ev (tHeldV K ta) σ H v := fun H1 e Q q =>
  h H1 e _ fun H2 e2 => ⟨a, C, v, rfl, hh.mono (e.trans e2), hc, q H2 e2⟩
theorem ev_isB {a b : Bool} (ha : Ev ta σ H (.bl a)) (hb : Ev tb σ H (.bl b)) : Ev (tOp rIsB ta tb) σ H (.bl (decide (a = b))) := fun H1 e Q q =>
  ha H1 e _ fun H2 e2 => hb H2 (e.trans e2) _ fun H3 e3 => ⟨a, b, rfl, rfl, q H3 (e2.trans e3)⟩
theorem ev_notB {a b : Bool} (ha : Ev ta σ H (.bl a)) (hb : Ev tb σ H (.bl b)) : Ev (tOp rNotB ta tb) σ H (.bl (!decide (a = b))) := fun H1 e Q q =>
  ha H1 e _ fun H2 e2 => hb H2 (e.trans e2) _ fun H3 e3 => ⟨a, b, rfl, rfl, q H3 (e2.trans e3)⟩
/-- over a new list of data -/
theorem q_forD {j : Nat} {ds : List PyData} (h : EvLD K tl σ H ds) (y0 : Option V) (hy : σ = σ.set j y0)
    (hs : ∀ (N : L2.St → Hp → Prop) H' x d, (∀ H2, Ex H' H2 → N (σ.set j (some x)) H2) → Ex H H' → d ∈ ds → Rp K H' x d → tu { D with nx := N, ct := N, bk := tz D } (σ.set j (some x)) H')
    (hd : ∀ y H', Ex H H' → tz D (σ.set j y) H') : tSeq (tFor (iList K tl) (gName j) tu) tz D σ H :=
  h H (Ex.refl H) _ fun p xs H1 n1 e1 hp r1 => ⟨p, rfl, ⟨xs, sq_of hp⟩,
    for_list (D := { D with nx := tz D }) (xs := xs) (fun _ σ' H' => (∃ y, σ' = σ.set j y) ∧ Ex H1 H') ⟨⟨y0, hy⟩, Ex.refl _⟩ (fun i σ' H' _ z => sq_of (z.2 _ _ hp))
      (fun i x σ' H' hi z => by
        obtain ⟨⟨y, rfl⟩, e2⟩ := z
        obtain ⟨d, hd2, hr⟩ := r1.get hi
        show tu _ ((σ.set j y).set j (some x)) H'
        rw [List.set_set]
        exact hs _ H' x d (fun H2 e3 => ⟨⟨some x, rfl⟩, e2.trans e3⟩) (e1.trans e2) (List.mem_of_getElem? hd2) (hr.to e2))
      (fun σ' H' z => by
        obtain ⟨⟨y, rfl⟩, e2⟩ := z
        exact hd y H' (e1.trans e2))⟩
/-- a list made of those of a new list of data that pass a test: none does -/
theorem el_lcD0 {ds : List PyData} {j : Nat} {vs : List Nat} (h : EvLD K tl σ H ds) (hz : ds.length ≤ 40000) (hw : ∀ x, wipe ((wipe σ vs).set j (some x)) vs = wipe σ vs)
    (ht : ∀ (x : V) d H1, Ex H H1 → d ∈ ds → Rp K H1 x d → EvT t ((wipe σ vs).set j (some x)) H1 false) : EvL (tLc (iList K tl) (gName j) t te vs) σ H [] := fun H0 e Q q =>
  h H0 e _ fun a xs H1 ha e1 hx hr => ⟨a, rfl, ⟨xs, sq_of hx⟩, fun Dl hD =>
    lc_list (xs := xs) (Cw H1 (fun _ => false) (fun _ => V.non) Dl) ⟨hD, Ex.new hD, upd_same⟩ (fun i H' _ p => sq_of (p.2.1 a _ hx))
      (fun i x H' hi p => ⟨hw x, cw_turn p (by have := (List.getElem?_eq_some_iff.mp hi).1; have := hr.length; omega) (by
        obtain ⟨d, hd, hr2⟩ := hr.get hi
        exact ht x d H1 (e.trans e1) (List.mem_of_getElem? hd) hr2) (fun hf => by cases hf)⟩)
      (fun H' p => q Dl H' (fresh_back e1 p.1) (e1.trans p.2.1) (by
        have z := p.2.2
        unfold given at z
        rw [List.filter_eq_nil_iff.mpr (fun _ _ => Bool.false_ne_true)] at z
        exact z))⟩
end
theorem rpTri {K : PySem.W.Frag} {H : Hp} {b : Bool} {s : Str} : RpAll K H (triV b s) [.bool b, .bool (!b), .str s] := .cons (.bl _) (.cons (.bl _) (.cons (.str _) .nil))
theorem shaped_tri (a b : Bool) {s : Str} (h : PyData.canLay0 (.str s) = true) : SeqAt.shaped (.list [.bool a, .bool b, .str s]) = true := by
  show ((true && (true && (PyData.canLay0 (.str s) && true))) && decide (max 0 (max 0 (max 0 0)) + 1 ≤ 64)) = true
  rw [h]
  rfl
theorem Ex.off {H H1 H2 : Hp} {g : Addr} (e : Ex H H1) (n : H g = none) (o : Off g H1 H2) : Ex H H2 := fun x u h => o x u (ne_of_none h n) (e x u h)
end K03



set_option Elab.async false
set_option linter.all false
set_option maxRecDepth 100000
set_option maxHeartbeats 4000000
namespace K03
open PySem PySem.Spec PyProof.Rows L2 Evl GS
local macro_rules | `(tactic| walk_at "bits") => `(tactic| first | (refine bits64 ?_; omega) | (apply bitsM; (focus walk_at "bits"); (focus walk_at "bits")))
local macro_rules | `(tactic| walk_at "side") => `(tactic| first
  | (apply CMulX.of; (focus walk_at "bits"); (focus walk_at "bits"); decide)
  | (dsimp only; omega) | assumption | decide)
local macro_rules | `(tactic| walk_at "rv") => `(tactic| first | exact rv_I0 | (apply rv_I; walk_at "side"))
local macro_rules | `(tactic| walk_at "ev") => `(tactic| first
  | exact ev_c
  | exact ev_var rfl
  | (apply ev_op; (focus walk_at "ev"); (focus walk_at "ev"); (focus walk_at "rv"))
  | (apply ev_int1; walk_at "ev")
  | (apply ev_max2; (focus walk_at "ev"); (focus walk_at "ev"))
  | (apply ev_bits; walk_at "ev"))

open RK (num ordN fac fnd allO)
theorem el_is {te : TE} {σ : L2.St} {H : Hp} {xs ys : List V} (h : EvL te σ H xs) (e : xs = ys) : EvL te σ H ys := e ▸ h
/-! an object that changes, the others as they are -/
def hid (H : Hp) (m : Addr) : Hp := fun a => if a = m then none else H a
theorem hid_ne {H : Hp} {m a : Addr} (h : a ≠ m) : hid H m a = H a := if_neg h
theorem hid_same {H : Hp} {m : Addr} : hid H m m = none := if_pos rfl
theorem hid_ex {H : Hp} {m : Addr} : Ex (hid H m) H := fun a o h => by
  by_cases e : a = m
  · subst e
    rw [hid_same] at h
    cases h
  · rwa [hid_ne e] at h
theorem hid_mono {H H2 : Hp} {m : Addr} (e : Ex H H2) : Ex (hid H m) (hid H2 m) := fun a o h => by
  by_cases q : a = m
  · subst q
    rw [hid_same] at h
    cases h
  · rw [hid_ne q] at h ⊢
    exact e a o h
theorem hid_upd {H : Hp} {m : Addr} {o : HO} : Ex (hid H m) (hid (upd H m o) m) := fun a u h => by
  by_cases q : a = m
  · subst q
    rw [hid_same] at h
    cases h
  · rw [hid_ne q] at h ⊢
    rw [upd_ne q]
    exact h
abbrev enc (b : List Int) : PyData := .list (b.map .int)
/-- a list of data that grows by a new list of numbers -/
theorem grow {K : PySem.W.Frag} {H H1 : Hp} {m p : Addr} {acc : List V} {ds : List PyData} {ns : List Int} {o : HO} (e : Ex H H1) (pm : p ≠ m) (hp : H1 p = some (.lst (ns.map V.int))) (r : RpAll K (hid H m) acc ds) :
    RpAll K (hid (upd H1 m o) m) (acc ++ [.ref p]) (ds ++ [enc ns]) := by
  refine (r.to ((hid_mono e).trans hid_upd)).app (.cons (.lst (sq_of ?_) (rpInts ns)) .nil)
  rw [hid_ne pm, upd_ne pm]
  exact hp
def ext (k : Nat) (o : List Int) : List (List Int) := (rangeI (k + 1)).map fun x => x :: o.map (RK.up x)
theorem ext_len (k : Nat) (o : List Int) : (ext k o).length = k + 1 := by
  unfold ext
  rw [List.length_map, rangeI_len]
theorem fnd_succ (k : Nat) : fnd (k + 1) = (fnd k).flatMap (ext k) := rfl
theorem fnd_len : ∀ k, k < 6 → (fnd k).length ≤ 120 := by
  have z : ∀ k : Fin 6, (fnd k).length ≤ 120 := by decide +kernel
  exact fun k h => z ⟨k, h⟩
theorem fnd_item : ∀ k, k < 6 → ∀ o ∈ fnd k, o.length ≤ 5 := by
  have z : ∀ k : Fin 6, ∀ o ∈ fnd k, o.length ≤ 5 := by decide +kernel
  exact fun k h => z ⟨k, h⟩
theorem flat_snoc {α β : Type} {l : List α} {i : Nat} {k : α} (f : α → List β) (h : l[i]? = some k) : (l.take (i + 1)).flatMap f = (l.take i).flatMap f ++ f k := by
  have e : l.take (i + 1) = l.take i ++ [k] := by
    rw [List.take_add_one, h]; rfl
  rw [e, List.flatMap_append, List.flatMap_singleton]
theorem flat_len {l : List (List Int)} {k : Nat} : (l.flatMap (ext k)).length = l.length * (k + 1) := by
  induction l with
  | nil => simp
  | cons x l ih =>
    rw [List.flatMap_cons, List.length_append, ext_len, ih, List.length_cons, Nat.add_mul]
    omega
def spAll (K : PySem.W.Frag) : Sp := fun vs H Q _ => ∃ n : Nat, vs = [.int n] ∧ n < 6 ∧ ∀ p xs H2, H p = none → Ex H H2 → H2 p = some (.lst xs) → RpAll K H2 xs ((allO n).map enc) → Q (.ref p) H2
def spCount : Sp := fun vs H Q _ => ∃ n : Nat, vs = [.int n] ∧ n ≤ 200 ∧ RetV (.int (fac n : Nat)) H Q
section
variable {P : Program} {w : World} {K : PySem.W.Frag} {mg : Str → Option Value} {base : Heap}
theorem ok_fac (T : Tx K mg) : FnOk P w K mg base CX0 1 T.a_l_count T.fd_l_count P_l_count spCount := by
  refine T.F_l_count.ok sc_l_count (fun vs H Q E h => ?_) (fun cdv A outer s H vs Q E hr h => ?_)
  · obtain ⟨n, rfl, _⟩ := h
    rfl
  · obtain ⟨n, rfl, hn, q⟩ := h
    refine ⟨_, (pss_cons (ps_set (i := 1) nd_l_count rfl (.inl rfl) pe_int)
      (pss_cons (ps_for PassesOwn.never rfl (pi_range2 (by rfl) T.m_range (pa_cons pe_int (pa_cons (pe_op op_add (pv 0) pe_int) pa_nil))) (pg_name (i := 2) nd_l_count rfl (.inl rfl)) (pss_one (ps_set (i := 1) nd_l_count rfl (.inl rfl) (pe_op op_mulX (pv 1) (pv 2)))))
      (pss_one (ps_ret (pv 1))))), ?_⟩
    apply q_asg
    · exact ev_c
    intro H1 e1
    apply q_forR2 (lo := 1) (n := (n : Int) + 1)
    · apply ea_cons ev_c
      apply ea_cons
      · apply ev_op
        · exact ev_var rfl
        · exact ev_c
        · exact rv_I0
      · exact ea_nil
    · omega
    rotate_left 3
    · exact fun i σ H2 => ∃ y : Option V, σ = [some (.int n), some (.int (fac i : Nat)), y] ∧ Ex H H2
    · intro H2 e2
      exact ⟨none, rfl, e1.trans e2⟩
    · rintro i σ H2 hi ⟨y, rfl, e2⟩
      have e0 : (1 : Int) + (i : Int) = ((i + 1 : Nat) : Int) := by push_cast; omega
      rw [e0]
      apply s_asg (v := .int ((fac (i + 1) : Nat) : Int))
      · refine ev_is (v := .int ((fac i : Nat) * ((i + 1 : Nat) : Int))) ?_ ?_
        · apply ev_op
          · exact ev_var rfl
          · exact ev_var rfl
          · apply rv_I
            exact CMulX.of (bits_fac (n := i) (by omega) (Nat.le_refl _)) (bits64 (by omega)) (by decide)
        · show V.int _ = V.int ((fac i * (i + 1) : Nat) : Int)
          rw [Int.natCast_mul]
      intro H3 e3
      exact ⟨_, rfl, e2.trans e3⟩
    · rintro σ H2 ⟨y, rfl, e2⟩
      have et : ((n : Int) + 1 - 1).toNat = n := by omega
      rw [et]
      apply s_ret
      · exact ev_var rfl
      intro H3 e3
      exact q H3 (e2.trans e3)
theorem ok_all (T : Tx K mg) : FnOk P w K mg base CX0 1 T.a_l_all T.fd_l_all P_l_all (spAll K) := by
  refine T.F_l_all.ok sc_l_all (fun vs H Q E h => ?_) (fun cdv A outer s H vs Q E hr h => ?_)
  · obtain ⟨n, rfl, _⟩ := h
    rfl
  · obtain ⟨n, rfl, hn, q⟩ := h
    refine ⟨_, (pss_cons (ps_set (i := 1) nd_l_all rfl (.inl rfl) (pe_lst (pa_cons (pe_lst pa_nil) pa_nil)))
      (pss_cons (ps_for PassesOwn.never rfl (pi_range1 (by rfl) T.m_range (pa_cons (pv 0) pa_nil)) (pg_name (i := 2) nd_l_all rfl (.inl rfl)) (pss_cons (ps_set (i := 3) nd_l_all rfl (.inl rfl) (pe_lst pa_nil))
      (pss_cons (ps_for PassesOwn.never rfl (k_pil (K := K) rfl (pv 1)) (pg_name (i := 4) nd_l_all rfl (.inl rfl)) (pss_one (ps_for PassesOwn.never rfl (pi_range1 (by rfl) T.m_range (pa_cons (pe_op op_add (pv 2) pe_int) pa_nil)) (pg_name (i := 5) nd_l_all rfl (.inr rfl)) (pss_one (ps_expr (pe_bm PySem.F.plainAttrs_list PySem.F.slot_list_append PySem.F.type_list_append mt_append (pv 3) (pa_cons (pe_op op_cat (pe_lst (pa_cons (pv 5) pa_nil)) (pe_lc (own := [("_law_other", 6)]) rfl nd_l_all (k_pil (K := K) rfl (pv 4)) (blkOk_by (N := N_l_all) (sc := (defScope s_l_all)) (by decide +kernel)) (fun _ _ _ _ _ => pg_name (i := 6) nd_l_all rfl (.inl rfl)) (fun _ _ _ _ _ => pts_nil) (fun _ _ _ _ _ => (pe_op op_add (pv 6) (pe_callTy c_intB (by rfl) T.m_int (by decide +kernel) (pa_cons (pe_cmpR op_ge (pv 6) (pv 5) (nomark _)) pa_nil)))))) pa_nil)))))))
      (pss_one (ps_set (i := 1) nd_l_all rfl (.inl rfl) (pv 3))))))
      (pss_one (ps_ret (pe_callB (k_sortedL (K := K) rfl hr.units) (by rfl) T.m_sorted (by decide +kernel) (pa_cons (pv 1) pa_nil)))))), ?_⟩
    apply q_asgLD (K := K) (ds := (fnd 0).map enc)
    · refine eld_lst (eda_cons (ed_newI (ns := []) (el_lst ea_nil (by decide))) eda_nil) (by decide)
    intro p0 xs0 H1 np0 e1 hp0 r0
    apply q_forR1 (n := n)
    · exact ea_cons (ev_var rfl) ea_nil
    · omega
    rotate_left 3
    · exact fun i σ H2 => ∃ (f : Addr) (xs : List V) (y1 y2 y3 y4 y5 : Option V), σ = [some (.int n), some (.ref f), y1, y2, y3, y4, y5] ∧ H f = none ∧ Ex H H2 ∧ H2 f = some (.lst xs) ∧ RpAll K H2 xs ((fnd i).map enc)
    · intro H2 e2
      exact ⟨p0, xs0, none, none, none, none, none, rfl, np0, e1.trans e2, e2 _ _ hp0, r0.to e2⟩
    · rintro i σ H2 hi ⟨f, xs, y1, y2, y3, y4, y5, rfl, nf, e2, hf, rf⟩
      apply q_asgL (xs := [])
      · exact el_lst ea_nil (by decide)
      intro m H3 nm e3 hm
      have fm : f ≠ m := ne_of_none hf nm
      have nm0 : H m = none := free_of e2 nm
      have nm2 : H2 m = none := nm
      have hxl : xs.length = (fnd i).length := by
        have := rf.length
        rwa [List.length_map] at this
      have fl := fnd_len i (by omega)
      apply q_forLn (xs := xs) (ev_var rfl) (sq_of (e3 _ _ hf))
      rotate_left 4
      · exact fun j σ H4 => ∃ (acc : List V) (y3 y4 y5 : Option V), σ = [some (.int n), some (.ref f), some (.int i), some (.ref m), y3, y4, y5] ∧ Ex H2 H4 ∧ H4 m = some (.lst acc) ∧ RpAll K (hid H4 m) acc ((((fnd i).take j).flatMap (ext i)).map enc)
      · intro H4 e4
        exact ⟨[], _, _, _, rfl, e3.trans e4, e4 _ _ hm, .nil⟩
      · rintro j σ H4 hj ⟨acc, y3, y4, y5, rfl, e4, hm4, ra⟩
        exact sq_of (e4 _ _ hf)
      · rintro j x σ H4 hx ⟨acc, y3, y4, y5, rfl, e4, hm4, ra⟩
        obtain ⟨d, hd, hr⟩ := rf.get hx
        rw [List.getElem?_map] at hd
        obtain ⟨o, ho, rfl⟩ := Option.map_eq_some_iff.mp hd
        have ol := fnd_item i (by omega) o (List.mem_of_getElem? ho)
        have jl := (List.getElem?_eq_some_iff.mp ho).1
        have tl : (((fnd i).take j).flatMap (ext i)).length ≤ 720 := by
          rw [flat_len, List.length_take]
          have : min j (fnd i).length * (i + 1) ≤ 120 * 6 := Nat.mul_le_mul (by omega) (by omega)
          omega
        cases hr with
        | @lst b us ds hb hs =>
          have hv := rp_ints hs
          subst hv
          apply s_forR1 (n := (i : Int) + 1)
          · apply ea_cons
            · apply ev_op
              · exact ev_var rfl
              · exact ev_c
              · exact rv_I0
            · exact ea_nil
          · omega
          rotate_left 3
          · exact fun k σ H5 => ∃ (acc : List V) (y4 y5 : Option V), σ = [some (.int n), some (.ref f), some (.int i), some (.ref m), some (.ref b), y4, y5] ∧ Ex H2 H5 ∧ H5 m = some (.lst acc) ∧
              RpAll K (hid H5 m) acc ((((fnd i).take j).flatMap (ext i) ++ (ext i o).take k).map enc)
          · intro H5 e5
            refine ⟨acc, _, _, rfl, e4.trans e5, e5 _ _ hm4, ?_⟩
            rw [List.take_zero, List.append_nil]
            exact ra.to (hid_mono e5)
          · rintro k σ H5 hk ⟨acc, y4, y5, rfl, e5, hm5, ra⟩
            have hg : (ext i o)[k]? = some ((k : Int) :: o.map (RK.up k)) := by
              unfold ext
              rw [List.getElem?_map, rangeI_get (by omega)]
              rfl
            have hacc : acc.length ≤ 730 := by
              have z := ra.length
              rw [List.length_map, List.length_append, List.length_take, ext_len] at z
              omega
            apply s_appL (ys := ((k : Int) :: o.map (RK.up k)).map V.int) hm5 (ev_var rfl)
            · have hr : given (o.map V.int).length (fun _ => true) (fun j => .int (RK.up k (o.getD j 0))) = (o.map (RK.up k)).map V.int := by
                rw [given_all, List.length_map, range_getD o 0 (fun z => V.int (RK.up k z)), List.map_map]
                rfl
              refine el_is (xs := [V.int k] ++ (o.map (RK.up k)).map V.int) ?_ rfl
              apply el_cat
              · exact el_lst (ea_cons (ev_var rfl) ea_nil) (by show 1 ≤ 100000; decide)
              · rw [← hr]
                apply el_lcL (xs := o.map V.int) (a := b)
                · exact ev_var rfl
                · exact ex_l e5 hb
                · rw [List.length_map]; omega
                · intro x; rfl
                · intro j2 x H6 e6 hj
                  exact fun H7 e7 Q7 q7 => q7 H7 (Ex.refl _)
                · intro j2 x H6 e6 hj _
                  obtain ⟨c, hc, rfl⟩ := getI hj
                  rw [getD_of hc]
                  refine ev_is (v := .int (c + (if decide ((k : Int) ≤ c) then 1 else 0))) ?_ ?_
                  · apply ev_op
                    · exact ev_var rfl
                    · apply ev_intB
                      apply ev_op
                      · exact ev_var rfl
                      · exact ev_var rfl
                      · exact rv_I0
                    · exact rv_I0
                  · unfold RK.up
                    by_cases hkc : (k : Int) ≤ c
                    · rw [decide_eq_true hkc, if_pos rfl, if_pos hkc]
                    · rw [decide_eq_false hkc, if_neg (by decide), if_neg hkc]
              · rw [List.length_singleton, List.length_map, List.length_map]; omega
            · omega
            intro p H6 np e6 hp
            have pm : p ≠ m := by
              rintro rfl
              rw [np] at hm5
              cases hm5
            refine ⟨acc ++ [.ref p], _, _, rfl, (e5.trans e6).mut nm2, upd_same, ?_⟩
            have tk : (ext i o).take (k + 1) = (ext i o).take k ++ [(k : Int) :: o.map (RK.up k)] := by
              rw [List.take_add_one, hg]; rfl
            rw [tk, ← List.append_assoc, List.map_append]
            exact grow e6 pm hp ra
          · rintro σ H5 ⟨acc, y4, y5, rfl, e5, hm5, ra⟩
            refine ⟨acc, _, _, _, rfl, e5, hm5, ?_⟩
            have ek : ((i : Int) + 1).toNat = i + 1 := by omega
            rw [ek, List.take_of_length_le (l := ext i o) (by rw [ext_len]; exact Nat.le_refl _)] at ra
            rw [flat_snoc (ext i) ho]
            exact ra
      · rintro σ H4 ⟨acc, y3, y4, y5, rfl, e4, hm4, ra⟩
        rw [hxl, List.take_length] at ra
        apply s_asg (ev_var rfl)
        intro H5 e5
        exact ⟨m, acc, _, _, _, _, _, rfl, nm0, (e2.trans e4).trans e5, e5 _ _ hm4, (ra.to hid_ex).to e5⟩
    · rintro σ H2 ⟨f, xs, y1, y2, y3, y4, y5, rfl, nf, e2, hf, rf⟩
      rw [Int.toNat_natCast] at rf
      apply s_retLD (K := K) (ds := (allO n).map enc)
      · rw [← RK.sort_fnd hn]
        exact eld_sortL (ev_var rfl) (sq_of hf) rf
      intro p ys H3 np e3 hp hr
      exact q p ys H3 (free_of e2 np) (e2.trans e3) hp hr
end
end K03



set_option Elab.async false
set_option linter.all false
set_option maxRecDepth 100000
set_option maxHeartbeats 4000000
namespace K03
open PySem PySem.Spec PyProof.Rows L2 Evl GS
local macro_rules | `(tactic| walk_at "bits") => `(tactic| first | (refine bits64 ?_; omega) | (apply bitsM; (focus walk_at "bits"); (focus walk_at "bits")))
local macro_rules | `(tactic| walk_at "side") => `(tactic| first
  | (apply CMulX.of; (focus walk_at "bits"); (focus walk_at "bits"); decide)
  | (dsimp only; omega) | assumption | decide)
local macro_rules | `(tactic| walk_at "rv") => `(tactic| first | exact rv_I0 | (apply rv_I; walk_at "side"))
local macro_rules | `(tactic| walk_at "ev") => `(tactic| first
  | exact ev_c
  | exact ev_var rfl
  | (apply ev_op; (focus walk_at "ev"); (focus walk_at "ev"); (focus walk_at "rv"))
  | (apply ev_int1; walk_at "ev")
  | (apply ev_max2; (focus walk_at "ev"); (focus walk_at "ev"))
  | (apply ev_bits; walk_at "ev"))

open RK (num ordN fac fnd allO)
def spRight : Sp := fun vs H Q _ => ∃ (g : Addr) (m : Int) (n : Nat), vs = [.ref g, .int n] ∧ Gn H g m ∧ n ≤ 200 ∧ m + 11 * (n + 2) < 2 ^ 59 ∧
  ∀ H2, Off g H H2 → Gn H2 g (m + 11 * (n + 2)) → Q (.bl true) H2
theorem gn_ne {H : Hp} {g D : Addr} {m : Int} (h : Gn H g m) (n : H D = none) : D ≠ g := by
  obtain ⟨a, b, c, h1, _⟩ := h
  rintro rfl
  rw [n] at h1
  cases h1
def swp {α : Type} : List α → List α
  | [a, b] => [b, a]
  | l => l
theorem vals_swp : ∀ {zs : List V} {ws : List Value}, Vals zs ws → Vals (swp zs) (swp ws)
  | _, _, .nil => .nil
  | _, _, .cons a .nil => .cons a .nil
  | _, _, .cons a (.cons b .nil) => .cons b (.cons a .nil)
  | _, _, .cons a (.cons b (.cons c r)) => .cons a (.cons b (.cons c r))
theorem len_no {n : Nat} (h : n ≤ 200) : lenNo (.int n) = false := by
  have c1 : isCount (.int (n : Int)) = true := decide_eq_true (Int.natCast_nonneg n)
  have c2 : decide (intD (.int (n : Int)) > 200) = false := by
    apply decide_eq_false
    show ¬ ((n : Int) > 200)
    omega
  unfold lenNo
  rw [c1, c2]
  rfl
theorem num_no {n N : Nat} (h : N < fac n) : numNo (.int n) (.int N) = false := by
  have c1 : isCount (.int (N : Int)) = true := decide_eq_true (Int.natCast_nonneg N)
  have c2 : decide (intD (.int (N : Int)) ≥ (fac (intD (.int (n : Int))).toNat : Nat)) = false := by
    apply decide_eq_false
    show ¬ ((N : Int) ≥ (fac ((n : Int)).toNat : Nat))
    rw [Int.toNat_natCast]
    omega
  unfold numNo
  rw [c1, c2]
  rfl
set_option exponentiation.threshold 2000
section
variable {K : PySem.W.Frag} {σ : L2.St} {H : Hp} {ta tb te : TE} {C : Addr} {E : XK} {D : Ends} {tz : TS}
theorem ev_num {ns : List Int} (h : EvD K te σ H (.list (ns.map .int))) (ht : isOrder (.list (ns.map .int)) = true) : Ev (tCall (spNum K C) [] E (tCons te tNil)) σ H (.int (num ns : Nat)) := fun H1 a Q q =>
  h H1 a _ fun v H2 e2 hv => ⟨v, _, rfl, hv, fun ms em _ => by
    have : ms = ns := by
      have z2 := congrArg intsD (PyData.list.inj em)
      rw [intsD_ints, intsD_ints] at z2
      exact z2.symm
    subst this
    exact fun H3 e3 => q H3 (e2.trans e3), fun hf => by rw [ht] at hf; cases hf⟩
theorem ev_numK {ns : List Int} (h : EvD K te σ H (.list (ns.map .int))) (ht : isOrder (.list (ns.map .int)) = true) : Ev (tCallK (spNum K C) (fun vs zs => vs ++ zs) E tNil (tCons te tNil)) σ H (.int (num ns : Nat)) := ev_num (E := E) h ht
theorem go_numd {n N : Nat} (hn : n ≤ 200) (hN : N < fac n) {H1 : Hp} {Q : VK} (q : RetL ((ordN n N).map V.int) H1 Q) : spNumd K C [.int n, .int N] H1 Q E :=
  ⟨.int n, .int n, .int N, .int N, rfl, .int _, .int _, fun n2 N2 en eN _ _ => by
    have e1 : (n : Int) = n2 := PyData.int.inj en
    have e2 : (N : Int) = N2 := PyData.int.inj eN
    have e3 : n = n2 := by omega
    have e4 : N = N2 := by omega
    subst e3 e4
    exact q, (fun hf => by rw [len_no hn] at hf; cases hf), (fun _ hf => by rw [num_no hN] at hf; cases hf)⟩
theorem el_numd {n N : Nat} (h1 : Ev ta σ H (.int n)) (h2 : Ev tb σ H (.int N)) (hn : n ≤ 200) (hN : N < fac n) : EvL (tCall (spNumd K C) [] E (tCons ta (tCons tb tNil))) σ H ((ordN n N).map V.int) := fun H1 a Q q =>
  h1 H1 a _ fun H2 e2 => h2 H2 (a.trans e2) _ fun H3 e3 => go_numd hn hN fun p H4 np e4 hp => q p H4 (free_of (e2.trans e3) np) ((e2.trans e3).trans e4) hp
/-- order_numbered(number = .., length = ..) -/
theorem el_numdK {n N : Nat} (h1 : Ev ta σ H (.int n)) (h2 : Ev tb σ H (.int N)) (hn : n ≤ 200) (hN : N < fac n) : EvL (tCallK (spNumd K C) (fun vs zs => vs ++ swp zs) E tNil (tCons tb (tCons ta tNil))) σ H ((ordN n N).map V.int) := fun H1 a Q q =>
  h2 H1 a _ fun H2 e2 => h1 H2 (a.trans e2) _ fun H3 e3 => go_numd hn hN fun p H4 np e4 hp => q p H4 (free_of (e2.trans e3) np) ((e2.trans e3).trans e4) hp
theorem ev_fac {n : Nat} (h : Ev te σ H (.int n)) (hn : n ≤ 200) : Ev (tCall spCount [] E (tCons te tNil)) σ H (.int (fac n : Nat)) :=
  ev_own (ea_cons h ea_nil) fun H1 e1 Q q => ⟨n, rfl, hn, q⟩
theorem ev_neInt {i : Int} (h1 : Ev ta σ H (.int i)) (h2 : Ev tb σ H (.int i)) : Ev (tOp (rNeD K) ta tb) σ H (.bl false) :=
  ev_is (ev_neD (ed_int h1) (ed_int h2) rfl rfl rfl rfl) (by
    show V.bl (!(i == i)) = .bl false
    rw [beq_self_eq_true]; rfl)
theorem ev_eqInt {i : Int} (h1 : Ev ta σ H (.int i)) (h2 : Ev tb σ H (.int i)) : Ev (tOp (rEqD K) ta tb) σ H (.bl true) :=
  ev_is (ev_eqD (ed_int h1) (ed_int h2) rfl rfl rfl rfl) (by
    show V.bl (i == i) = .bl true
    rw [beq_self_eq_true])
theorem et_or3 {a b c : TT} (h1 : EvT a σ H false) (h2 : EvT b σ H false) (h3 : EvT c σ H false) : EvT (tOr a (tOr b c)) σ H false :=
  et_is (et_or h1 fun _ => et_or h2 fun _ => h3) rfl
theorem ev_and2 {a b : TE} (h1 : Ev a σ H (.bl true)) (h2 : Ev b σ H (.bl true)) : Ev (tAndV a b) σ H (.bl true) := ev_is (ev_andV h1 fun _ => h2) rfl
end
theorem perm_yes {os : List Int} {n : Nat} (h : os.Perm (rangeI n)) (hn : n ≤ 200) : isOrder (.list (os.map .int)) = true := by
  have hl : os.length = n := by rw [h.length_eq, rangeI_len]
  rw [isOrder_eq (by omega) (fun x hx => (rangeI_mem.mp (h.mem_iff.mp hx)).1), decide_eq_true_eq, hl, isort_of_perm h, isort_range]
section
variable {P : Program} {w : World} {K : PySem.W.Frag} {mg : Str → Option Value} {base : Heap}
theorem kb_order_number_0_order (T : Tx K mg) : KBinds K T.fd_order_number P_order_number ["order"] (fun us ws => us ++ ws) (fun vs zs => vs ++ zs) := by
  obtain ⟨oc, od, kV, doc, pm, an, cdv, ct, osl, e, lk, hcd⟩ := T.F_order_number.ex
  refine ⟨fun s us ws _ hl => ?_, fun r rz => r.append rz⟩
  rw [e]
  match us, ws, hl with
  | [], [_], _ => exact .of_eq rfl
  | [_], [], _ => exact .of_eq rfl
theorem kb_order_numbered_0_number_length (T : Tx K mg) : KBinds K T.fd_order_numbered P_order_numbered ["number", "length"] (fun us ws => us ++ swp ws) (fun vs zs => vs ++ swp zs) := by
  obtain ⟨oc, od, kV, doc, pm, an, cdv, ct, osl, e, lk, hcd⟩ := T.F_order_numbered.ex
  refine ⟨fun s us ws _ hl => ?_, fun r rz => r.append (vals_swp rz)⟩
  rw [e]
  rcases us with _ | ⟨a, _ | ⟨b, _ | ⟨c, us⟩⟩⟩ <;> rcases ws with _ | ⟨x, _ | ⟨y, _ | ⟨z, ws⟩⟩⟩ <;> first | exact .of_eq rfl | (exfalso; simp [swp] at hl)
theorem ok_right (T : Tx K mg) : FnOk P w K mg base CX0 7 T.a_l_long_right T.fd_l_long_right P_l_long_right spRight := by
  have c_l_drawn_log := ok_drawn (P := P) (w := w) (base := base) T
  have c_l_order := ok_ord (P := P) (w := w) (base := base) T
  have c_l_random := ok_rand (P := P) (w := w) (base := base) T
  have c_l_count := ok_fac (P := P) (w := w) (base := base) T
  have c_order_number := ok_num (P := P) (w := w) (base := base) T
  have c_order_numbered := ok_numd (P := P) (w := w) (base := base) T
  refine T.F_l_long_right.ok sc_l_long_right (fun vs H Q E h => ?_) (fun cdv A outer s H vs Q E hr h => ?_)
  · obtain ⟨g, m, n, rfl, _⟩ := h
    rfl
  · obtain ⟨g, m, n, rfl, hg, hn, hm, q⟩ := h
    refine ⟨_, (pss_cons (ps_set (i := 2) nd_l_long_right rfl (.inl rfl) (pe_call c_l_order (hr.mono (by decide)) (by rfl) T.g_l_order T.F_l_order.kp T.b_l_order .nil pass0 (pa_cons (pe_call c_l_drawn_log (hr.mono (by decide)) (by rfl) T.g_l_drawn_log T.F_l_drawn_log.kp T.b_l_drawn_log .nil pass0 (pa_cons (pv 0) (pa_cons (pv 1) pa_nil))) pa_nil)))
      (pss_cons (ps_set (i := 3) nd_l_long_right rfl (.inl rfl) (pe_callTy (k_list (K := K) rfl) (by rfl) T.m_list (by decide +kernel) (pa_cons (pv 2) pa_nil)))
      (pss_cons (ps_set (i := 4) nd_l_long_right rfl (.inl rfl) (pe_call c_order_number (hr.mono (by decide)) (by rfl) T.g_order_number T.F_order_number.kp T.b_order_number .nil passL (pa_cons (pv 3) pa_nil)))
      (pss_cons (ps_if (PW.pt (pw_or (pt_cmpR (k_ne (K := K) rfl hr.units) (pv 3) (pv 2) (nomark _)) (pw_or (pt_val (pe_callB (k_isi (K := K) rfl) (by rfl) T.m_isinstance (by decide +kernel) (pa_cons (pv 4) (pa_cons (pe_bltn (v := .ty "bool") (by rfl) T.m_bool (by decide +kernel) rfl) pa_nil)))) (pw_or (pt_not (pt_chain op_le op_lt pe_int (pv 4) (pe_call c_l_count (hr.mono (by decide)) (by rfl) T.g_l_count T.F_l_count.kp T.b_l_count .nil pass0 (pa_cons (pv 1) pa_nil)))) (pw_or1 (pt_cmpR (k_ne (K := K) rfl hr.units) (pe_call c_order_numbered (hr.mono (by decide)) (by rfl) T.g_order_numbered T.F_order_numbered.kp T.b_order_numbered .nil passL (pa_cons (pv 1) (pa_cons (pv 4) pa_nil))) (pv 2) (nomark _))))))) (pss_one (ps_ret pe_bl)) pss_nil)
      (pss_cons (ps_set (i := 5) nd_l_long_right rfl (.inl rfl) (pe_call c_l_random (hr.mono (by decide)) (by rfl) T.g_l_random T.F_l_random.kp T.b_l_random .nil pass0 (pa_cons (pv 0) (pa_cons (pe_callB (c_min2 rfl) (by rfl) T.m_min (by decide +kernel) (pa_cons (pe_call c_l_count (hr.mono (by decide)) (by rfl) T.g_l_count T.F_l_count.kp T.b_l_count .nil pass0 (pa_cons (pv 1) pa_nil)) (pa_cons (pe_op op_powX pe_int pe_int) pa_nil))) pa_nil))))
      (pss_cons (ps_par (i := 6) (j := 7) rfl nd_l_long_right rfl rfl (by decide) rfl rfl (pa_cons (pe_call c_order_numbered (hr.mono (by decide)) (by rfl) T.g_order_numbered T.F_order_numbered.kp T.b_order_numbered .nil passL (pa_cons (pv 1) (pa_cons (pv 5) pa_nil))) (pa_cons (pe_callK0 c_order_numbered (hr.mono (by decide)) (by rfl) T.g_order_numbered T.F_order_numbered.kp (kb_order_numbered_0_number_length T) passL (pk_cons (pv 5) (pk_cons (pv 1) pk_nil))) pa_nil)) (by rfl))
      (pss_cons (ps_if (PW.pt (pw_or (pt_cmpR (k_ne (K := K) rfl hr.units) (pv 6) (pv 7) (nomark _)) (pw_or (pt_cmpR (k_ne (K := K) rfl hr.units) (pe_callB (k_sorted (K := K) rfl) (by rfl) T.m_sorted (by decide +kernel) (pa_cons (pv 6) pa_nil)) (pe_listRg rfl (by rfl) T.m_list (prg_1 (by rfl) T.m_range (pv 1))) (nomark _)) (pw_or1 (pt_cmpR (k_ne (K := K) rfl hr.units) (pe_callK0 c_order_number (hr.mono (by decide)) (by rfl) T.g_order_number T.F_order_number.kp (kb_order_number_0_order T) passL (pk_cons (pv 6) pk_nil)) (pv 5) (nomark _)))))) (pss_one (ps_ret pe_bl)) pss_nil)
      (pss_cons (ps_if (PW.pt (pw_and (pt_cmpR op_gt (pv 5) pe_int (nomark _)) (pw_and1 (pt_cmpR op_notBl (pe_cmpR (k_ltI (K := K) rfl hr.units) (pe_call c_order_numbered (hr.mono (by decide)) (by rfl) T.g_order_numbered T.F_order_numbered.kp T.b_order_numbered .nil passL (pa_cons (pv 1) (pa_cons (pe_op op_sub (pv 5) pe_int) pa_nil))) (pv 6) (nomark _)) pe_bl (nomark _))))) (pss_one (ps_ret pe_bl)) pss_nil)
      (pss_cons (ps_expr (pe_bm PySem.F.plainAttrs_list PySem.F.slot_list_append PySem.F.type_list_append mt_append (pv 7) (pa_cons pe_non pa_nil)))
      (pss_one (ps_ret (pe_cmpR (k_eq (K := K) rfl hr.units) (pe_call c_order_numbered (hr.mono (by decide)) (by rfl) T.g_order_numbered T.F_order_numbered.kp T.b_order_numbered .nil passL (pa_cons (pv 1) (pa_cons (pv 5) pa_nil))) (pv 6) (nomark _))))))))))))), ?_⟩
    apply q_set
    refine ⟨.ref g, rfl, .int n, rfl, g, m, n, rfl, hg, by omega, by omega, fun a ns H1 na of1 g1 ha hl il => ?_⟩
    have hl2 : ns.length ≤ 200 := by omega
    have oy := ord_yes il hl2
    have ol := ordOf_len ns
    have pm := ordOf_perm ns il
    rw [hl] at pm
    have nmlt := RK.num_lt pm
    have back := RK.ordN_num pm
    refine ⟨a, ns, rfl, sq_of ha, by omega, fun b H2 nb e2 hb => ?_⟩
    have bg := gn_ne g1 nb
    have of2 : Off g H H2 := of1.ex e2
    have g2 := g1.ex e2
    apply q_asgL (xs := (ordOf ns).map V.int)
    · exact el_list (ev_var rfl) (sq_of hb)
    intro c H3 nc e3 hc
    apply q_asg (v := .int (num (ordOf ns) : Nat))
    · exact ev_num (ns := ordOf ns) (ed_ints (a := c) (ev_var rfl) (sq_of hc)) oy
    intro H4 e4
    have e34 := e3.trans e4
    apply no_if
    · apply et_or4
      · apply et_test
        exact ev_neSame (ed_ints (a := c) (ev_var rfl) (sq_of (e4 _ _ hc))) (ed_ints (a := b) (ev_var rfl) (sq_of (e34 _ _ hb)))
      · exact et_B (ev_isT (ed_int (ev_var rfl)) (kBool (.int _)))
      · refine et_is (a := !(true && true)) (et_not (et_test ?_)) rfl
        refine ev_chain (x := .int 0) (y := .int (num (ordOf ns) : Nat)) (z := .int (fac n : Nat)) ev_c (ev_var rfl) (ev_fac (ev_var rfl) hn) ?_ ?_
        · have z : RV (rI0 fun i j => .bl (decide (i ≤ j))) (.int 0) (.int ((num (ordOf ns) : Nat) : Int)) H4 (.bl (decide ((0 : Int) ≤ ((num (ordOf ns) : Nat) : Int)))) := rv_I0
          rw [decide_eq_true (Int.natCast_nonneg _)] at z
          exact z
        · intro _
          have z : RV (rI0 fun i j => .bl (decide (i < j))) (.int ((num (ordOf ns) : Nat) : Int)) (.int ((fac n : Nat) : Int)) H4 (.bl (decide (((num (ordOf ns) : Nat) : Int) < ((fac n : Nat) : Int)))) := rv_I0
          rw [decide_eq_true (Int.ofNat_lt.mpr nmlt)] at z
          exact z
      · apply et_test
        refine ev_neSame (a := ordOf ns) (ed_newI (el_is (el_numd (n := n) (N := num (ordOf ns)) (ev_var rfl) (ev_var rfl) hn nmlt) (by rw [back]))) (ed_ints (a := b) (ev_var rfl) (sq_of (e34 _ _ hb)))
    intro H5 e5
    have e35 := e34.trans e5
    have hb5 := e35 _ _ hb
    have g5 := g2.ex e35
    have of5 : Off g H H5 := of2.ex e35
    have fp := RK.fac_pos n
    apply q_set
    refine ⟨.ref g, rfl, ?_⟩
    refine (ev_min2 (i := (fac n : Nat)) (j := 10 ^ 30) (ev_fac (ev_var rfl) hn) (ev_op ev_c ev_c (rv_I (i := 10) (j := 30) ⟨by decide, by decide⟩))) H5 (Ex.refl _) _ fun H6 e6 => ?_
    generalize hmn : (if (10 : Int) ^ 30 < ((fac n : Nat) : Int) then (10 : Int) ^ 30 else ((fac n : Nat) : Int)) = mn
    have mn0 : 0 < mn := by
      rw [← hmn]
      split <;> omega
    have mn1 : mn ≤ (10 : Int) ^ 30 := by
      rw [← hmn]
      split <;> omega
    have mn2 : mn ≤ ((fac n : Nat) : Int) := by
      rw [← hmn]
      split <;> omega
    refine ⟨g, mn, m + 11 * n, rfl, g5.ex e6, by omega, mn0, by omega, fun r H7 r0 r1 of7 g7 => ?_⟩
    obtain ⟨N, rfl⟩ := Int.eq_ofNat_of_zero_le r0
    have hN : N < fac n := by omega
    have hb7 := of7 _ _ bg (e6 _ _ hb5)
    have ofA : Off g H H7 := (of5.ex e6).trans of7
    have po := RK.ordN_perm n N
    have no := RK.num_ordN hN
    have ly := RK.ordN_len n N
    have yo := perm_yes po hn
    apply q_parLL (xs := (ordN n N).map V.int) (ys := (ordN n N).map V.int)
    · exact el_numd (ev_var rfl) (ev_var rfl) hn hN
    · exact el_numdK (ev_var rfl) (ev_var rfl) hn hN
    intro x y H8 nx ny xy e8 hx hy
    apply no_if
    · apply et_or3
      · apply et_test
        exact ev_neSame (ed_ints (a := x) (ev_var rfl) (sq_of hx)) (ed_ints (a := y) (ev_var rfl) (sq_of hy))
      · apply et_test
        refine ev_neSame (a := rangeI n) (ed_newI ?_) (ed_newI (el_range (ev_var rfl) (by omega)))
        refine el_is (el_sort (ev_var rfl) (sq_of hx)) ?_
        rw [isort_of_perm po, isort_range]
      · apply et_test
        refine ev_neInt (i := (N : Int)) (ev_is (ev_numK (ns := ordN n N) (ed_ints (a := x) (ev_var rfl) (sq_of hx)) yo) (by rw [no])) (ev_var rfl)
    intro H9 e9
    apply no_if
    · have h1 : Ev (tOp (rI0 fun i j => .bl (decide (j < i))) (tVar 5) (tC (.int 0))) [some (.ref g), some (.int n), some (.ref b), some (.ref c), some (.int (num (ordOf ns) : Nat)), some (.int N), some (.ref x), some (.ref y)] H9 (.bl (decide ((0 : Int) < N))) := ev_op (ev_var rfl) ev_c rv_I0
      rcases Nat.eq_zero_or_pos N with z | z
      · subst z
        exact et_is (a := decide ((0 : Int) < (0 : Nat)) && false) (et_and (et_test h1) fun h => by cases h) rfl
      · refine et_is (a := decide ((0 : Int) < (N : Nat)) && !decide (true = true)) (et_and (et_test h1) fun _ => et_test (ev_notB ?_ ev_c)) (by rw [decide_eq_true (show (true = true) from rfl), Bool.not_true, Bool.and_false])
        refine ev_is (v := .bl (decide (ordN n (N - 1) < ordN n N))) ?_ (by rw [decide_eq_true (RK.ordN_lt hN (by omega))])
        refine ev_ltI (ed_newI (el_numd (n := n) (N := N - 1) (ev_var rfl) ?_ hn (by omega))) (ed_ints (a := x) (ev_var rfl) (sq_of (e9 _ _ hx)))
        refine ev_is (v := .int ((N : Int) - 1)) (ev_op (ev_var rfl) ev_c rv_I0) ?_
        rw [Int.ofNat_sub z]
        rfl
    intro H10 e10
    have e910 := e9.trans e10
    apply q_app (e910 _ _ hy)
    · exact ev_var rfl
    · exact ev_c
    · rw [List.length_map, ly]; omega
    intro H11 e11
    have eB : Ex H7 (upd H11 y (.lst ((ordN n N).map V.int ++ [.non]))) := (e8.trans (e910.trans e11)).mut ny
    have hxB : (upd H11 y (.lst ((ordN n N).map V.int ++ [.non]))) x = some (.lst ((ordN n N).map V.int)) := by
      rw [upd_ne xy]
      exact e11 _ _ (e910 _ _ hx)
    generalize upd H11 y (.lst ((ordN n N).map V.int ++ [.non])) = HB at eB hxB ⊢
    apply s_ret (v := .bl true)
    · exact ev_eqSame (a := ordN n N) (ed_newI (el_numd (ev_var rfl) (ev_var rfl) hn hN)) (ed_ints (a := x) (ev_var rfl) (sq_of hxB))
    · intro H12 e12
      exact q H12 (fun z o nz hz => e12 _ _ (eB _ _ (ofA z o nz hz))) (((g7.ex eB).ex e12).up (by omega))
end
end K03



set_option Elab.async false
set_option linter.all false
set_option maxRecDepth 100000
set_option maxHeartbeats 4000000
namespace K03
open PySem PySem.Spec PyProof.Rows L2 Evl GS
local macro_rules | `(tactic| walk_at "bits") => `(tactic| first | (refine bits64 ?_; omega) | (apply bitsM; (focus walk_at "bits"); (focus walk_at "bits")))
local macro_rules | `(tactic| walk_at "side") => `(tactic| first
  | (apply CMulX.of; (focus walk_at "bits"); (focus walk_at "bits"); decide)
  | (dsimp only; omega) | assumption | decide)
local macro_rules | `(tactic| walk_at "rv") => `(tactic| first | exact rv_I0 | (apply rv_I; walk_at "side"))
local macro_rules | `(tactic| walk_at "ev") => `(tactic| first
  | exact ev_c
  | exact ev_var rfl
  | (apply ev_op; (focus walk_at "ev"); (focus walk_at "ev"); (focus walk_at "rv"))
  | (apply ev_int1; walk_at "ev")
  | (apply ev_max2; (focus walk_at "ev"); (focus walk_at "ev"))
  | (apply ev_bits; walk_at "ev"))

open RK (num ordN fac fnd allO)
local macro_rules | `(tactic| walk_at "dat") => `(tactic| repeat (first
  | exact ed_int ev_c
  | exact ed_bl ev_c
  | exact ed_non ev_c
  | exact ed_str ev_c
  | exact ed_neg
  | exact ed_emp
  | exact eda_nil
  | (apply eda_cons)
  | (refine ed_lst ?_ (by decide))
  | (refine ed_tup ?_ (by decide))))
def badO1 : List PyData := [.none, .int 0, .bool true, .str "0", .tuple [.int 0, .int 1], .list [.int 1], .list [.int 0, .int 0], .list [.int 1, .int 1, .int 1],
  .list [.int 0, .int 0, .int 3, .int 3], .list [.int 0, .int 2], .list [.bool true, .int 0], .list [.int 0, .none], .dict []]
def badO : List PyData := badO1 ++ [z201]
def badL : List PyData := [.none, .int (-1), .int 201, .bool true, .bool false, .str "1", .list [.int 1], .int (10 ^ 29)]
def badN : List PyData := [.none, .int (-1), .int 6, .bool true, .bool false, .str "0", .list [.int 0], .int (10 ^ 29)]
theorem okO1 : badO1.all (okBad isOrder) = true := by decide +kernel
theorem okL1 : badL.all (okBad fun e => !lenNo e) = true := by decide +kernel
theorem okN1 : badN.all (okBad fun e => !numNo (.int 3) e) = true := by decide +kernel
theorem ok200 : okBad (fun e => !numNo (.int (200 : Nat)) e) (.int (fac 200 : Nat)) = true := by decide +kernel
theorem ok0 : okBad (fun e => !numNo (.int (0 : Nat)) e) (.int 1) = true := by decide +kernel
theorem okO {d : PyData} (h : d ∈ badO) : OkBad isOrder d := by
  rcases List.mem_append.mp h with h | h
  · exact .of (List.all_eq_true.mp okO1 d h)
  · rw [List.mem_singleton.mp h]
    exact ok_z201
theorem okL {d : PyData} (h : d ∈ badL) : OkBad (fun e => !lenNo e) d := .of (List.all_eq_true.mp okL1 d h)
theorem okN {d : PyData} (h : d ∈ badN) : OkBad (fun e => !numNo (.int 3) e) d := .of (List.all_eq_true.mp okN1 d h)
def spDone : Sp := fun vs H Q _ => vs = [] ∧ RetV (.bl true) H Q
/-- what an error tells: which it is, and its value written -/
def spCaught (K : PySem.W.Frag) : Sp := fun vs H Q _ => ∃ (i : Int) (v u : V) (d e : PyData), vs = [.int i, v, u] ∧ Rp K H v d ∧ Rp K H u e ∧
  ((i = 0 ∧ OkBad isOrder d ∧ RetL (triV true d.shown) H Q) ∨ (i = 1 ∧ OkBad (fun e => !lenNo e) d ∧ RetL (triV false d.shown) H Q) ∨
    (i = 1 ∧ lenNo d = false ∧ OkBad (fun e => !numNo d e) e ∧ RetL (triV false e.shown) H Q))
section
variable {K : PySem.W.Frag} {σ : L2.St} {H : Hp} {E : XK} {ta tb tc td te tr : TE} {t : TA}
theorem el_ownD {sp : Sp} {ds : List PyData} {xs : List V} (h : EvDA K t σ H ds)
    (k : ∀ vs H1, Ex H H1 → RpAll K H1 vs ds → ∀ Q : VK, (∀ p H2, H1 p = none → Ex H1 H2 → H2 p = some (.lst xs) → Q (.ref p) H2) → sp vs H1 Q E) : EvL (tCall sp [] E t) σ H xs := fun H1 a Q q =>
  h H1 a _ fun vs H2 e2 r => by
    rw [List.append_nil]
    exact k vs H2 (a.trans e2) r Q fun p H3 n e3 hp => q p H3 (fresh_back e2 n) (e2.trans e3) hp
/-- caught, as it should be -/
theorem el_caught {i : Int} {d e : PyData} {b : Bool} {s : Str} (ha : Ev ta σ H (.int i)) (hd : EvD K td σ H d) (he : EvD K te σ H e)
    (hq : ∀ (Q : VK) H1, RetL (triV b s) H1 Q → (i = 0 ∧ OkBad isOrder d ∧ RetL (triV true d.shown) H1 Q) ∨ (i = 1 ∧ OkBad (fun e => !lenNo e) d ∧ RetL (triV false d.shown) H1 Q) ∨ (i = 1 ∧ lenNo d = false ∧ OkBad (fun e => !numNo d e) e ∧ RetL (triV false e.shown) H1 Q)) :
    EvL (tCall (spCaught K) [] E (tCons ta (tCons td (tCons te tNil)))) σ H (triV b s) := by
  apply el_ownD (eda_cons (ed_int ha) (eda_cons hd (eda_cons he eda_nil)))
  intro vs H1 e1 r Q q
  cases r with
  | cons r1 r =>
    cases r with
    | cons r2 r =>
      cases r with
      | cons r3 r =>
        cases r
        cases r1
        exact ⟨i, _, _, d, e, rfl, r2, r3, hq Q H1 q⟩
theorem ed_tri {b : Bool} {s : Str} (h1 : Ev tb σ H (.bl b)) (h2 : Ev tc σ H (.bl (!b))) (h3 : Ev tr σ H (.str s)) : EvD K (tLst (tCons tb (tCons tc (tCons tr tNil)))) σ H (.list [.bool b, .bool (!b), .str s]) :=
  ed_lst (eda_cons (ed_bl h1) (eda_cons (ed_bl h2) (eda_cons (ed_str h3) eda_nil))) (by show 3 ≤ 100000; decide)
theorem ev_neTri {b : Bool} {s : Str} (hc : EvL ta σ H (triV b s)) (st : PyData.canLay0 (.str s) = true) (h1 : Ev tb σ H (.bl b)) (h2 : Ev tc σ H (.bl (!b))) (h3 : Ev tr σ H (.str s)) :
    Ev (tOp (rNeD K) ta (tLst (tCons tb (tCons tc (tCons tr tNil))))) σ H (.bl false) := by
  have z := ev_neD (K := K) (ed_new (EvL.ld hc fun _ => rpTri)) (ed_tri h1 h2 h3) rfl rfl (shaped_tri b (!b) st) (shaped_tri b (!b) st)
  exact ev_is z (by rw [eqv_tri]; rfl)
theorem ev_eqTri {b : Bool} {s : Str} (hc : EvL ta σ H (triV b s)) (st : PyData.canLay0 (.str s) = true) (h1 : Ev tb σ H (.bl b)) (h2 : Ev tc σ H (.bl (!b))) (h3 : Ev tr σ H (.str s)) :
    Ev (tOp (rEqD K) ta (tLst (tCons tb (tCons tc (tCons tr tNil))))) σ H (.bl true) := by
  have z := ev_eqD (K := K) (ed_new (EvL.ld hc fun _ => rpTri)) (ed_tri h1 h2 h3) rfl rfl (shaped_tri b (!b) st) (shaped_tri b (!b) st)
  exact ev_is z (by rw [eqv_tri])
end
section
variable {P : Program} {w : World} {K : PySem.W.Frag} {mg : Str → Option Value} {base : Heap}
theorem ok_caught (T : Tx K mg) : FnG P w K mg base CX0 7 T.a_l_caught T.fd_l_caught P_l_caught (spCaught K) := by
  have c_order_number := ok_num (P := P) (w := w) (base := base) T
  have c_order_numbered := ok_numd (P := P) (w := w) (base := base) T
  refine fun_g T.F_l_caught sc_l_caught (fun vs H Q E h => ?_) (fun cdv A outer s H vs Q E hr hq h => ?_)
  · obtain ⟨i, v, u, d, e, rfl, _⟩ := h
    rfl
  · obtain ⟨i, v, u, d, e, rfl, hd, hu, hc⟩ := h
    refine ⟨_, (pss_cons (ps_set (i := 3) nd_l_caught rfl (.inl rfl) pe_non)
      (pss_cons (ps_try_keep (c := .ref T.a_GapError) (i := 4) rfl rfl nd_l_caught rfl rfl ⟨by rfl, by decide, .inl T.g_GapError⟩ takes0 (fun W pn xe tk _ => (pss_one (ps_if (pt_cmpR (k_eq (K := K) rfl hr.units) (pv 0) pe_int (nomark _)) (pss_one (ps_expr (pe_callS c_order_number (hr.mono (by decide)) (by rfl) T.g_order_number T.F_order_number.kp T.b_order_number (fun σ => passAt tk σ) (pa_cons (pv 1) pa_nil)))) (pss_one (ps_expr (pe_callS c_order_numbered (hr.mono (by decide)) (by rfl) T.g_order_numbered T.F_order_numbered.kp T.b_order_numbered (fun σ => passAt tk σ) (pa_cons (pv 1) (pa_cons (pv 2) pa_nil)))))))) (fun a oe pn => (pss_one (ps_set (i := 3) nd_l_caught rfl (.inl rfl) (pv 4)))))
      (pss_one (ps_ret (pe_lst (pa_cons (pe_callB (k_isi (K := K) rfl) (by rfl) T.m_isinstance (by decide +kernel) (pa_cons (pv 3) (pa_cons (pe_glob (by rfl) T.g_InvalidOrder (show RelV (.ref T.a_InvalidOrder) (.ref T.a_InvalidOrder) from rfl)) pa_nil))) (pa_cons (pe_callB (k_isi (K := K) rfl) (by rfl) T.m_isinstance (by decide +kernel) (pa_cons (pv 3) (pa_cons (pe_glob (by rfl) T.g_InvalidNumber (show RelV (.ref T.a_InvalidNumber) (.ref T.a_InvalidNumber) from rfl)) pa_nil))) (pa_cons (pe_ifExp (pt_cmpR c_isN (pv 3) pe_non (nomark _)) pe_non (pe_callB (k_repr (K := K) rfl hq hr.units) (by rfl) T.m_repr (by decide +kernel) (pa_cons (k_held (K := K) rfl (pv 3)) pa_nil))) pa_nil)))))))), ?_⟩
    apply q_asg (v := .non) ev_c
    intro H1 e1
    have hd1 := hd.to e1
    have hu1 := hu.to e1
    apply q_seq
    -- the end, whichever error it was, with the value z
    have fin : ∀ {C : Addr} {b : Bool} {f : PyData → Bool} {z : V} {c : PyData}, OkBad f c → Rp K H1 z c → RetL (triV b c.shown) H Q → ErrC K C → PySem.W.kitOne K (.ref C) (.ref T.a_InvalidOrder) = some b →
        PySem.W.kitOne K (.ref C) (.ref T.a_InvalidNumber) = some (!b) → ∀ (a : Addr) (H' : Hp), Ex H1 H' → Held H' a C z →
        ∀ (D : Ends), D.rt = Q → (tRet (tLst (tCons (tCB (rIsAny K) (tCons (tVar 3) (tCons (tC (.ref T.a_InvalidOrder)) tNil))) (tCons (tCB (rIsAny K) (tCons (tVar 3) (tCons (tC (.ref T.a_InvalidNumber)) tNil)))
          (tCons (tIf (tTest (tOp rIsNone (tVar 3) (tC .non))) (tC .non) (tCB (rRepr K) (tCons (tHeldV K (tVar 3)) tNil))) tNil))))) D [some (.int i), some v, some u, some (.ref a), none] H' := by
      intro C b f z c ob hz q ec k1 k2 a H' e hh D hD
      apply s_retL (xs := triV b c.shown)
      · refine el_lst ?_ (by show 3 ≤ 100000; decide)
        apply ea_cons
        · exact ev_isHeld (ev_var rfl) hh ec k1
        apply ea_cons
        · exact ev_isHeld (ev_var rfl) hh ec k2
        apply ea_cons
        · apply ev_if (b := false)
          · apply et_test
            exact ev_is (ev_isN (x := .ref a) (ev_var rfl)) (by rfl)
          · intro z; cases z
          · intro _
            exact ev_repr (ed_of (ev_held (ev_var rfl) hh ec) (hz.to e)) ob.nd ob.sh ob.dp ob.ln
        exact ea_nil
      · intro p H2 np e2 hp
        rw [hD]
        exact q p H2 (free_of (e1.trans e) np) ((e1.trans e).trans e2) hp
    rcases hc with ⟨rfl, ob, q⟩ | ⟨rfl, ob, q⟩ | ⟨rfl, hl, ob, q⟩
    · refine s_if (b := true) ?_ ?_ (fun z => by cases z)
      · apply et_test
        exact ev_eqD (d := .int 0) (e := .int 0) (ed_int (ev_var rfl)) (ed_int ev_c) rfl rfl rfl rfl
      intro _ H2 e2
      refine ⟨v, rfl, v, d, rfl, hd1.to e2, fun ns em ht => ?_, fun _ => ?_⟩
      · rw [ob.no] at ht; cases ht
      intro dd H3 n3 e3 h3
      refine ⟨true, T.m_InvalidOrder_GapError, fun _ a na => ?_, fun z => by cases z⟩
      apply s_asg (ev_var rfl)
      intro H4 e4 n4
      exact fin ob hd1 q T.e_InvalidOrder T.k_InvalidOrder_InvalidOrder T.k_InvalidOrder_InvalidNumber a _ (((e2.trans e3).trans e4).trans (Ex.new n4)) ⟨dd, upd_same, Ex.new n4 _ _ (e4 _ _ h3)⟩ _ rfl
    · have no : lenNo d = true := not_false' ob.no
      refine s_if (b := false) ?_ (fun z => by cases z) ?_
      · apply et_test
        exact ev_eqD (d := .int 1) (e := .int 0) (ed_int (ev_var rfl)) (ed_int ev_c) rfl rfl rfl rfl
      intro _ H2 e2
      refine ⟨v, rfl, u, rfl, v, d, u, e, rfl, hd1.to e2, hu1.to e2, fun n N en eN h1 h2 => ?_, fun _ => ?_, fun h1 _ => ?_⟩
      · subst en
        rw [len_no h1] at no
        cases no
      · intro dd H3 n3 e3 h3
        refine ⟨true, T.m_InvalidNumber_GapError, fun _ a na => ?_, fun z => by cases z⟩
        apply s_asg (ev_var rfl)
        intro H4 e4 n4
        exact fin ob hd1 q T.e_InvalidNumber T.k_InvalidNumber_InvalidOrder T.k_InvalidNumber_InvalidNumber a _ (((e2.trans e3).trans e4).trans (Ex.new n4)) ⟨dd, upd_same, Ex.new n4 _ _ (e4 _ _ h3)⟩ _ rfl
      · rw [no] at h1; cases h1
    · have no : numNo d e = true := not_false' ob.no
      refine s_if (b := false) ?_ (fun z => by cases z) ?_
      · apply et_test
        exact ev_eqD (d := .int 1) (e := .int 0) (ed_int (ev_var rfl)) (ed_int ev_c) rfl rfl rfl rfl
      intro _ H2 e2
      refine ⟨v, rfl, u, rfl, v, d, u, e, rfl, hd1.to e2, hu1.to e2, fun n N en eN h1 h2 => ?_, fun h1 => ?_, fun _ _ => ?_⟩
      · subst en eN
        rw [num_no h2] at no
        cases no
      · rw [hl] at h1; cases h1
      · intro dd H3 n3 e3 h3
        refine ⟨true, T.m_InvalidNumber_GapError, fun _ a na => ?_, fun z => by cases z⟩
        apply s_asg (ev_var rfl)
        intro H4 e4 n4
        exact fin ob hu1 q T.e_InvalidNumber T.k_InvalidNumber_InvalidOrder T.k_InvalidNumber_InvalidNumber a _ (((e2.trans e3).trans e4).trans (Ex.new n4)) ⟨dd, upd_same, Ex.new n4 _ _ (e4 _ _ h3)⟩ _ rfl
theorem ok_refused (T : Tx K mg) : FnG P w K mg base CX0 8 T.a_l_refused T.fd_l_refused P_l_refused spDone := by
  have c_l_caught := ok_caught (P := P) (w := w) (base := base) T
  have c_l_count := ok_fac (P := P) (w := w) (base := base) T
  refine fun_g T.F_l_refused sc_l_refused (fun vs H Q E h => ?_) (fun cdv A outer s H vs Q E hr hq h => ?_)
  · obtain ⟨rfl, _⟩ := h
    rfl
  · obtain ⟨rfl, q⟩ := h
    refine ⟨_, (pss_cons (ps_for PassesOwn.never rfl (k_pil (K := K) rfl (pe_lst (pa_cons pe_non (pa_cons pe_int (pa_cons pe_bl (pa_cons pe_str (pa_cons (pe_tup (pa_cons pe_int (pa_cons pe_int pa_nil))) (pa_cons (pe_lst (pa_cons pe_int pa_nil)) (pa_cons (pe_lst (pa_cons pe_int (pa_cons pe_int pa_nil))) (pa_cons (pe_lst (pa_cons pe_int (pa_cons pe_int (pa_cons pe_int pa_nil)))) (pa_cons (pe_lst (pa_cons pe_int (pa_cons pe_int (pa_cons pe_int (pa_cons pe_int pa_nil))))) (pa_cons (pe_lst (pa_cons pe_int (pa_cons pe_int pa_nil))) (pa_cons (pe_lst (pa_cons pe_bl (pa_cons pe_int pa_nil))) (pa_cons (pe_lst (pa_cons pe_int (pa_cons pe_non pa_nil))) (pa_cons pe_dnewK (pa_cons (pe_listRg rfl (by rfl) T.m_list (prg_1 (by rfl) T.m_range pe_int)) pa_nil)))))))))))))))) (pg_name (i := 0) nd_l_refused rfl (.inl rfl)) (pss_one (ps_if (pt_cmpR (k_ne (K := K) rfl hr.units) (pe_callG c_l_caught (hr.mono (by decide)) hq (by rfl) T.g_l_caught T.F_l_caught.kp T.b_l_caught .nil pass0 (pa_cons pe_int (pa_cons (pv 0) (pa_cons pe_non pa_nil)))) (pe_lst (pa_cons pe_bl (pa_cons pe_bl (pa_cons (pe_callB (k_repr (K := K) rfl hq hr.units) (by rfl) T.m_repr (by decide +kernel) (pa_cons (pv 0) pa_nil)) pa_nil)))) (nomark _)) (pss_one (ps_ret pe_bl)) pss_nil)))
      (pss_cons (ps_for PassesOwn.never rfl (k_pil (K := K) rfl (pe_lst (pa_cons pe_non (pa_cons (pe_un un_neg pe_int) (pa_cons pe_int (pa_cons pe_bl (pa_cons pe_bl (pa_cons pe_str (pa_cons (pe_lst (pa_cons pe_int pa_nil)) (pa_cons (pe_op op_powX pe_int pe_int) pa_nil)))))))))) (pg_name (i := 0) nd_l_refused rfl (.inl rfl)) (pss_one (ps_if (PW.pt (pw_or (pt_cmpR (k_ne (K := K) rfl hr.units) (pe_callG c_l_caught (hr.mono (by decide)) hq (by rfl) T.g_l_caught T.F_l_caught.kp T.b_l_caught .nil pass0 (pa_cons pe_int (pa_cons (pv 0) (pa_cons pe_non pa_nil)))) (pe_lst (pa_cons pe_bl (pa_cons pe_bl (pa_cons (pe_callB (k_repr (K := K) rfl hq hr.units) (by rfl) T.m_repr (by decide +kernel) (pa_cons (pv 0) pa_nil)) pa_nil)))) (nomark _)) (pw_or1 (pt_cmpR (k_ne (K := K) rfl hr.units) (pe_callG c_l_caught (hr.mono (by decide)) hq (by rfl) T.g_l_caught T.F_l_caught.kp T.b_l_caught .nil pass0 (pa_cons pe_int (pa_cons (pv 0) (pa_cons pe_int pa_nil)))) (pe_lst (pa_cons pe_bl (pa_cons pe_bl (pa_cons (pe_callB (k_repr (K := K) rfl hq hr.units) (by rfl) T.m_repr (by decide +kernel) (pa_cons (pv 0) pa_nil)) pa_nil)))) (nomark _))))) (pss_one (ps_ret pe_bl)) pss_nil)))
      (pss_cons (ps_for PassesOwn.never rfl (k_pil (K := K) rfl (pe_lst (pa_cons pe_non (pa_cons (pe_un un_neg pe_int) (pa_cons pe_int (pa_cons pe_bl (pa_cons pe_bl (pa_cons pe_str (pa_cons (pe_lst (pa_cons pe_int pa_nil)) (pa_cons (pe_op op_powX pe_int pe_int) pa_nil)))))))))) (pg_name (i := 0) nd_l_refused rfl (.inl rfl)) (pss_one (ps_if (pt_cmpR (k_ne (K := K) rfl hr.units) (pe_callG c_l_caught (hr.mono (by decide)) hq (by rfl) T.g_l_caught T.F_l_caught.kp T.b_l_caught .nil pass0 (pa_cons pe_int (pa_cons pe_int (pa_cons (pv 0) pa_nil)))) (pe_lst (pa_cons pe_bl (pa_cons pe_bl (pa_cons (pe_callB (k_repr (K := K) rfl hq hr.units) (by rfl) T.m_repr (by decide +kernel) (pa_cons (pv 0) pa_nil)) pa_nil)))) (nomark _)) (pss_one (ps_ret pe_bl)) pss_nil)))
      (pss_one (ps_ret (pe_and (pe_cmpR (k_eq (K := K) rfl hr.units) (pe_callG c_l_caught (hr.mono (by decide)) hq (by rfl) T.g_l_caught T.F_l_caught.kp T.b_l_caught .nil pass0 (pa_cons pe_int (pa_cons pe_int (pa_cons (pe_call c_l_count (hr.mono (by decide)) (by rfl) T.g_l_count T.F_l_count.kp T.b_l_count .nil pass0 (pa_cons pe_int pa_nil)) pa_nil)))) (pe_lst (pa_cons pe_bl (pa_cons pe_bl (pa_cons (pe_callB (k_repr (K := K) rfl hq hr.units) (by rfl) T.m_repr (by decide +kernel) (pa_cons (pe_call c_l_count (hr.mono (by decide)) (by rfl) T.g_l_count T.F_l_count.kp T.b_l_count .nil pass0 (pa_cons pe_int pa_nil)) pa_nil)) pa_nil)))) (nomark _)) (pe_one (pe_cmpR (k_eq (K := K) rfl hr.units) (pe_callG c_l_caught (hr.mono (by decide)) hq (by rfl) T.g_l_caught T.F_l_caught.kp T.b_l_caught .nil pass0 (pa_cons pe_int (pa_cons pe_int (pa_cons pe_int pa_nil)))) (pe_lst (pa_cons pe_bl (pa_cons pe_bl (pa_cons pe_str pa_nil)))) (nomark _))))))))), ?_⟩
    refine q_forD (K := K) (ds := badO) (eld_lst ?_ (by decide)) none rfl ?_ ?_
    · show EvDA K _ _ _ (badO1 ++ [z201])
      unfold badO1
      show EvDA K _ _ _ [.none, .int 0, .bool true, .str "0", .tuple [.int 0, .int 1], .list [.int 1], .list [.int 0, .int 0], .list [.int 1, .int 1, .int 1],
        .list [.int 0, .int 0, .int 3, .int 3], .list [.int 0, .int 2], .list [.bool true, .int 0], .list [.int 0, .none], .dict [], z201]
      iterate 13 (apply eda_cons; (focus walk_at "dat"))
      apply eda_cons
      · exact ed_newI (el_range (n := 201) ev_c (by decide))
      exact eda_nil
    · intro N H1 x d hN e1 hm hd
      have ob := okO hm
      refine s_when (b := false) ?_ (fun z => by cases z) (fun _ => hN)
      apply et_test
      exact ev_neTri (el_caught ev_c (ed_var rfl hd) (ed_non ev_c) fun Q H1 q => .inl ⟨rfl, ob, q⟩) ob.st ev_c ev_c (ev_repr (ed_var rfl hd) ob.nd ob.sh ob.dp ob.ln)
    intro y1 H1 e1
    refine q_forD (K := K) (ds := badL) (eld_lst ?_ (by decide)) y1 (by rfl) ?_ ?_
    · unfold badL
      iterate 7 (apply eda_cons; (focus walk_at "dat"))
      apply eda_cons
      · exact ed_int (ev_is (ev_op ev_c ev_c (rv_I (i := 10) (j := 29) ⟨by decide, by decide⟩)) rfl)
      exact eda_nil
    · intro N H2 x d hN e2 hm hd
      have ob := okL hm
      refine s_when (b := false) ?_ (fun z => by cases z) (fun _ => hN)
      apply et_or2
      · apply et_test
        exact ev_neTri (el_caught ev_c (ed_var rfl hd) (ed_non ev_c) fun Q H1 q => .inr (.inl ⟨rfl, ob, q⟩)) ob.st ev_c ev_c (ev_repr (ed_var rfl hd) ob.nd ob.sh ob.dp ob.ln)
      · apply et_test
        exact ev_neTri (el_caught ev_c (ed_var rfl hd) (ed_int ev_c) fun Q H1 q => .inr (.inl ⟨rfl, ob, q⟩)) ob.st ev_c ev_c (ev_repr (ed_var rfl hd) ob.nd ob.sh ob.dp ob.ln)
    intro y2 H2 e2
    refine q_forD (K := K) (ds := badN) (eld_lst ?_ (by decide)) y2 (by rfl) ?_ ?_
    · unfold badN
      iterate 7 (apply eda_cons; (focus walk_at "dat"))
      apply eda_cons
      · exact ed_int (ev_is (ev_op ev_c ev_c (rv_I (i := 10) (j := 29) ⟨by decide, by decide⟩)) rfl)
      exact eda_nil
    · intro N H3 x d hN e3 hm hd
      have ob := okN hm
      refine s_when (b := false) ?_ (fun z => by cases z) (fun _ => hN)
      apply et_test
      exact ev_neTri (el_caught ev_c (ed_int ev_c) (ed_var rfl hd) fun Q H1 q => .inr (.inr ⟨rfl, rfl, ob, q⟩)) ob.st ev_c ev_c (ev_repr (ed_var rfl hd) ob.nd ob.sh ob.dp ob.ln)
    intro y3 H3 e3
    have ob1 := OkBad.of ok200
    have ob2 := OkBad.of ok0
    apply s_ret (v := .bl true)
    · apply ev_and2
      · refine ev_eqTri (s := PyData.shown (.int (fac 200 : Nat))) (el_caught (d := .int (200 : Nat)) (e := .int (fac 200 : Nat)) ev_c (ed_int ev_c) (ed_int (ev_fac (n := 200) ev_c (by decide))) fun Q H1 q => .inr (.inr ⟨rfl, rfl, ob1, q⟩)) ob1.st ev_c ev_c (ev_repr (ed_int (ev_fac (n := 200) ev_c (by decide))) ob1.nd ob1.sh ob1.dp ob1.ln)
      · refine ev_eqTri (s := PyData.shown (.int 1)) (el_caught (d := .int (0 : Nat)) (e := .int 1) ev_c (ed_int ev_c) (ed_int ev_c) fun Q H1 q => .inr (.inr ⟨rfl, rfl, ob2, q⟩)) ob2.st ev_c ev_c (ev_is (v := .str "1") ev_c (by decide +kernel))
    · intro H4 e4
      exact q H4 (((e1.trans e2).trans e3).trans e4)
end
end K03



set_option Elab.async false
set_option linter.all false
set_option maxRecDepth 100000
set_option maxHeartbeats 4000000
namespace K03
open PySem PySem.Spec PyProof.Rows L2 Evl GS
local macro_rules | `(tactic| walk_at "bits") => `(tactic| first | (refine bits64 ?_; omega) | (apply bitsM; (focus walk_at "bits"); (focus walk_at "bits")))
local macro_rules | `(tactic| walk_at "side") => `(tactic| first
  | (apply CMulX.of; (focus walk_at "bits"); (focus walk_at "bits"); decide)
  | (dsimp only; omega) | assumption | decide)
local macro_rules | `(tactic| walk_at "rv") => `(tactic| first | exact rv_I0 | (apply rv_I; walk_at "side"))
local macro_rules | `(tactic| walk_at "ev") => `(tactic| first
  | exact ev_c
  | exact ev_var rfl
  | (apply ev_op; (focus walk_at "ev"); (focus walk_at "ev"); (focus walk_at "rv"))
  | (apply ev_int1; walk_at "ev")
  | (apply ev_max2; (focus walk_at "ev"); (focus walk_at "ev"))
  | (apply ev_bits; walk_at "ev"))

open RK (num ordN fac fnd allO)
def spLaw (K : PySem.W.Frag) : Sp := fun vs H Q _ => ∃ (a : Addr) (ns : List Int), vs = [.ref a] ∧ SqL K H a (ns.map V.int) ∧ ∀ H2, Q (.bl true) H2
section
variable {K : PySem.W.Frag} {σ : L2.St} {H : Hp} {te : TE}
/-- a list of new lists of numbers, made over range(n) -/
theorem eld_lcR {tas : TA} {j : Nat} {vs : List Nat} {n : Nat} (g : Nat → List Int) (h : EvA tas σ H [.int n]) (hn : n ≤ 40000) (hw : ∀ x, wipe ((wipe σ vs).set j (some x)) vs = wipe σ vs)
    (he : ∀ (i : Nat) H1, Ex H H1 → i < n → EvL te ((wipe σ vs).set j (some (.int (i : Int)))) H1 ((g i).map V.int)) : EvLD K (tLc (iRng1 tas) (gName j) tYes te vs) σ H ((List.range n).map fun i => enc (g i)) := by
  intro H1 e1 Q q
  refine lc_rng (n := n) (h.mono e1) (by omega) hw (fun D i acc H2 => H1 D = none ∧ Ex H1 H2 ∧ H2 D = some (.lst acc) ∧ RpAll K (hid H2 D) acc ((List.range i).map fun i => enc (g i)) ∧ i ≤ n) ?_ ?_ ?_
  · intro D H2 e2 hD
    exact ⟨free_of e2 hD, e2.trans (Ex.new hD), upd_same, .nil, Nat.zero_le _⟩
  · rintro D i acc H2 hi ⟨nD, e2, hD, r, hin⟩
    unfold tYes
    refine iteT ?_
    refine he i H2 (e1.trans e2) (by omega) H2 (Ex.refl _) _ fun p H3 np e3 hp => ?_
    have al : acc.length = i := by
      have z := r.length
      rwa [List.length_map, List.length_range] at z
    refine ⟨acc, e3 _ _ hD, sz_lt (by omega), acc ++ [.ref p], nD, (e2.trans e3).mut nD, upd_same, ?_, by omega⟩
    rw [List.range_succ, List.map_append]
    refine grow e3 ?_ hp r
    rintro rfl
    rw [np] at hD
    cases hD
  · rintro D acc H2 ⟨nD, e2, hD, r, _⟩
    rw [Int.toNat_natCast] at r
    exact q D acc H2 nD e2 hD (r.to hid_ex)
end
theorem ndL : ∀ l : List (List Int), PyData.hasDictAll (l.map enc) = false
  | [] => rfl
  | x :: l => by
    show ((enc x).hasDict || PyData.hasDictAll (l.map enc)) = false
    rw [ndL l, nodict_ints x]; rfl
theorem layL : ∀ l : List (List Int), PyData.canLayAll0 (l.map enc) = true
  | [] => rfl
  | x :: l => by
    show (PyData.canLayAll0 (x.map .int) && PyData.canLayAll0 (l.map enc)) = true
    rw [layL l, lay_ints x]; rfl
theorem depL : ∀ l : List (List Int), PyData.depthAll (l.map enc) ≤ 1
  | [] => Nat.zero_le _
  | x :: l => by
    show max (PyData.depthAll (x.map .int) + 1) (PyData.depthAll (l.map enc)) ≤ 1
    have := depL l
    rw [depth_ints x]
    omega
theorem shapedL (l : List (List Int)) : SeqAt.shaped (.list (l.map enc)) = true := by
  show (PyData.canLayAll0 (l.map enc) && decide (PyData.depthAll (l.map enc) + 1 ≤ 64)) = true
  have := depL l
  rw [layL, decide_eq_true (by omega)]; rfl
theorem eqvL : ∀ l : List (List Int), PyData.eqvAll (l.map enc) (l.map enc) = true
  | [] => rfl
  | x :: l => by
    show (PyData.eqv (enc x) (enc x) && PyData.eqvAll (l.map enc) (l.map enc)) = true
    rw [eqvL l, show PyData.eqv (enc x) (enc x) = true from (eqv_ints x x).trans (decide_eq_true rfl)]; rfl
theorem fac_small {n : Nat} (h : n < 6) : fac n ≤ 120 := Nat.le_trans (RK.fac_mono (show n ≤ 5 by omega)) (by decide)
theorem desc1 : rg3V 199 (-1) 200 = (RK.desc 200).map V.int := by decide +kernel
set_option exponentiation.threshold 2000
section
variable {P : Program} {w : World} {K : PySem.W.Frag} {mg : Str → Option Value} {base : Heap}
theorem ok_law (T : Tx K mg) : FnG P w K mg base CX0 9 T.a_law T.fd_law P_law (spLaw K) := by
  have c_l_generator := ok_gen (P := P) (w := w) (base := base) T
  have c_l_random := ok_rand (P := P) (w := w) (base := base) T
  have c_l_all := ok_all (P := P) (w := w) (base := base) T
  have c_l_count := ok_fac (P := P) (w := w) (base := base) T
  have c_l_long_right := ok_right (P := P) (w := w) (base := base) T
  have c_l_refused := ok_refused (P := P) (w := w) (base := base) T
  have c_order_number := ok_num (P := P) (w := w) (base := base) T
  have c_order_numbered := ok_numd (P := P) (w := w) (base := base) T
  refine fun_g T.F_law sc_law (fun vs H Q E h => ?_) (fun cdv A outer s H vs Q E hr hq h => ?_)
  · obtain ⟨a, ns, rfl, _⟩ := h
    rfl
  · obtain ⟨a, ns, rfl, hs, q⟩ := h
    refine ⟨_, (pss_cons (ps_for PassesOwn.never rfl (pi_range1 (by rfl) T.m_range (pa_cons pe_int pa_nil)) (pg_name (i := 1) nd_law rfl (.inl rfl)) (pss_cons (ps_set (i := 2) nd_law rfl (.inl rfl) (pe_call c_l_generator (hr.mono (by decide)) (by rfl) T.g_l_generator T.F_l_generator.kp T.b_l_generator .nil pass0 (pa_cons (pv 0) (pa_cons (pv 1) pa_nil))))
      (pss_cons (ps_set (i := 3) nd_law rfl (.inr rfl) (pe_call c_l_random (hr.mono (by decide)) (by rfl) T.g_l_random T.F_l_random.kp T.b_l_random .nil pass0 (pa_cons (pv 2) (pa_cons pe_int pa_nil))))
      (pss_cons (ps_set (i := 4) nd_law rfl (.inl rfl) (pe_call c_l_all (hr.mono (by decide)) (by rfl) T.g_l_all T.F_l_all.kp T.b_l_all .nil pass0 (pa_cons (pv 3) pa_nil)))
      (pss_cons (ps_if (PW.pt (pw_or (pt_cmpR (k_ne (K := K) rfl hr.units) (pe_lc (own := [("_law_number", 7)]) rfl nd_law (pi_range1 (by rfl) T.m_range (pa_cons (pe_callB (k_len (K := K) rfl) (by rfl) T.m_len (by decide +kernel) (pa_cons (pv 4) pa_nil)) pa_nil)) (blkOk_by (N := N_law) (sc := (defScope s_law)) (by decide +kernel)) (fun _ _ _ _ _ => pg_name (i := 7) nd_law rfl (.inl rfl)) (fun _ _ _ _ _ => pts_nil) (fun _ _ _ _ _ => (pe_call c_order_numbered (hr.mono (by decide)) (by rfl) T.g_order_numbered T.F_order_numbered.kp T.b_order_numbered .nil passL (pa_cons (pv 3) (pa_cons (pv 7) pa_nil))))) (pv 4) (nomark _)) (pw_or1 (pt_cmpR (k_ne (K := K) rfl hr.units) (pe_callB (k_len (K := K) rfl) (by rfl) T.m_len (by decide +kernel) (pa_cons (pv 4) pa_nil)) (pe_call c_l_count (hr.mono (by decide)) (by rfl) T.g_l_count T.F_l_count.kp T.b_l_count .nil pass0 (pa_cons (pv 3) pa_nil)) (nomark _))))) (pss_one (ps_ret pe_bl)) pss_nil)
      (pss_cons (ps_if (pt_cmpR (k_ne (K := K) rfl hr.units) (pe_lc (own := [("_law_order_here", 6)]) rfl nd_law (k_pil (K := K) rfl (pv 4)) (blkOk_by (N := N_law) (sc := (defScope s_law)) (by decide +kernel)) (fun _ _ _ _ _ => pg_name (i := 6) nd_law rfl (.inl rfl)) (fun _ _ _ _ _ => pts_nil) (fun _ _ _ _ _ => (pe_call c_order_number (hr.mono (by decide)) (by rfl) T.g_order_number T.F_order_number.kp T.b_order_number .nil passL (pa_cons (pv 6) pa_nil)))) (pe_listRg rfl (by rfl) T.m_list (prg_1 (by rfl) T.m_range (pe_callB (k_len (K := K) rfl) (by rfl) T.m_len (by decide +kernel) (pa_cons (pv 4) pa_nil)))) (nomark _)) (pss_one (ps_ret pe_bl)) pss_nil)
      (pss_one (ps_for PassesOwn.never rfl (k_pil (K := K) rfl (pe_lst (pa_cons (pe_call c_l_random (hr.mono (by decide)) (by rfl) T.g_l_random T.F_l_random.kp T.b_l_random .nil pass0 (pa_cons (pv 2) (pa_cons pe_int pa_nil))) (pa_cons (pe_call c_l_random (hr.mono (by decide)) (by rfl) T.g_l_random T.F_l_random.kp T.b_l_random .nil pass0 (pa_cons (pv 2) (pa_cons pe_int pa_nil))) pa_nil)))) (pg_name (i := 5) nd_law rfl (.inl rfl)) (pss_one (ps_if (pt_not (pt_val (pe_call c_l_long_right (hr.mono (by decide)) (by rfl) T.g_l_long_right T.F_l_long_right.kp T.b_l_long_right .nil pass0 (pa_cons (pv 2) (pa_cons (pv 5) pa_nil))))) (pss_one (ps_ret pe_bl)) pss_nil))))))))))
      (pss_one (ps_ret (pe_and (pe_callG0 c_l_refused (hr.mono (by decide)) hq (by rfl) T.g_l_refused T.F_l_refused.kp T.b_l_refused .nil pass0) (pe_and (pe_cmpR (k_eq (K := K) rfl hr.units) (pe_call c_order_numbered (hr.mono (by decide)) (by rfl) T.g_order_numbered T.F_order_numbered.kp T.b_order_numbered .nil passL (pa_cons pe_int (pa_cons pe_int pa_nil))) (pe_lst pa_nil) (nomark _)) (pe_one (pe_cmpR (k_eq (K := K) rfl hr.units) (pe_call c_order_number (hr.mono (by decide)) (by rfl) T.g_order_number T.F_order_number.kp T.b_order_number .nil passL (pa_cons (pe_listRg3 rfl (by rfl) T.m_list (prg_3 (by rfl) T.m_range (pa_cons pe_int (pa_cons (pe_un un_neg pe_int) (pa_cons (pe_un un_neg pe_int) pa_nil))))) pa_nil)) (pe_op op_sub (pe_call c_l_count (hr.mono (by decide)) (by rfl) T.g_l_count T.F_l_count.kp T.b_l_count .nil pass0 (pa_cons pe_int pa_nil)) pe_int) (nomark _)))))))), ?_⟩
    apply q_forR1 (n := 3)
    · exact ea_cons ev_c ea_nil
    · decide
    rotate_left 3
    · exact fun i σ H3 => (∃ x1 x2 x3 x4 x5 x6 x7 : Option V, σ = [some (.ref a), x1, x2, x3, x4, x5, x6, x7]) ∧ Ex H H3
    · intro H1 e1
      exact ⟨⟨none, none, none, none, none, none, none, rfl⟩, e1⟩
    · rintro i σ H1 hi ⟨⟨x1, x2, x3, x4, x5, x6, x7, rfl⟩, e1⟩
      apply q_set
      refine ⟨.ref a, rfl, .int i, rfl, a, ns, i, rfl, ex_l e1 hs, by omega, fun g H2 ng e2 gg => ?_⟩
      have ng0 : H g = none := free_of e1 ng
      have eA := e1.trans e2
      apply q_set
      refine ⟨.ref g, rfl, g, 6, 1000 * i, rfl, gg, by omega, by decide, by decide, fun r H3 r0 r1 of3 g3 => ?_⟩
      obtain ⟨n, rfl⟩ := Int.eq_ofNat_of_zero_le r0
      have n6 : n < 6 := by omega
      have eB : Ex H H3 := Ex.off eA ng0 of3
      have fs := fac_small n6
      apply q_set
      refine ⟨.int n, rfl, n, rfl, n6, fun p xs H4 np e4 hp hrp => ?_⟩
      have xl : xs.length = fac n := by
        have z := hrp.length
        rwa [List.length_map, RK.allO_len] at z
      apply no_if
      · apply et_or2
        · apply et_test
          have z := ev_neD (K := K) (σ := [some (.ref a), some (.int i), some (.ref g), some (.int n), some (.ref p), x5, x6, x7]) (H := H4) (d := .list ((allO n).map enc)) (e := .list ((allO n).map enc))
            (ed_new (ds := (allO n).map enc) (by
              have z : (allO n).map enc = (List.range (fac n)).map fun i => enc (ordN n i) := by
                unfold RK.allO
                rw [List.map_map]
                rfl
              rw [z]
              refine eld_lcR (K := K) (n := fac n) (fun i => ordN n i) (te := tCall (spNumd K T.a_InvalidNumber) [] (fun _ _ _ => False) (tCons (tVar 3) (tCons (tVar 7) tNil))) (j := 7) (vs := [7]) (ea_cons (ev_is (ev_len (K := K) (ta := tVar 4) (ev_var rfl) (sq_of hp)) (by rw [xl])) ea_nil) (by omega) (fun x => rfl) ?_
              intro k H5 e5 hk
              exact el_numd (ev_var rfl) (ev_var rfl) (by omega) hk))
            (ed_of (te := tVar 4) (ev_var rfl) (.lst (sq_of hp) hrp)) (ndL _) (ndL _) (shapedL _) (shapedL _)
          refine ev_is z ?_
          show V.bl (!(PyData.eqvAll ((allO n).map enc) ((allO n).map enc))) = _
          rw [eqvL]; rfl
        · apply et_test
          exact ev_neInt (i := (fac n : Nat)) (ev_is (ev_len (ev_var rfl) (sq_of hp)) (by rw [xl])) (ev_fac (ev_var rfl) (by omega))
      intro H5 e5
      have hp5 := e5 _ _ hp
      have hrp5 := hrp.to e5
      apply no_if
      · apply et_test
        refine ev_neSame (a := rangeI (fac n)) (ed_newI ?_) (ed_newI (el_range (ev_is (ev_len (ev_var rfl) (sq_of hp5)) (by rw [xl])) (by omega)))
        have z : (rangeI (fac n)).map V.int = given xs.length (fun _ => true) (fun i => V.int (i : Int)) := by
          rw [given_all, xl]
          unfold rangeI
          rw [List.map_map]
          rfl
        rw [z]
        apply el_lcL (a := p) (xs := xs)
        · exact ev_var rfl
        · exact sq_of hp5
        · omega
        · intro x; rfl
        · intro k x H6 e6 hk
          exact fun H7 e7 Q7 q7 => q7 H7 (Ex.refl _)
        · intro k x H6 e6 hk _
          have lt := (List.getElem?_eq_some_iff.mp hk).1
          obtain ⟨d, hd, hr⟩ := (hrp5.to e6).get hk
          rw [List.getElem?_map, RK.allO_get (by omega)] at hd
          have ed := Option.some.inj hd
          subst ed
          refine ev_is (ev_num (ns := ordN n k) (ed_var rfl hr) (perm_yes (RK.ordN_perm n k) (by omega))) ?_
          rw [RK.num_ordN (by omega)]
      intro H6 e6
      have e36 := (e4.trans e5).trans e6
      have g6 := g3.ex e36
      have eC : Ex H H6 := eB.trans e36
      refine ⟨.ref g, rfl, g, 30, 1000 * i + 11, rfl, g6, by omega, by decide, by decide, fun s1 H7 s10 s11 of7 g7 => ?_⟩
      refine ⟨.ref g, rfl, g, 201, 1000 * i + 11 + 11, rfl, g7, by omega, by decide, by decide, fun s2 H8 s20 s21 of8 g8 => ?_⟩
      refine ⟨sz_of (by show 2 ≤ 100000; decide), fun l nl => ?_⟩
      have eD : Ex H H8 := Ex.off eC ng0 (of7.trans of8)
      have lg : l ≠ g := gn_ne g8 nl
      have lens : ∀ v ∈ [V.int s1, .int s2], ∃ n : Nat, n ≤ 200 ∧ v = .int n := by
        intro v hv
        simp only [List.mem_cons, List.not_mem_nil, or_false] at hv
        rcases hv with rfl | rfl
        · exact ⟨s1.toNat, by omega, by rw [Int.toNat_of_nonneg s10]⟩
        · exact ⟨s2.toNat, by omega, by rw [Int.toNat_of_nonneg s20]⟩
      generalize hx : [V.int s1, .int s2] = ys at lens
      have hl2 : ys.length = 2 := by rw [← hx]; rfl
      show ∃ p, V.ref l = .ref p ∧ _
      refine ⟨l, rfl, ⟨ys, sq_of upd_same⟩, for_list (xs := ys) (fun k σ' H' => (∃ y : Option V, σ' = [some (.ref a), some (.int i), some (.ref g), some (.int n), some (.ref p), y, x6, x7]) ∧ Ex H H' ∧
        H' l = some (.lst ys) ∧ Gn H' g (1000 * i + 33 + 2300 * k)) ?_ ?_ ?_ ?_⟩
      · exact ⟨⟨_, rfl⟩, eD.trans (Ex.new nl), upd_same, (g8.ex (Ex.new nl)).up (by omega)⟩
      · rintro k σ' H' hk ⟨_, _, hl, _⟩
        exact sq_of hl
      · rintro k x σ' H' hk ⟨⟨y2, rfl⟩, e9, hl, g9⟩
        obtain ⟨n2, hn2, rfl⟩ := lens _ (List.mem_of_getElem? hk)
        have k2 : k < 2 := by
          have := (List.getElem?_eq_some_iff.mp hk).1
          omega
        refine ⟨.ref g, rfl, .int n2, rfl, g, 1000 * i + 33 + 2300 * k, n2, rfl, g9, hn2, by omega, fun H10 of10 g10 => ⟨true, rfl, ?_⟩⟩
        refine Eq.mpr (if_neg (by decide)) ?_
        exact ⟨⟨_, rfl⟩, Ex.off e9 ng0 of10, of10 _ _ lg hl, g10.up (by push_cast; omega)⟩
      · rintro σ' H' ⟨⟨y2, rfl⟩, e9, hl, g9⟩
        exact ⟨⟨_, _, _, _, _, _, _, rfl⟩, e9⟩
    · rintro σ H1 ⟨⟨x1, x2, x3, x4, x5, x6, x7, rfl⟩, e1⟩
      apply s_ret (v := .bl true)
      · apply ev_and3
        · exact ev_own ea_nil fun H2 e2 Q2 q2 => ⟨rfl, q2⟩
        · exact ev_eqSame (a := []) (ed_newI (ns := []) (el_is (el_numd (n := 0) (N := 0) ev_c ev_c (by decide) (by decide)) rfl)) (ed_newI (ns := []) (el_lst ea_nil (by decide)))
        · refine ev_eqInt (i := ((fac 200 - 1 : Nat) : Int)) (ev_is (ev_num (ns := RK.desc 200) (ed_newI (el_is (el_range3 (K := K) (ea_cons ev_c (ea_cons (ev_neg ev_c) (ea_cons (ev_neg ev_c) ea_nil))) (by decide) (by decide +kernel) ⟨by decide +kernel, by decide +kernel, by decide⟩) desc1)) (perm_yes (RK.desc_perm 200) (by decide))) (by rw [RK.num_desc])) ?_
          refine ev_is (v := .int (((fac 200 : Nat) : Int) - 1)) (ev_op (ev_fac (n := 200) ev_c (by decide)) ev_c rv_I0) ?_
          rw [Int.ofNat_sub (RK.fac_pos 200)]
          rfl
      · intro H3 e3
        exact q H3
end
end K03



set_option Elab.async false
set_option linter.all false
set_option maxRecDepth 100000
set_option maxHeartbeats 4000000
namespace K03
open PySem PySem.Spec PyProof.Rows L2 Evl GS
theorem exm_of {K : PySem.W.Frag} {C S : Addr} (h1 : PySem.W.subIn K (.ref S) (.type "BaseException") = some true) (h2 : PySem.W.isClsIn K S = true) (h3 : PySem.W.typeIn K (.ref S) = some (.type "type"))
    (h4 : PySem.W.subIn K (.ref C) (.ref S) = some true) : PySem.W.exmOne K (.ref C) (.ref S) = some true := by
  have h2' : (PySem.W.clsIn K S).isSome = true := h2
  unfold PySem.W.exmOne PySem.W.kitCls
  simp only [h1, h2', h3, h4, BEq.rfl, Bool.and_self, if_true]
theorem kit_same {K : PySem.W.Frag} {C : Addr} : PySem.W.kitOne K (.ref C) (.ref C) = some true := by
  unfold PySem.W.kitOne
  rw [if_pos (by exact BEq.rfl)]
theorem kit_of {K : PySem.W.Frag} {t : Value} {S : Addr} {b : Bool} (h1 : (t == Value.ref S) = false) (h2 : PySem.W.isClsIn K S = true) (h3 : PySem.W.typeIn K (.ref S) = some (.type "type"))
    (h4 : PySem.W.subIn K t (.ref S) = some b) : PySem.W.kitOne K t (.ref S) = some b := by
  have h2' : (PySem.W.clsIn K S).isSome = true := h2
  unfold PySem.W.kitOne PySem.W.kitCls
  rw [h1]
  simp only [h2', h3, h4, BEq.rfl, Bool.and_self, if_true, Bool.false_eq_true, if_false]
theorem all_mk {P : Program} {w : World} {K : PySem.W.Frag} {h : Heap} {mg : Str → Option Value} {fa : Addr} (X : K.In h) (G : h.Ns mainGlobals mg) (hfa : mg "law" = some (.ref fa))
    {a_is_whole a_is_count a_is_row a_is_order a_need_order a_order_number a_order_numbered a_l_hash a_l_random a_l_cell a_l_generator a_l_order a_l_drawn_log a_l_all a_l_count a_l_long_right a_l_caught a_l_refused a_law a_GapError a_InvalidNumber a_InvalidOrder ai_InvalidNumber td_InvalidNumber ai_InvalidOrder td_InvalidOrder : Addr}
    {od_is_whole an_is_whole : Option Addr} {sl_is_whole : Array (Option Value)} {oc_is_whole kV_is_whole dc_is_whole pm_is_whole cd_is_whole ct_is_whole : Value}
    {od_is_count an_is_count : Option Addr} {sl_is_count : Array (Option Value)} {oc_is_count kV_is_count dc_is_count pm_is_count cd_is_count ct_is_count : Value}
    {od_is_row an_is_row : Option Addr} {sl_is_row : Array (Option Value)} {oc_is_row kV_is_row dc_is_row pm_is_row cd_is_row ct_is_row : Value}
    {od_is_order an_is_order : Option Addr} {sl_is_order : Array (Option Value)} {oc_is_order kV_is_order dc_is_order pm_is_order cd_is_order ct_is_order : Value}
    {od_need_order an_need_order : Option Addr} {sl_need_order : Array (Option Value)} {oc_need_order kV_need_order dc_need_order pm_need_order cd_need_order ct_need_order : Value}
    {od_order_number an_order_number : Option Addr} {sl_order_number : Array (Option Value)} {oc_order_number kV_order_number dc_order_number pm_order_number cd_order_number ct_order_number : Value}
    {od_order_numbered an_order_numbered : Option Addr} {sl_order_numbered : Array (Option Value)} {oc_order_numbered kV_order_numbered dc_order_numbered pm_order_numbered cd_order_numbered ct_order_numbered : Value}
    {od_l_hash an_l_hash : Option Addr} {sl_l_hash : Array (Option Value)} {oc_l_hash kV_l_hash dc_l_hash pm_l_hash cd_l_hash ct_l_hash : Value}
    {od_l_random an_l_random : Option Addr} {sl_l_random : Array (Option Value)} {oc_l_random kV_l_random dc_l_random pm_l_random cd_l_random ct_l_random : Value}
    {od_l_cell an_l_cell : Option Addr} {sl_l_cell : Array (Option Value)} {oc_l_cell kV_l_cell dc_l_cell pm_l_cell cd_l_cell ct_l_cell : Value}
    {od_l_generator an_l_generator : Option Addr} {sl_l_generator : Array (Option Value)} {oc_l_generator kV_l_generator dc_l_generator pm_l_generator cd_l_generator ct_l_generator : Value}
    {od_l_order an_l_order : Option Addr} {sl_l_order : Array (Option Value)} {oc_l_order kV_l_order dc_l_order pm_l_order cd_l_order ct_l_order : Value}
    {od_l_drawn_log an_l_drawn_log : Option Addr} {sl_l_drawn_log : Array (Option Value)} {oc_l_drawn_log kV_l_drawn_log dc_l_drawn_log pm_l_drawn_log cd_l_drawn_log ct_l_drawn_log : Value}
    {od_l_all an_l_all : Option Addr} {sl_l_all : Array (Option Value)} {oc_l_all kV_l_all dc_l_all pm_l_all cd_l_all ct_l_all : Value}
    {od_l_count an_l_count : Option Addr} {sl_l_count : Array (Option Value)} {oc_l_count kV_l_count dc_l_count pm_l_count cd_l_count ct_l_count : Value}
    {od_l_long_right an_l_long_right : Option Addr} {sl_l_long_right : Array (Option Value)} {oc_l_long_right kV_l_long_right dc_l_long_right pm_l_long_right cd_l_long_right ct_l_long_right : Value}
    {od_l_caught an_l_caught : Option Addr} {sl_l_caught : Array (Option Value)} {oc_l_caught kV_l_caught dc_l_caught pm_l_caught cd_l_caught ct_l_caught : Value}
    {od_l_refused an_l_refused : Option Addr} {sl_l_refused : Array (Option Value)} {oc_l_refused kV_l_refused dc_l_refused pm_l_refused cd_l_refused ct_l_refused : Value}
    {od_law an_law : Option Addr} {sl_law : Array (Option Value)} {oc_law kV_law dc_law pm_law cd_law ct_law : Value}
    {nm_InvalidNumber q_InvalidNumber : Str} {N_InvalidNumber : Addr} {bs_InvalidNumber bm_InvalidNumber : List Value} {sn_InvalidNumber : List Str} {su_InvalidNumber : List Value} {ab_InvalidNumber : Bool} {co_InvalidNumber : Option Bool} {dd_InvalidNumber : Option Addr} {x0_InvalidNumber x1_InvalidNumber x2_InvalidNumber x3_InvalidNumber x5_InvalidNumber : Option Value}
    {ot_InvalidNumber : Value} {od_InvalidNumber : Option Addr} {nt_InvalidNumber : Nat} {st_InvalidNumber : Array (Option Value)}
    {od_InvalidNumber_init an_InvalidNumber_init : Option Addr} {sl_InvalidNumber_init : Array (Option Value)} {oc_InvalidNumber_init kV_InvalidNumber_init dc_InvalidNumber_init pm_InvalidNumber_init cd_InvalidNumber_init ct_InvalidNumber_init : Value}
    {nm_InvalidOrder q_InvalidOrder : Str} {N_InvalidOrder : Addr} {bs_InvalidOrder bm_InvalidOrder : List Value} {sn_InvalidOrder : List Str} {su_InvalidOrder : List Value} {ab_InvalidOrder : Bool} {co_InvalidOrder : Option Bool} {dd_InvalidOrder : Option Addr} {x0_InvalidOrder x1_InvalidOrder x2_InvalidOrder x3_InvalidOrder x5_InvalidOrder : Option Value}
    {ot_InvalidOrder : Value} {od_InvalidOrder : Option Addr} {nt_InvalidOrder : Nat} {st_InvalidOrder : Array (Option Value)}
    {od_InvalidOrder_init an_InvalidOrder_init : Option Addr} {sl_InvalidOrder_init : Array (Option Value)} {oc_InvalidOrder_init kV_InvalidOrder_init dc_InvalidOrder_init pm_InvalidOrder_init cd_InvalidOrder_init ct_InvalidOrder_init : Value}
    {tk_LONGEST : Tok}
    (g_is_whole : PySem.W.nsIn K mainGlobals "is_whole" = some (some (.ref a_is_whole)))
    (l_is_whole : K.lookup a_is_whole = some ⟨oc_is_whole, od_is_whole, .func (PySem.W.fnOf "is_whole" "is_whole" (defArgs s_is_whole) (defBody s_is_whole) (defScope s_is_whole) .none kV_is_whole dc_is_whole pm_is_whole an_is_whole cd_is_whole ct_is_whole), sl_is_whole⟩)
    (c_is_whole : PySem.W.codeIn K cd_is_whole "is_whole" = true)
    (k_is_whole : PySem.W.keepIn K (.ref a_is_whole) = true)
    (g_is_count : PySem.W.nsIn K mainGlobals "is_count" = some (some (.ref a_is_count)))
    (l_is_count : K.lookup a_is_count = some ⟨oc_is_count, od_is_count, .func (PySem.W.fnOf "is_count" "is_count" (defArgs s_is_count) (defBody s_is_count) (defScope s_is_count) .none kV_is_count dc_is_count pm_is_count an_is_count cd_is_count ct_is_count), sl_is_count⟩)
    (c_is_count : PySem.W.codeIn K cd_is_count "is_count" = true)
    (k_is_count : PySem.W.keepIn K (.ref a_is_count) = true)
    (g_is_row : PySem.W.nsIn K mainGlobals "is_row" = some (some (.ref a_is_row)))
    (l_is_row : K.lookup a_is_row = some ⟨oc_is_row, od_is_row, .func (PySem.W.fnOf "is_row" "is_row" (defArgs s_is_row) (defBody s_is_row) (defScope s_is_row) .none kV_is_row dc_is_row pm_is_row an_is_row cd_is_row ct_is_row), sl_is_row⟩)
    (c_is_row : PySem.W.codeIn K cd_is_row "is_row" = true)
    (k_is_row : PySem.W.keepIn K (.ref a_is_row) = true)
    (g_is_order : PySem.W.nsIn K mainGlobals "is_order" = some (some (.ref a_is_order)))
    (l_is_order : K.lookup a_is_order = some ⟨oc_is_order, od_is_order, .func (PySem.W.fnOf "is_order" "is_order" (defArgs s_is_order) (defBody s_is_order) (defScope s_is_order) .none kV_is_order dc_is_order pm_is_order an_is_order cd_is_order ct_is_order), sl_is_order⟩)
    (c_is_order : PySem.W.codeIn K cd_is_order "is_order" = true)
    (k_is_order : PySem.W.keepIn K (.ref a_is_order) = true)
    (g_need_order : PySem.W.nsIn K mainGlobals "need_order" = some (some (.ref a_need_order)))
    (l_need_order : K.lookup a_need_order = some ⟨oc_need_order, od_need_order, .func (PySem.W.fnOf "need_order" "need_order" (defArgs s_need_order) (defBody s_need_order) (defScope s_need_order) .none kV_need_order dc_need_order pm_need_order an_need_order cd_need_order ct_need_order), sl_need_order⟩)
    (c_need_order : PySem.W.codeIn K cd_need_order "need_order" = true)
    (k_need_order : PySem.W.keepIn K (.ref a_need_order) = true)
    (g_order_number : PySem.W.nsIn K mainGlobals "order_number" = some (some (.ref a_order_number)))
    (l_order_number : K.lookup a_order_number = some ⟨oc_order_number, od_order_number, .func (PySem.W.fnOf "order_number" "order_number" (defArgs s_order_number) (defBody s_order_number) (defScope s_order_number) .none kV_order_number dc_order_number pm_order_number an_order_number cd_order_number ct_order_number), sl_order_number⟩)
    (c_order_number : PySem.W.codeIn K cd_order_number "order_number" = true)
    (k_order_number : PySem.W.keepIn K (.ref a_order_number) = true)
    (g_order_numbered : PySem.W.nsIn K mainGlobals "order_numbered" = some (some (.ref a_order_numbered)))
    (l_order_numbered : K.lookup a_order_numbered = some ⟨oc_order_numbered, od_order_numbered, .func (PySem.W.fnOf "order_numbered" "order_numbered" (defArgs s_order_numbered) (defBody s_order_numbered) (defScope s_order_numbered) .none kV_order_numbered dc_order_numbered pm_order_numbered an_order_numbered cd_order_numbered ct_order_numbered), sl_order_numbered⟩)
    (c_order_numbered : PySem.W.codeIn K cd_order_numbered "order_numbered" = true)
    (k_order_numbered : PySem.W.keepIn K (.ref a_order_numbered) = true)
    (g_l_hash : PySem.W.nsIn K mainGlobals "_law_hash" = some (some (.ref a_l_hash)))
    (l_l_hash : K.lookup a_l_hash = some ⟨oc_l_hash, od_l_hash, .func (PySem.W.fnOf "_law_hash" "_law_hash" (defArgs s_l_hash) (defBody s_l_hash) (defScope s_l_hash) .none kV_l_hash dc_l_hash pm_l_hash an_l_hash cd_l_hash ct_l_hash), sl_l_hash⟩)
    (c_l_hash : PySem.W.codeIn K cd_l_hash "_law_hash" = true)
    (k_l_hash : PySem.W.keepIn K (.ref a_l_hash) = true)
    (g_l_random : PySem.W.nsIn K mainGlobals "_law_random" = some (some (.ref a_l_random)))
    (l_l_random : K.lookup a_l_random = some ⟨oc_l_random, od_l_random, .func (PySem.W.fnOf "_law_random" "_law_random" (defArgs s_l_random) (defBody s_l_random) (defScope s_l_random) .none kV_l_random dc_l_random pm_l_random an_l_random cd_l_random ct_l_random), sl_l_random⟩)
    (c_l_random : PySem.W.codeIn K cd_l_random "_law_random" = true)
    (k_l_random : PySem.W.keepIn K (.ref a_l_random) = true)
    (g_l_cell : PySem.W.nsIn K mainGlobals "_law_cell" = some (some (.ref a_l_cell)))
    (l_l_cell : K.lookup a_l_cell = some ⟨oc_l_cell, od_l_cell, .func (PySem.W.fnOf "_law_cell" "_law_cell" (defArgs s_l_cell) (defBody s_l_cell) (defScope s_l_cell) .none kV_l_cell dc_l_cell pm_l_cell an_l_cell cd_l_cell ct_l_cell), sl_l_cell⟩)
    (c_l_cell : PySem.W.codeIn K cd_l_cell "_law_cell" = true)
    (k_l_cell : PySem.W.keepIn K (.ref a_l_cell) = true)
    (g_l_generator : PySem.W.nsIn K mainGlobals "_law_generator" = some (some (.ref a_l_generator)))
    (l_l_generator : K.lookup a_l_generator = some ⟨oc_l_generator, od_l_generator, .func (PySem.W.fnOf "_law_generator" "_law_generator" (defArgs s_l_generator) (defBody s_l_generator) (defScope s_l_generator) .none kV_l_generator dc_l_generator pm_l_generator an_l_generator cd_l_generator ct_l_generator), sl_l_generator⟩)
    (c_l_generator : PySem.W.codeIn K cd_l_generator "_law_generator" = true)
    (k_l_generator : PySem.W.keepIn K (.ref a_l_generator) = true)
    (g_l_order : PySem.W.nsIn K mainGlobals "_law_order" = some (some (.ref a_l_order)))
    (l_l_order : K.lookup a_l_order = some ⟨oc_l_order, od_l_order, .func (PySem.W.fnOf "_law_order" "_law_order" (defArgs s_l_order) (defBody s_l_order) (defScope s_l_order) .none kV_l_order dc_l_order pm_l_order an_l_order cd_l_order ct_l_order), sl_l_order⟩)
    (c_l_order : PySem.W.codeIn K cd_l_order "_law_order" = true)
    (k_l_order : PySem.W.keepIn K (.ref a_l_order) = true)
    (g_l_drawn_log : PySem.W.nsIn K mainGlobals "_law_drawn_log" = some (some (.ref a_l_drawn_log)))
    (l_l_drawn_log : K.lookup a_l_drawn_log = some ⟨oc_l_drawn_log, od_l_drawn_log, .func (PySem.W.fnOf "_law_drawn_log" "_law_drawn_log" (defArgs s_l_drawn_log) (defBody s_l_drawn_log) (defScope s_l_drawn_log) .none kV_l_drawn_log dc_l_drawn_log pm_l_drawn_log an_l_drawn_log cd_l_drawn_log ct_l_drawn_log), sl_l_drawn_log⟩)
    (c_l_drawn_log : PySem.W.codeIn K cd_l_drawn_log "_law_drawn_log" = true)
    (k_l_drawn_log : PySem.W.keepIn K (.ref a_l_drawn_log) = true)
    (g_l_all : PySem.W.nsIn K mainGlobals "_law_all" = some (some (.ref a_l_all)))
    (l_l_all : K.lookup a_l_all = some ⟨oc_l_all, od_l_all, .func (PySem.W.fnOf "_law_all" "_law_all" (defArgs s_l_all) (defBody s_l_all) (defScope s_l_all) .none kV_l_all dc_l_all pm_l_all an_l_all cd_l_all ct_l_all), sl_l_all⟩)
    (c_l_all : PySem.W.codeIn K cd_l_all "_law_all" = true)
    (k_l_all : PySem.W.keepIn K (.ref a_l_all) = true)
    (g_l_count : PySem.W.nsIn K mainGlobals "_law_count" = some (some (.ref a_l_count)))
    (l_l_count : K.lookup a_l_count = some ⟨oc_l_count, od_l_count, .func (PySem.W.fnOf "_law_count" "_law_count" (defArgs s_l_count) (defBody s_l_count) (defScope s_l_count) .none kV_l_count dc_l_count pm_l_count an_l_count cd_l_count ct_l_count), sl_l_count⟩)
    (c_l_count : PySem.W.codeIn K cd_l_count "_law_count" = true)
    (k_l_count : PySem.W.keepIn K (.ref a_l_count) = true)
    (g_l_long_right : PySem.W.nsIn K mainGlobals "_law_long_right" = some (some (.ref a_l_long_right)))
    (l_l_long_right : K.lookup a_l_long_right = some ⟨oc_l_long_right, od_l_long_right, .func (PySem.W.fnOf "_law_long_right" "_law_long_right" (defArgs s_l_long_right) (defBody s_l_long_right) (defScope s_l_long_right) .none kV_l_long_right dc_l_long_right pm_l_long_right an_l_long_right cd_l_long_right ct_l_long_right), sl_l_long_right⟩)
    (c_l_long_right : PySem.W.codeIn K cd_l_long_right "_law_long_right" = true)
    (k_l_long_right : PySem.W.keepIn K (.ref a_l_long_right) = true)
    (g_l_caught : PySem.W.nsIn K mainGlobals "_law_caught" = some (some (.ref a_l_caught)))
    (l_l_caught : K.lookup a_l_caught = some ⟨oc_l_caught, od_l_caught, .func (PySem.W.fnOf "_law_caught" "_law_caught" (defArgs s_l_caught) (defBody s_l_caught) (defScope s_l_caught) .none kV_l_caught dc_l_caught pm_l_caught an_l_caught cd_l_caught ct_l_caught), sl_l_caught⟩)
    (c_l_caught : PySem.W.codeIn K cd_l_caught "_law_caught" = true)
    (k_l_caught : PySem.W.keepIn K (.ref a_l_caught) = true)
    (g_l_refused : PySem.W.nsIn K mainGlobals "_law_refused" = some (some (.ref a_l_refused)))
    (l_l_refused : K.lookup a_l_refused = some ⟨oc_l_refused, od_l_refused, .func (PySem.W.fnOf "_law_refused" "_law_refused" (defArgs s_l_refused) (defBody s_l_refused) (defScope s_l_refused) .none kV_l_refused dc_l_refused pm_l_refused an_l_refused cd_l_refused ct_l_refused), sl_l_refused⟩)
    (c_l_refused : PySem.W.codeIn K cd_l_refused "_law_refused" = true)
    (k_l_refused : PySem.W.keepIn K (.ref a_l_refused) = true)
    (g_law : PySem.W.nsIn K mainGlobals "law" = some (some (.ref a_law)))
    (l_law : K.lookup a_law = some ⟨oc_law, od_law, .func (PySem.W.fnOf "law" "law" (defArgs s_law) (defBody s_law) (defScope s_law) .none kV_law dc_law pm_law an_law cd_law ct_law), sl_law⟩)
    (c_law : PySem.W.codeIn K cd_law "law" = true)
    (k_law : PySem.W.keepIn K (.ref a_law) = true)
    (g_GapError : PySem.W.nsIn K mainGlobals "GapError" = some (some (.ref a_GapError)))
    (g_InvalidNumber : PySem.W.nsIn K mainGlobals "InvalidNumber" = some (some (.ref a_InvalidNumber)))
    (g_InvalidOrder : PySem.W.nsIn K mainGlobals "InvalidOrder" = some (some (.ref a_InvalidOrder)))
    (eb_GapError : PySem.W.subIn K (.ref a_GapError) (.type "BaseException") = some true)
    (ty_GapError : PySem.W.typeIn K (.ref a_GapError) = some (.type "type"))
    (ic_GapError : PySem.W.isClsIn K a_GapError = true)
    (eb_InvalidNumber : PySem.W.subIn K (.ref a_InvalidNumber) (.type "BaseException") = some true)
    (ty_InvalidNumber : PySem.W.typeIn K (.ref a_InvalidNumber) = some (.type "type"))
    (ic_InvalidNumber : PySem.W.isClsIn K a_InvalidNumber = true)
    (eb_InvalidOrder : PySem.W.subIn K (.ref a_InvalidOrder) (.type "BaseException") = some true)
    (ty_InvalidOrder : PySem.W.typeIn K (.ref a_InvalidOrder) = some (.type "type"))
    (ic_InvalidOrder : PySem.W.isClsIn K a_InvalidOrder = true)
    (xl_InvalidNumber : K.lookup a_InvalidNumber = some (excClassObj nm_InvalidNumber q_InvalidNumber a_InvalidNumber N_InvalidNumber bs_InvalidNumber bm_InvalidNumber true sn_InvalidNumber su_InvalidNumber ab_InvalidNumber co_InvalidNumber dd_InvalidNumber x0_InvalidNumber x1_InvalidNumber x2_InvalidNumber x3_InvalidNumber x5_InvalidNumber "ValueError.__new__"))
    (xb_InvalidNumber : PySem.HandSPX.refsVE bm_InvalidNumber = true)
    (sa_InvalidNumber : PySem.W.findIn K (.ref a_InvalidNumber) "__setattr__" = some (some (.builtin "object.__setattr__")))
    (kc_InvalidNumber : PySem.W.keepIn K (.ref a_InvalidNumber) = true)
    (ga_InvalidNumber : PySem.W.findIn K (.ref a_InvalidNumber) "__getattribute__" = some (some (.builtin "BaseException.__getattribute__")))
    (gg_InvalidNumber : PySem.W.findIn K (.ref a_InvalidNumber) "__getattr__" = some none)
    (hd_InvalidNumber : PySem.W.hasDictIn K a_InvalidNumber = true)
    (ca_InvalidNumber : PySem.W.findIn K (.ref a_InvalidNumber) "__class__" = some (some (.builtin "object.__class__")))
    (mo_InvalidNumber : PySem.W.mroIn K a_InvalidNumber (.type "object") = some true)
    (nv_InvalidNumber : PySem.W.findIn K (.ref a_InvalidNumber) "value" = some none)
    (i_InvalidNumber : PySem.W.findIn K (.ref a_InvalidNumber) "__init__" = some (some (.ref ai_InvalidNumber)))
    (t_InvalidNumber : PySem.W.typeIn K (.ref ai_InvalidNumber) = some (.type "function"))
    (l_InvalidNumber_init : K.lookup ai_InvalidNumber = some ⟨oc_InvalidNumber_init, od_InvalidNumber_init, .func (PySem.W.fnOf "__init__" "InvalidNumber.__init__" (defArgs s_InvalidNumber_init) (defBody s_InvalidNumber_init) (defScope s_InvalidNumber_init) (.ref td_InvalidNumber) kV_InvalidNumber_init dc_InvalidNumber_init pm_InvalidNumber_init an_InvalidNumber_init cd_InvalidNumber_init ct_InvalidNumber_init), sl_InvalidNumber_init⟩)
    (c_InvalidNumber_init : PySem.W.codeIn K cd_InvalidNumber_init "InvalidNumber.__init__" = true)
    (ld_InvalidNumber : K.lookup td_InvalidNumber = some ⟨ot_InvalidNumber, od_InvalidNumber, .seq #[.none] nt_InvalidNumber, st_InvalidNumber⟩)
    (s_InvalidNumber_GapError : PySem.W.subIn K (.ref a_InvalidNumber) (.ref a_GapError) = some true)
    (n_InvalidNumber_InvalidOrder : PySem.W.subIn K (.ref a_InvalidNumber) (.ref a_InvalidOrder) = some false)
    (e_InvalidNumber_InvalidOrder : ((Value.ref a_InvalidNumber == Value.ref a_InvalidOrder) = false))
    (nn_InvalidNumber : PySem.W.subIn K (.type "NoneType") (.ref a_InvalidNumber) = some false)
    (xl_InvalidOrder : K.lookup a_InvalidOrder = some (excClassObj nm_InvalidOrder q_InvalidOrder a_InvalidOrder N_InvalidOrder bs_InvalidOrder bm_InvalidOrder true sn_InvalidOrder su_InvalidOrder ab_InvalidOrder co_InvalidOrder dd_InvalidOrder x0_InvalidOrder x1_InvalidOrder x2_InvalidOrder x3_InvalidOrder x5_InvalidOrder "ValueError.__new__"))
    (xb_InvalidOrder : PySem.HandSPX.refsVE bm_InvalidOrder = true)
    (sa_InvalidOrder : PySem.W.findIn K (.ref a_InvalidOrder) "__setattr__" = some (some (.builtin "object.__setattr__")))
    (kc_InvalidOrder : PySem.W.keepIn K (.ref a_InvalidOrder) = true)
    (ga_InvalidOrder : PySem.W.findIn K (.ref a_InvalidOrder) "__getattribute__" = some (some (.builtin "BaseException.__getattribute__")))
    (gg_InvalidOrder : PySem.W.findIn K (.ref a_InvalidOrder) "__getattr__" = some none)
    (hd_InvalidOrder : PySem.W.hasDictIn K a_InvalidOrder = true)
    (ca_InvalidOrder : PySem.W.findIn K (.ref a_InvalidOrder) "__class__" = some (some (.builtin "object.__class__")))
    (mo_InvalidOrder : PySem.W.mroIn K a_InvalidOrder (.type "object") = some true)
    (nv_InvalidOrder : PySem.W.findIn K (.ref a_InvalidOrder) "value" = some none)
    (i_InvalidOrder : PySem.W.findIn K (.ref a_InvalidOrder) "__init__" = some (some (.ref ai_InvalidOrder)))
    (t_InvalidOrder : PySem.W.typeIn K (.ref ai_InvalidOrder) = some (.type "function"))
    (l_InvalidOrder_init : K.lookup ai_InvalidOrder = some ⟨oc_InvalidOrder_init, od_InvalidOrder_init, .func (PySem.W.fnOf "__init__" "InvalidOrder.__init__" (defArgs s_InvalidOrder_init) (defBody s_InvalidOrder_init) (defScope s_InvalidOrder_init) (.ref td_InvalidOrder) kV_InvalidOrder_init dc_InvalidOrder_init pm_InvalidOrder_init an_InvalidOrder_init cd_InvalidOrder_init ct_InvalidOrder_init), sl_InvalidOrder_init⟩)
    (c_InvalidOrder_init : PySem.W.codeIn K cd_InvalidOrder_init "InvalidOrder.__init__" = true)
    (ld_InvalidOrder : K.lookup td_InvalidOrder = some ⟨ot_InvalidOrder, od_InvalidOrder, .seq #[.none] nt_InvalidOrder, st_InvalidOrder⟩)
    (s_InvalidOrder_GapError : PySem.W.subIn K (.ref a_InvalidOrder) (.ref a_GapError) = some true)
    (n_InvalidOrder_InvalidNumber : PySem.W.subIn K (.ref a_InvalidOrder) (.ref a_InvalidNumber) = some false)
    (e_InvalidOrder_InvalidNumber : ((Value.ref a_InvalidOrder == Value.ref a_InvalidNumber) = false))
    (nn_InvalidOrder : PySem.W.subIn K (.type "NoneType") (.ref a_InvalidOrder) = some false)
    (cg : PySem.W.specialIn K (.builtin "object.__class__") "__get__" = some (some (.builtin "getset_descriptor.__get__")))
    (ctk : PySem.W.takesIn K (.builtin "object.__class__") = some true)
    (g_LONGEST : PySem.W.nsIn K mainGlobals "LONGEST" = some (some (.int 200 tk_LONGEST)))
    (g_factorial : PySem.W.nsIn K mainGlobals "factorial" = some (some (.builtin "math.factorial")))
    (z_all : PySem.W.nsIn K mainGlobals "all" = some none)
    (z_bool : PySem.W.nsIn K mainGlobals "bool" = some none)
    (z_divmod : PySem.W.nsIn K mainGlobals "divmod" = some none)
    (z_int : PySem.W.nsIn K mainGlobals "int" = some none)
    (z_isinstance : PySem.W.nsIn K mainGlobals "isinstance" = some none)
    (z_len : PySem.W.nsIn K mainGlobals "len" = some none)
    (z_list : PySem.W.nsIn K mainGlobals "list" = some none)
    (z_max : PySem.W.nsIn K mainGlobals "max" = some none)
    (z_min : PySem.W.nsIn K mainGlobals "min" = some none)
    (z_range : PySem.W.nsIn K mainGlobals "range" = some none)
    (z_repr : PySem.W.nsIn K mainGlobals "repr" = some none)
    (z_reversed : PySem.W.nsIn K mainGlobals "reversed" = some none)
    (z_sorted : PySem.W.nsIn K mainGlobals "sorted" = some none)
    (z_sum : PySem.W.nsIn K mainGlobals "sum" = some none)
    : ∃ fd : FuncData, (∀ (s : Shared) (u : Value), BindsTo s fd ⟨[u], []⟩ [("_law_script", u)]) ∧ ∀ base : Heap, K.In base → base.Ns mainGlobals mg → FnG P w K mg base CX0 9 fa fd ["_law_script"] (spLaw K) := by
  have e := hfa.symm.trans (PySem.W.mg_of X G g_law)
  cases e
  let T : Tx K mg := {
    a_is_whole := a_is_whole, fd_is_whole := _, F_is_whole := fun_mk (st := s_is_whole) l_is_whole c_is_whole k_is_whole, g_is_whole := PySem.W.mg_of X G g_is_whole,
    b_is_whole := (fun_mk (st := s_is_whole) l_is_whole c_is_whole k_is_whole).binds fun _ _ _ _ _ _ us hl => match us, hl with | [_], _ => rfl,
    a_is_count := a_is_count, fd_is_count := _, F_is_count := fun_mk (st := s_is_count) l_is_count c_is_count k_is_count, g_is_count := PySem.W.mg_of X G g_is_count,
    b_is_count := (fun_mk (st := s_is_count) l_is_count c_is_count k_is_count).binds fun _ _ _ _ _ _ us hl => match us, hl with | [_], _ => rfl,
    a_is_row := a_is_row, fd_is_row := _, F_is_row := fun_mk (st := s_is_row) l_is_row c_is_row k_is_row, g_is_row := PySem.W.mg_of X G g_is_row,
    b_is_row := (fun_mk (st := s_is_row) l_is_row c_is_row k_is_row).binds fun _ _ _ _ _ _ us hl => match us, hl with | [_], _ => rfl,
    a_is_order := a_is_order, fd_is_order := _, F_is_order := fun_mk (st := s_is_order) l_is_order c_is_order k_is_order, g_is_order := PySem.W.mg_of X G g_is_order,
    b_is_order := (fun_mk (st := s_is_order) l_is_order c_is_order k_is_order).binds fun _ _ _ _ _ _ us hl => match us, hl with | [_], _ => rfl,
    a_need_order := a_need_order, fd_need_order := _, F_need_order := fun_mk (st := s_need_order) l_need_order c_need_order k_need_order, g_need_order := PySem.W.mg_of X G g_need_order,
    b_need_order := (fun_mk (st := s_need_order) l_need_order c_need_order k_need_order).binds fun _ _ _ _ _ _ us hl => match us, hl with | [_], _ => rfl,
    a_order_number := a_order_number, fd_order_number := _, F_order_number := fun_mk (st := s_order_number) l_order_number c_order_number k_order_number, g_order_number := PySem.W.mg_of X G g_order_number,
    b_order_number := (fun_mk (st := s_order_number) l_order_number c_order_number k_order_number).binds fun _ _ _ _ _ _ us hl => match us, hl with | [_], _ => rfl,
    a_order_numbered := a_order_numbered, fd_order_numbered := _, F_order_numbered := fun_mk (st := s_order_numbered) l_order_numbered c_order_numbered k_order_numbered, g_order_numbered := PySem.W.mg_of X G g_order_numbered,
    b_order_numbered := (fun_mk (st := s_order_numbered) l_order_numbered c_order_numbered k_order_numbered).binds fun _ _ _ _ _ _ us hl => match us, hl with | [_, _], _ => rfl,
    a_l_hash := a_l_hash, fd_l_hash := _, F_l_hash := fun_mk (st := s_l_hash) l_l_hash c_l_hash k_l_hash, g_l_hash := PySem.W.mg_of X G g_l_hash,
    b_l_hash := (fun_mk (st := s_l_hash) l_l_hash c_l_hash k_l_hash).binds fun _ _ _ _ _ _ us hl => match us, hl with | [_, _], _ => rfl,
    a_l_random := a_l_random, fd_l_random := _, F_l_random := fun_mk (st := s_l_random) l_l_random c_l_random k_l_random, g_l_random := PySem.W.mg_of X G g_l_random,
    b_l_random := (fun_mk (st := s_l_random) l_l_random c_l_random k_l_random).binds fun _ _ _ _ _ _ us hl => match us, hl with | [_, _], _ => rfl,
    a_l_cell := a_l_cell, fd_l_cell := _, F_l_cell := fun_mk (st := s_l_cell) l_l_cell c_l_cell k_l_cell, g_l_cell := PySem.W.mg_of X G g_l_cell,
    b_l_cell := (fun_mk (st := s_l_cell) l_l_cell c_l_cell k_l_cell).binds fun _ _ _ _ _ _ us hl => match us, hl with | [_, _], _ => rfl,
    a_l_generator := a_l_generator, fd_l_generator := _, F_l_generator := fun_mk (st := s_l_generator) l_l_generator c_l_generator k_l_generator, g_l_generator := PySem.W.mg_of X G g_l_generator,
    b_l_generator := (fun_mk (st := s_l_generator) l_l_generator c_l_generator k_l_generator).binds fun _ _ _ _ _ _ us hl => match us, hl with | [_, _], _ => rfl,
    a_l_order := a_l_order, fd_l_order := _, F_l_order := fun_mk (st := s_l_order) l_l_order c_l_order k_l_order, g_l_order := PySem.W.mg_of X G g_l_order,
    b_l_order := (fun_mk (st := s_l_order) l_l_order c_l_order k_l_order).binds fun _ _ _ _ _ _ us hl => match us, hl with | [_], _ => rfl,
    a_l_drawn_log := a_l_drawn_log, fd_l_drawn_log := _, F_l_drawn_log := fun_mk (st := s_l_drawn_log) l_l_drawn_log c_l_drawn_log k_l_drawn_log, g_l_drawn_log := PySem.W.mg_of X G g_l_drawn_log,
    b_l_drawn_log := (fun_mk (st := s_l_drawn_log) l_l_drawn_log c_l_drawn_log k_l_drawn_log).binds fun _ _ _ _ _ _ us hl => match us, hl with | [_, _], _ => rfl,
    a_l_all := a_l_all, fd_l_all := _, F_l_all := fun_mk (st := s_l_all) l_l_all c_l_all k_l_all, g_l_all := PySem.W.mg_of X G g_l_all,
    b_l_all := (fun_mk (st := s_l_all) l_l_all c_l_all k_l_all).binds fun _ _ _ _ _ _ us hl => match us, hl with | [_], _ => rfl,
    a_l_count := a_l_count, fd_l_count := _, F_l_count := fun_mk (st := s_l_count) l_l_count c_l_count k_l_count, g_l_count := PySem.W.mg_of X G g_l_count,
    b_l_count := (fun_mk (st := s_l_count) l_l_count c_l_count k_l_count).binds fun _ _ _ _ _ _ us hl => match us, hl with | [_], _ => rfl,
    a_l_long_right := a_l_long_right, fd_l_long_right := _, F_l_long_right := fun_mk (st := s_l_long_right) l_l_long_right c_l_long_right k_l_long_right, g_l_long_right := PySem.W.mg_of X G g_l_long_right,
    b_l_long_right := (fun_mk (st := s_l_long_right) l_l_long_right c_l_long_right k_l_long_right).binds fun _ _ _ _ _ _ us hl => match us, hl with | [_, _], _ => rfl,
    a_l_caught := a_l_caught, fd_l_caught := _, F_l_caught := fun_mk (st := s_l_caught) l_l_caught c_l_caught k_l_caught, g_l_caught := PySem.W.mg_of X G g_l_caught,
    b_l_caught := (fun_mk (st := s_l_caught) l_l_caught c_l_caught k_l_caught).binds fun _ _ _ _ _ _ us hl => match us, hl with | [_, _, _], _ => rfl,
    a_l_refused := a_l_refused, fd_l_refused := _, F_l_refused := fun_mk (st := s_l_refused) l_l_refused c_l_refused k_l_refused, g_l_refused := PySem.W.mg_of X G g_l_refused,
    b_l_refused := (fun_mk (st := s_l_refused) l_l_refused c_l_refused k_l_refused).binds fun _ _ _ _ _ _ us hl => match us, hl with | [], _ => rfl,
    a_law := fa, fd_law := _, F_law := fun_mk (st := s_law) l_law c_law k_law, g_law := PySem.W.mg_of X G g_law,
    b_law := (fun_mk (st := s_law) l_law c_law k_law).binds fun _ _ _ _ _ _ us hl => match us, hl with | [_], _ => rfl,
    a_GapError := a_GapError, g_GapError := PySem.W.mg_of X G g_GapError,
    a_InvalidNumber := a_InvalidNumber, g_InvalidNumber := PySem.W.mg_of X G g_InvalidNumber,
    a_InvalidOrder := a_InvalidOrder, g_InvalidOrder := PySem.W.mg_of X G g_InvalidOrder,
    e_InvalidNumber := ⟨ic_InvalidNumber, ga_InvalidNumber, gg_InvalidNumber, eb_InvalidNumber, hd_InvalidNumber, ca_InvalidNumber, cg, ctk, mo_InvalidNumber, nv_InvalidNumber⟩,
    x_InvalidNumber := ⟨⟨_, _, _, _, _, _, _, _, _, _, _, _, _, _, _, xl_InvalidNumber, xb_InvalidNumber⟩, sa_InvalidNumber, eb_InvalidNumber, ty_InvalidNumber, kc_InvalidNumber⟩,
    ai_InvalidNumber := ai_InvalidNumber, fdi_InvalidNumber := _, i_InvalidNumber := i_InvalidNumber, t_InvalidNumber := t_InvalidNumber, Fi_InvalidNumber := (FunV.mk ⟨_, _, _, _, _, _, _, _, _, _, rfl, l_InvalidNumber_init, c_InvalidNumber_init⟩ : FunV K "__init__" "InvalidNumber.__init__" s_InvalidNumber_init ai_InvalidNumber _), bi_InvalidNumber := fun _ us X hl => match us, hl with | [_, _], _ => PySem.W.binds_K X rfl ld_InvalidNumber rfl rfl rfl,
    nv_InvalidNumber := nv_InvalidNumber,
    m_InvalidNumber_GapError := exm_of eb_GapError ic_GapError ty_GapError s_InvalidNumber_GapError,
    k_InvalidNumber_InvalidNumber := kit_same,
    k_InvalidNumber_InvalidOrder := kit_of e_InvalidNumber_InvalidOrder ic_InvalidOrder ty_InvalidOrder n_InvalidNumber_InvalidOrder,
    kn_InvalidNumber := kit_of rfl ic_InvalidNumber ty_InvalidNumber nn_InvalidNumber,
    e_InvalidOrder := ⟨ic_InvalidOrder, ga_InvalidOrder, gg_InvalidOrder, eb_InvalidOrder, hd_InvalidOrder, ca_InvalidOrder, cg, ctk, mo_InvalidOrder, nv_InvalidOrder⟩,
    x_InvalidOrder := ⟨⟨_, _, _, _, _, _, _, _, _, _, _, _, _, _, _, xl_InvalidOrder, xb_InvalidOrder⟩, sa_InvalidOrder, eb_InvalidOrder, ty_InvalidOrder, kc_InvalidOrder⟩,
    ai_InvalidOrder := ai_InvalidOrder, fdi_InvalidOrder := _, i_InvalidOrder := i_InvalidOrder, t_InvalidOrder := t_InvalidOrder, Fi_InvalidOrder := (FunV.mk ⟨_, _, _, _, _, _, _, _, _, _, rfl, l_InvalidOrder_init, c_InvalidOrder_init⟩ : FunV K "__init__" "InvalidOrder.__init__" s_InvalidOrder_init ai_InvalidOrder _), bi_InvalidOrder := fun _ us X hl => match us, hl with | [_, _], _ => PySem.W.binds_K X rfl ld_InvalidOrder rfl rfl rfl,
    nv_InvalidOrder := nv_InvalidOrder,
    m_InvalidOrder_GapError := exm_of eb_GapError ic_GapError ty_GapError s_InvalidOrder_GapError,
    k_InvalidOrder_InvalidNumber := kit_of e_InvalidOrder_InvalidNumber ic_InvalidNumber ty_InvalidNumber n_InvalidOrder_InvalidNumber,
    k_InvalidOrder_InvalidOrder := kit_same,
    kn_InvalidOrder := kit_of rfl ic_InvalidOrder ty_InvalidOrder nn_InvalidOrder,
    g_LONGEST := ⟨_, PySem.W.mg_of X G g_LONGEST⟩,
    g_factorial := PySem.W.mg_of X G g_factorial,
    m_all := PySem.W.mg_none_of X G z_all,
    m_bool := PySem.W.mg_none_of X G z_bool,
    m_divmod := PySem.W.mg_none_of X G z_divmod,
    m_int := PySem.W.mg_none_of X G z_int,
    m_isinstance := PySem.W.mg_none_of X G z_isinstance,
    m_len := PySem.W.mg_none_of X G z_len,
    m_list := PySem.W.mg_none_of X G z_list,
    m_max := PySem.W.mg_none_of X G z_max,
    m_min := PySem.W.mg_none_of X G z_min,
    m_range := PySem.W.mg_none_of X G z_range,
    m_repr := PySem.W.mg_none_of X G z_repr,
    m_reversed := PySem.W.mg_none_of X G z_reversed,
    m_sorted := PySem.W.mg_none_of X G z_sorted,
    m_sum := PySem.W.mg_none_of X G z_sum
  }
  exact ⟨T.fd_law, fun s v => .of_eq rfl, fun base _ _ => ok_law T⟩
end K03


set_option Elab.async false
set_option linter.all false
open PySem PySem.W PyProof.Rows
set_option maxRecDepth 100000 in
set_option maxHeartbeats 0 in
theorem PySem.Challenge.cw_gapswaps_k03_whole_all_orders_numbered_holds : PySem.Challenge.rw_gapswaps_k03_whole_all_orders_numbered.Holds := by
  w_on; o_law; k_head; (case hw => w_witness2)
  k_fill
  refine GS.walk_ofG (l := PySem.Challenge.rw_gapswaps_k03_whole_all_orders_numbered) (n := 63) (k := 9) (x := "_law_script") (sp := fun w => K03.spLaw _) rfl (by decide) rfl ⟨rfl, by decide, by decide⟩ (fun w h Y => PySem.W.kIn_of Y) ?F (fun _ _ a ns hl _ hS => ⟨a, ns, rfl, hS, fun _ => rfl⟩)
  case F =>
    intro w mg fa h KX G hmg
    refine' K03.all_mk KX G hmg ?g_is_whole ?l_is_whole ?c_is_whole ?k_is_whole ?g_is_count ?l_is_count ?c_is_count ?k_is_count ?g_is_row ?l_is_row ?c_is_row ?k_is_row ?g_is_order ?l_is_order ?c_is_order ?k_is_order ?g_need_order ?l_need_order ?c_need_order ?k_need_order ?g_order_number ?l_order_number ?c_order_number ?k_order_number ?g_order_numbered ?l_order_numbered ?c_order_numbered ?k_order_numbered ?g_l_hash ?l_l_hash ?c_l_hash ?k_l_hash ?g_l_random ?l_l_random ?c_l_random ?k_l_random ?g_l_cell ?l_l_cell ?c_l_cell ?k_l_cell ?g_l_generator ?l_l_generator ?c_l_generator ?k_l_generator ?g_l_order ?l_l_order ?c_l_order ?k_l_order ?g_l_drawn_log ?l_l_drawn_log ?c_l_drawn_log ?k_l_drawn_log ?g_l_all ?l_l_all ?c_l_all ?k_l_all ?g_l_count ?l_l_count ?c_l_count ?k_l_count ?g_l_long_right ?l_l_long_right ?c_l_long_right ?k_l_long_right ?g_l_caught ?l_l_caught ?c_l_caught ?k_l_caught ?g_l_refused ?l_l_refused ?c_l_refused ?k_l_refused ?g_law ?l_law ?c_law ?k_law ?g_GapError ?g_InvalidNumber ?g_InvalidOrder ?eb_GapError ?ty_GapError ?ic_GapError ?eb_InvalidNumber ?ty_InvalidNumber ?ic_InvalidNumber ?eb_InvalidOrder ?ty_InvalidOrder ?ic_InvalidOrder ?xl_InvalidNumber ?xb_InvalidNumber ?sa_InvalidNumber ?kc_InvalidNumber ?ga_InvalidNumber ?gg_InvalidNumber ?hd_InvalidNumber ?ca_InvalidNumber ?mo_InvalidNumber ?nv_InvalidNumber ?i_InvalidNumber ?t_InvalidNumber ?l_InvalidNumber_init ?c_InvalidNumber_init ?ld_InvalidNumber ?s_InvalidNumber_GapError ?n_InvalidNumber_InvalidOrder ?e_InvalidNumber_InvalidOrder ?nn_InvalidNumber ?xl_InvalidOrder ?xb_InvalidOrder ?sa_InvalidOrder ?kc_InvalidOrder ?ga_InvalidOrder ?gg_InvalidOrder ?hd_InvalidOrder ?ca_InvalidOrder ?mo_InvalidOrder ?nv_InvalidOrder ?i_InvalidOrder ?t_InvalidOrder ?l_InvalidOrder_init ?c_InvalidOrder_init ?ld_InvalidOrder ?s_InvalidOrder_GapError ?n_InvalidOrder_InvalidNumber ?e_InvalidOrder_InvalidNumber ?nn_InvalidOrder ?cg ?ctk ?g_LONGEST ?g_factorial ?z_all ?z_bool ?z_divmod ?z_int ?z_isinstance ?z_len ?z_list ?z_max ?z_min ?z_range ?z_repr ?z_reversed ?z_sorted ?z_sum
    (case g_is_whole => k_is)
    (case l_is_whole => k_is)
    (case c_is_whole => k_is)
    (case k_is_whole => k_is)
    (case g_is_count => k_is)
    (case l_is_count => k_is)
    (case c_is_count => k_is)
    (case k_is_count => k_is)
    (case g_is_row => k_is)
    (case l_is_row => k_is)
    (case c_is_row => k_is)
    (case k_is_row => k_is)
    (case g_is_order => k_is)
    (case l_is_order => k_is)
    (case c_is_order => k_is)
    (case k_is_order => k_is)
    (case g_need_order => k_is)
    (case l_need_order => k_is)
    (case c_need_order => k_is)
    (case k_need_order => k_is)
    (case g_order_number => k_is)
    (case l_order_number => k_is)
    (case c_order_number => k_is)
    (case k_order_number => k_is)
    (case g_order_numbered => k_is)
    (case l_order_numbered => k_is)
    (case c_order_numbered => k_is)
    (case k_order_numbered => k_is)
    (case g_l_hash => k_is)
    (case l_l_hash => k_is)
    (case c_l_hash => k_is)
    (case k_l_hash => k_is)
    (case g_l_random => k_is)
    (case l_l_random => k_is)
    (case c_l_random => k_is)
    (case k_l_random => k_is)
    (case g_l_cell => k_is)
    (case l_l_cell => k_is)
    (case c_l_cell => k_is)
    (case k_l_cell => k_is)
    (case g_l_generator => k_is)
    (case l_l_generator => k_is)
    (case c_l_generator => k_is)
    (case k_l_generator => k_is)
    (case g_l_order => k_is)
    (case l_l_order => k_is)
    (case c_l_order => k_is)
    (case k_l_order => k_is)
    (case g_l_drawn_log => k_is)
    (case l_l_drawn_log => k_is)
    (case c_l_drawn_log => k_is)
    (case k_l_drawn_log => k_is)
    (case g_l_all => k_is)
    (case l_l_all => k_is)
    (case c_l_all => k_is)
    (case k_l_all => k_is)
    (case g_l_count => k_is)
    (case l_l_count => k_is)
    (case c_l_count => k_is)
    (case k_l_count => k_is)
    (case g_l_long_right => k_is)
    (case l_l_long_right => k_is)
    (case c_l_long_right => k_is)
    (case k_l_long_right => k_is)
    (case g_l_caught => k_is)
    (case l_l_caught => k_is)
    (case c_l_caught => k_is)
    (case k_l_caught => k_is)
    (case g_l_refused => k_is)
    (case l_l_refused => k_is)
    (case c_l_refused => k_is)
    (case k_l_refused => k_is)
    (case g_law => k_is)
    (case l_law => k_is)
    (case c_law => k_is)
    (case k_law => k_is)
    (case g_GapError => k_is)
    (case g_InvalidNumber => k_is)
    (case g_InvalidOrder => k_is)
    (case eb_GapError => k_is)
    (case ty_GapError => k_is)
    (case ic_GapError => k_is)
    (case eb_InvalidNumber => k_is)
    (case ty_InvalidNumber => k_is)
    (case ic_InvalidNumber => k_is)
    (case eb_InvalidOrder => k_is)
    (case ty_InvalidOrder => k_is)
    (case ic_InvalidOrder => k_is)
    (case xl_InvalidNumber => k_is)
    (case xb_InvalidNumber => first | rfl | decide +kernel)
    (case sa_InvalidNumber => k_is)
    (case kc_InvalidNumber => k_is)
    (case ga_InvalidNumber => k_is)
    (case gg_InvalidNumber => k_is)
    (case hd_InvalidNumber => k_is)
    (case ca_InvalidNumber => k_is)
    (case mo_InvalidNumber => k_is)
    (case nv_InvalidNumber => k_is)
    (case i_InvalidNumber => k_is)
    (case t_InvalidNumber => k_is)
    (case l_InvalidNumber_init => k_is)
    (case c_InvalidNumber_init => k_is)
    (case ld_InvalidNumber => k_is)
    (case s_InvalidNumber_GapError => first | rfl | k_is)
    (case n_InvalidNumber_InvalidOrder => k_is)
    (case e_InvalidNumber_InvalidOrder => first | rfl | decide +kernel)
    (case nn_InvalidNumber => k_is)
    (case xl_InvalidOrder => k_is)
    (case xb_InvalidOrder => first | rfl | decide +kernel)
    (case sa_InvalidOrder => k_is)
    (case kc_InvalidOrder => k_is)
    (case ga_InvalidOrder => k_is)
    (case gg_InvalidOrder => k_is)
    (case hd_InvalidOrder => k_is)
    (case ca_InvalidOrder => k_is)
    (case mo_InvalidOrder => k_is)
    (case nv_InvalidOrder => k_is)
    (case i_InvalidOrder => k_is)
    (case t_InvalidOrder => k_is)
    (case l_InvalidOrder_init => k_is)
    (case c_InvalidOrder_init => k_is)
    (case ld_InvalidOrder => k_is)
    (case s_InvalidOrder_GapError => first | rfl | k_is)
    (case n_InvalidOrder_InvalidNumber => k_is)
    (case e_InvalidOrder_InvalidNumber => first | rfl | decide +kernel)
    (case nn_InvalidOrder => k_is)
    (case cg => k_is)
    (case ctk => k_is)
    (case g_LONGEST => k_is)
    (case g_factorial => k_is)
    (case z_all => k_is)
    (case z_bool => k_is)
    (case z_divmod => k_is)
    (case z_int => k_is)
    (case z_isinstance => k_is)
    (case z_len => k_is)
    (case z_list => k_is)
    (case z_max => k_is)
    (case z_min => k_is)
    (case z_range => k_is)
    (case z_repr => k_is)
    (case z_reversed => k_is)
    (case z_sorted => k_is)
    (case z_sum => k_is)

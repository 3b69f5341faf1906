import PyProof.Rows.All
import Wide.All
import OpenK.AllK
import Wide.FinOn
import HandS.ForMost
import HandS.ForExc
import HandS.Evl
import HandS.IsInst
import HandS.ExcInit
import HandS.ExcIs
import HandS.ExcField
import HandS.TryOnly
import HandS.WideBits
import HandS.SortInts
import HandS.Conv
import HandS.Deep
import HandS.Defaults
import PyProof.ReprRoads
import KE.KExcIs
import KE.IntBitsLaws
import KE.KSortedM
import HandS.DictComp
import KE.KMathGC
import KE.SortData
import HandS.Gcd
import HandS.Iter
import HandS.SetFor
import PyProof.Rows.Range3
import HandS.SlotsOwn
import HandS.MakeKw
import HandS.MakeKwOnly
import OpenK.KMeth
import HandS.Codes
import HandS.More
import HandS.Style
import PySem.Challenge.RW_gapswaps_k05_whole_deeds_of_orders_and_r
set_option Elab.async false
set_option linter.all false
set_option maxRecDepth 100000
set_option maxHeartbeats 4000000
namespace GS
open PySem PySem.Spec PyProof.Rows L2 Evl

/-! defs that are called where nothing is being shown -/
structure FnG (P : Program) (w : World) (K : PySem.W.Frag) (mg : Str → Option Value) (base : Heap)
    (CX : CXT) (k : Nat) (f : Addr) (fd : FuncData) (ps : List Str) (sp : Sp) : Prop where
  ar : ∀ vs H Q E, sp vs H Q E → vs.length = ps.length
  go : ∀ (A : Around) (outer : List Env) (s : Shared) (H : Hp) (args : Args)
      (us : List Value) (vs : List V) (Q : VK) (E : XK),
    Room k A → A.guards = some [] → Env0 P w K mg base A outer s H →
    BindsTo s fd args (ps.zip us) → Vals vs us → sp vs H Q E →
    codeAny (model P w) A (.call (.ref f) args) (CR CX outer P w H s Q E) s

theorem FnG.of {P w K mg base CX k f fd ps sp} (F : FnOk P w K mg base CX k f fd ps sp) :
    FnG P w K mg base CX k f fd ps sp :=
  ⟨F.len, fun A outer s H args us vs Q E h1 _ h2 h3 h4 h5 =>
    F.run A outer s H args us vs Q E h1 h2 h3 h4 h5⟩
theorem FnG.mono {P w K mg base CX j k f fd ps sp} (F : FnG P w K mg base CX j f fd ps sp) (h : j ≤ k) :
    FnG P w K mg base CX k f fd ps sp :=
  ⟨F.ar, fun A outer s H args us vs Q E h1 => F.go A outer s H args us vs Q E (h1.mono h)⟩

section
variable {X : Cx} {CX : CXT} {k : Nat} {f : Addr} {fd : FuncData} {ps : List Str} {sp : Sp}
  {dvs : List V} {ds : List Value} {E : XK} {x : Str} {p pos : Pos} {e : Expr} {es : List Expr} {t : TA}

theorem run_g {pins : List (Addr × Obj)} {σ : L2.St} {H : Hp} {s : Shared} {Q : VK}
    {us : List Value} {vs : List V}
    (F : FnG X.prog X.w X.K X.mg X.base CX k f fd ps sp) (hr : Room k X.A) (hq : X.A.guards = some [])
    (hb : Binds X.K fd ps ds) (hd : Vals dvs ds) (hx : Passes CX X E)
    (I : Inv X pins σ H s) (r : Vals vs us) (h : sp (vs ++ dvs) H Q E) :
    wpAny (model X.prog X.w) X.A (call (.ref f) us) (EP X pins σ Q) X.xe s := by
  have rr : Vals (vs ++ dvs) (us ++ ds) := r.append hd
  have el : (us ++ ds).length = ps.length := rr.length.symm.trans (F.ar _ _ _ _ h)
  have z := F.go X.A X.stack s H ⟨us, []⟩ (us ++ ds) (vs ++ dvs) Q E hr hq I.env0
    (hb s us I.kIn el) rr h
  refine wpAny_call (codeAny_mono z fun res s2 q => ?_)
  match res, q with
  | .error err, q => exact hx pins σ H s err s2 I q
  | .ok (.ret u), q => exact I.after q
  | .ok .next, q => exact q.elim
  | .ok .brk, q => exact q.elim
  | .ok .cont, q => exact q.elim

theorem pe_callG (F : FnG X.prog X.w X.K X.mg X.base CX k f fd ps sp) (hr : Room k X.A)
    (hq : X.A.guards = some []) (hg : Gl X x) (hm : X.mg x = some (.ref f))
    (hk : PySem.W.keepIn X.K (.ref f) = true) (hb : Binds X.K fd ps ds) (hd : Vals dvs ds)
    (hx : Passes CX X E) (ha : PA X (e :: es) t)
    (hdb : (x == ("__debug__" : Str)) = false := by decide)
    (hs : starEach (e :: es) X.env = (false, eval e X.env) :: starEach es X.env := by rfl)
    (hpl : (backTo pos (starEach es X.env)).any (·.1) = false := by rfl) :
    PE X (.Call (.Name x p) (e :: es) [] pos) (tCall sp dvs E t) :=
  ⟨fun pins s σ H Q I h => wpAny_Call_Name_kw (ld_glob I hg hm
    (PySem.W.callWith_K (h₀ := X.base) I.ok.mod.kin hk
      (thn (ha.run pos pins s σ H _ I h) fun us s1 ⟨vs, H1, I1, r, q⟩ =>
        ⟨I1.kIn, run_g F hr hq hb hd hx I1 r q⟩) hs hpl) hdb)⟩
theorem pe_callG0 (F : FnG X.prog X.w X.K X.mg X.base CX k f fd ps sp) (hr : Room k X.A)
    (hq : X.A.guards = some []) (hg : Gl X x) (hm : X.mg x = some (.ref f))
    (hk : PySem.W.keepIn X.K (.ref f) = true) (hb : Binds X.K fd ps ds) (hd : Vals dvs ds)
    (hx : Passes CX X E) (hdb : (x == ("__debug__" : Str)) = false := by decide) :
    PE X (.Call (.Name x p) [] [] pos) (tCall sp dvs E tNil) :=
  ⟨fun pins s σ H Q I h => wpAny_Call_Name_kw (ld_glob I hg hm
    (PySem.W.callWith_K0 I.kIn hk (run_g (us := []) F hr hq hb hd hx I .nil h)) hdb)⟩
end

theorem fn_ofG {CX : CXT} {P : Program} {w : World} {K : PySem.W.Frag} {mg : Str → Option Value}
    {base : Heap} {k : Nat} {f : Addr} {name qual : Str} {params : Arguments} {body : List Stmt}
    {scope : Scope} {dV kV doc pm cdv ct oc : Value} {an od : Option Addr}
    {osl : Array (Option Value)} {N ps : List Str} {sp : Sp}
    (lk : K.lookup f = some ⟨oc, od,
      .func (PySem.W.fnOf name qual params body scope dV kV doc pm an cdv ct), osl⟩)
    (hcd : PySem.W.codeIn K cdv qual = true) (S : FnScope N ps scope)
    (len : ∀ vs H Q E, sp vs H Q E → vs.length = ps.length)
    (hbody : ∀ (A : Around) (outer : List Env) (s : Shared) (H : Hp) (vs : List V) (Q : VK) (E : XK),
      Room k (A.deeper (envOfC qual scope s.heap.objs.size f cdv)) → A.guards = some [] →
      sp vs H Q E →
      ∃ t, PSs (cxOf CX P w K mg base N qual scope f cdv A outer s H E) body t ∧
        t { nx := fun _ H' => Q .non H', rt := Q } (start N vs) H) :
    FnG P w K mg base CX (k + 1) f
      (PySem.W.fnOf name qual params body scope dV kV doc pm an cdv ct) ps sp := by
  constructor
  · exact len
  intro A outer s H args us vs Q E hr hq e0 hb r hsp
  have el := len _ _ _ _ hsp
  have inK : K.In s.heap := e0.mod.kin.keeps fun b o z => (e0.bs b o z).1
  have nl : s.heap.NoLimit := e0.mod.nolimit.keeps fun b o z => (e0.bs b o z).1
  refine codeAny_call_function hr.depth (inK _ _ lk) rfl S.co S.gen rfl
    (PySem.W.codeRec_of inK hcd) (hb _ _ _ _ ?_)
  refine wpAny_newFunctionEnv_cells S.kind (fun y hy => ?_) fun env he s1 x => ?_
  · rcases S.par y.1 (List.of_mem_zip (a := y.1) (b := y.2) hy).1 with q | q
    · exact .inl q
    · exact .inr ⟨q, PySem.W.cellsFrom_some _ _ _ (.inl q)⟩
  subst he
  refine ⟨nl.keeps x.toInCall.keep, codeAny_func ?_⟩
  obtain ⟨t, ht, hz⟩ := hbody A outer s H vs Q E (hr.deeper _) hq hsp
  have I : Inv (cxOf CX P w K mg base N qual scope f cdv A outer s H E) [] (start N vs) H s1 :=
    inv_start S hr.hd e0 el r x
  refine wpAny_mono (ht.run [] s1 (start N vs) H _ I hz) ?_ fun _ _ z => z
  intro fl s2 z
  match fl, z with
  | .ret u, ⟨v, σ2, H2, J, rv, q⟩ => exact ⟨v, H2, J.os, J.bare, J.base, J.hok, rv, q⟩
  | .next, ⟨σ2, H2, J, q⟩ => exact ⟨.non, H2, J.os, J.bare, J.base, J.hok, rfl, q⟩
  | .brk, ⟨_, _, _, q⟩ => exact q.elim
  | .cont, ⟨_, _, _, q⟩ => exact q.elim

section
variable {P : Program} {w : World} {K : PySem.W.Frag} {mg : Str → Option Value} {base : Heap}
/-- a def that lets no error out -/
theorem fun_g {x qual : Str} {st : Stmt} {f : Addr} {fd : FuncData} {N ps : List Str} {k : Nat}
    {sp : Sp} (F : Fun K x qual st f fd) (S : FnScope N ps (defScope st))
    (len : ∀ vs H Q E, sp vs H Q E → vs.length = ps.length)
    (hb : ∀ (cdv : Value) (A : Around) (outer : List Env) (s : Shared) (H : Hp) (vs : List V) (Q : VK) (E : XK),
      Room k (A.deeper (envOfC qual (defScope st) s.heap.objs.size f cdv)) → A.guards = some [] → sp vs H Q E →
      ∃ t, PSs (cxOf CX0 P w K mg base N qual (defScope st) f cdv A outer s H E).nox (defBody st) t ∧
        t { nx := fun _ H' => Q .non H', rt := Q } (start N vs) H) :
    FnG P w K mg base CX0 (k + 1) f fd ps sp := by
  obtain ⟨oc, od, kV, doc, pm, an, cdv, ct, osl, rfl, lk, hcd⟩ := F.ex
  refine fn_ofG lk hcd S len fun A outer s H vs Q E hr hq hsp => ?_
  obtain ⟨t, h, q⟩ := hb cdv A outer s H vs Q E hr hq hsp
  exact ⟨t, h.nox, q⟩
end

/-! the end over such a law -/
theorem law_callG {P : Program} {w : World} {K : PySem.W.Frag} {mg mb : Str → Option Value} {k : Nat}
    {fa a : Addr} {fd : FuncData} {x : Str} {sp : Sp} {s1 : Shared} {vs : List Value} {ns : List Int}
    (KX : K.In s1.heap) (hns : s1.heap.Ns mainGlobals mg) (hb : s1.heap.Ns builtinsNs mb)
    (hbb : ∀ x : Str, x ≠ "__name__" → mb x = bootBuiltins x) (hlim : s1.heap.NoLimit)
    (hg : s1.gens = #[]) (ha : s1.heap.get? a = some { cls := .type "list", data := .seq vs.toArray })
    (hi : IntsAre vs ns) (hl : ns.length ≤ sizeLine) (hr : Room k callerA)
    (F : ∀ base : Heap, K.In base → base.Ns mainGlobals mg → FnG P w K mg base CX0 k fa fd [x] sp)
    (hbind : ∀ (s : Shared) (u : Value), BindsTo s fd ⟨[u], []⟩ [(x, u)])
    (hsp : ∀ H : Hp, Only H → SqL K H a (ns.map V.int) → sp [.ref a] H (fun v _ => v = .bl true) fun _ _ _ => False) :
    codeAny (model P w) callerA (.call (.ref fa) ⟨[.ref a], []⟩)
      (fun r s2 => r = .ok (.ret (.bool true)) ∧ OldK s1.heap s2.heap ∧ s2.os = s1.os ∧ AllBare s2.gens) s1 := by
  have rv := vals_ints hi
  have lv := hi.length
  -- over any picture of the heap that knows the script alone
  have main : ∀ H : Hp, Only H → SqL K H a (ns.map V.int) → HOk P w H s1.heap → (∀ b, H b ≠ none → b = a) →
      (H a ≠ none → K.lookup a = none) → codeAny (model P w) callerA (.call (.ref fa) ⟨[.ref a], []⟩)
        (fun r s2 => r = .ok (.ret (.bool true)) ∧ OldK s1.heap s2.heap ∧ s2.os = s1.os ∧ AllBare s2.gens) s1 := by
    intro H hO hS hok hA hK
    have isA : ∀ {b : Addr} {u : HO}, H b = some u → b = a := fun q => hA _ (by rw [q]; simp)
    have offD : ∀ {b : Addr} {o : Obj} {es : Array DictEntry} {ep : Nat}, s1.heap.get? b = some o →
        o.data = .dict es ep → H b = none := by
      intro b o es ep e d
      cases q : H b with
      | none => rfl
      | some u =>
        obtain rfl := isA q
        rw [ha] at e
        cases e
        have d2 : Data.seq vs.toArray _ = Data.dict es ep := d
        cases d2
    have nsH : ∀ {b : Addr} {m : Str → Option Value}, s1.heap.Ns b m → (hidT s1.heap H).Ns b m := by
      rintro b m ⟨o, es, ep, e, d, r⟩
      exact ⟨o, es, ep, hidT_get e (offD e d), d, r⟩
    have kB : K.In (hidT s1.heap H) := by
      intro b o e
      refine hidT_get (KX b o e) ?_
      cases q : H b with
      | none => rfl
      | some u =>
        obtain rfl := isA q
        rw [hK (by rw [q]; simp)] at e
        cases e
    obtain ⟨mc, l1, l2⟩ := hlim
    have hM : Mod K mg (hidT s1.heap H) := ⟨kB, nsH hns, ⟨mb, nsH hb, hbb⟩, ⟨mc, nsH l1, l2⟩⟩
    have e0 : Env0 P w K mg (hidT s1.heap H) callerA [] s1 H :=
      { frames := rfl, mod := hM, bs := fun b o e => of_hidT e, bsz := Nat.le_of_eq (hidT_size _ _),
        funs := trivial, frf := (fun b z => nomatch z), hok := hok, bare := .of_eq hg }
    have z := (F _ kB (nsH hns)).go callerA [] s1 H ⟨[.ref a], []⟩ [.ref a] [.ref a] _ _ hr rfl e0
      (hbind s1 (.ref a)) (.cons rfl .nil) (hsp H hO hS)
    refine codeAny_mono z fun r s2 h => ?_
    match r, h with
    | .error e, h => exact h.elim
    | .ok .next, h => exact h.elim
    | .ok .brk, h => exact h.elim
    | .ok .cont, h => exact h.elim
    | .ok (.ret u), ⟨v, H2, os, bare, un, hok2, rr, q⟩ =>
      have q2 : v = .bl true := q
      subst q2
      obtain rfl : u = Value.bool true := rr
      refine ⟨rfl, OldK.of_keep fun b o e => ?_, os, bare⟩
      rcases hO b with n | ⟨ob, xs, n⟩
      · exact un.keep b o e n (fun z => nomatch z) (fun z => nomatch z)
      · have n2 := un.frzs b ob _ n
        obtain ⟨e1, _⟩ := hok b _ n
        obtain ⟨e2, _⟩ := hok2 b _ n2
        rw [e] at e1
        cases e1
        exact e2
  have hlv : vs.length = ns.length := lv
  cases hk : K.lookup a with
  | some o =>
    have e := KX a o hk
    rw [ha] at e
    cases e
    refine main (fun _ => none) (fun _ => .inl rfl) (.inr ⟨_, vs.toArray, _, hk, rfl, rfl, rfl, ?_, ?_⟩)
      (fun b u z => ?_) (fun b z => absurd rfl z) (fun z => absurd rfl z)
    · rw [List.size_toArray, hlv]; exact hl
    · simpa using rv
    · exact nomatch (show (none : Option HO) = some u from z)
  | none =>
    have yes : ∀ {b : Addr} {o : HO}, b = a → (fun b => if b = a then some o else none : Hp) b = some o := fun e => if_pos e
    have no : ∀ {b : Addr} {o : HO}, b ≠ a → (fun b => if b = a then some o else none : Hp) b = none := fun e => if_neg e
    refine main (fun b => if b = a then some (.frz { cls := .type "list", data := .seq vs.toArray } (.lst (ns.map V.int))) else none)
      (fun b => ?_) (.inl (.inr ⟨_, yes rfl⟩)) (fun b u z => ?_) (fun b z => ?_) fun _ => hk
    · by_cases hb2 : b = a
      · exact .inr ⟨_, _, yes hb2⟩
      · exact .inl (no hb2)
    · by_cases hb2 : b = a
      · have z2 := (yes hb2).symm.trans z
        cases z2
        subst hb2
        exact ⟨ha, by rw [List.length_map]; exact hl, vs, _, rv, ha⟩
      · exact nomatch (no hb2).symm.trans z
    · by_cases hb2 : b = a
      · exact hb2
      · exact absurd (no hb2) z

theorem walk_ofG {l : PySem.W.OpenLaw} {n k : Nat} {q : Program} {loose : List Str}
    {XP : (Str → Option Value) → Heap → Prop} {YP : World → Heap → Prop} {d : DefRec}
    {K : Params → PySem.W.Frag} {sp : World → Sp} {x : Str}
    (hn : l.most = some n) (hn2 : n ≤ sizeLine) (hdf : d.params.defaults = []) (hr : Room k callerA)
    (hY : ∀ (w : World) (h : Heap), YP w h → (K w.params).In h)
    (F : ∀ (w : World) (mg : Str → Option Value) (fa : Addr) (h : Heap), (K w.params).In h →
      h.Ns mainGlobals mg → mg d.name = some (.ref fa) →
      ∃ fd : FuncData, (∀ (s : Shared) (u : Value), BindsTo s fd ⟨[u], []⟩ [(x, u)]) ∧
        ∀ base : Heap, (K w.params).In base → base.Ns mainGlobals mg →
          FnG l.prog w (K w.params) mg base CX0 k fa fd [x] (sp w))
    (hsp : ∀ (w : World) (H : Hp) (a : Addr) (ns : List Int), ns.length ≤ n → Only H →
      SqL (K w.params) H a (ns.map V.int) → sp w [.ref a] H (fun v _ => v = .bl true) fun _ _ _ => False) :
    PySem.W.WalkO q loose XP YP l.row.toRowW d [] (fun f vs => PySem.call f vs) :=
  Att.attach_call hn hdf fun w s0 s1 mg mb fa o pm cd doc a vs ns G Y ho hd hcd hmg hobj hints hlen hg => by
    have KX := hY w _ Y
    obtain ⟨fd, hb, hF⟩ := F w mg fa _ KX G.T.g hmg
    exact law_callG KX G.T.g G.T.b G.T.builtins G.T.nolimit hg hobj hints (Nat.le_trans hlen hn2) hr hF hb
      fun H hO hS => hsp w H a ns hlen hO hS
end GS


set_option Elab.async false
set_option linter.all false
set_option maxRecDepth 100000
set_option maxHeartbeats 4000000
namespace GS
open PySem PySem.Spec PyProof.Rows L2 Evl

/-! an error that stays held behind its except clause -/
def exK (a : Addr) (cls : Value) (d : Option Addr) : HO :=
  .ext fun h => ∃ o vs, h.get? a = some o ∧ o.cls = cls ∧ o.dict = d ∧ o.data = .fields vs
theorem exK_at {P : Program} {w : World} {H : Hp} {h : Heap} {b a : Addr} {cls : Value} {d : Option Addr}
    (ok : HOk P w H h) (e : H b = some (exK a cls d)) :
    ∃ o vs, h.get? a = some o ∧ o.cls = cls ∧ o.dict = d ∧ o.data = .fields vs :=
  (show ObjOk P w H h b (exK a cls d) from ok b _ e).1

section
variable {X : Cx} {pins : List (Addr × Obj)} {σ : L2.St} {H : Hp} {s : Shared} {a : Addr} {o : HO}
/-- an object that was none of the picture's comes into it -/
theorem adopt (I : Inv X pins σ H s) (hn : H a = none) (nL : a ≠ X.env.locals)
    (nC : ∀ x c, X.env.cells.lookup x = some c → c ≠ a) (nP : ∀ p ∈ X.pn ++ pins, p.1 ≠ a)
    (nE : ∀ ob, X.s_0.heap.get? a = some ob → X.H_0 a = none → a ∉ X.ex → False)
    (new : ObjOk X.prog X.w (upd H a o) s.heap a o) : Inv X pins σ (upd H a o) s where
  ok := I.ok
  os := I.os
  bare := I.bare
  base := {
    keep := I.base.keep, slot := I.base.slot, there := I.base.there
    free := fun b ob e n x => by
      by_cases hb : b = a
      · subst hb; exact (nE ob e n x).elim
      · rw [upd_ne hb]; exact I.base.free b ob e n x
    tups := fun b xs e => by
      have z := I.base.tups b xs e
      rw [upd_ne (ne_of_none z hn)]; exact z
    frzs := fun b ob u e => by
      have z := I.base.frzs b ob u e
      rw [upd_ne (ne_of_none z hn)]; exact z
    tbls := fun b ps e => by
      obtain ⟨more, z⟩ := I.base.tbls b ps e
      exact ⟨more, by rw [upd_ne (ne_of_none z hn)]; exact z⟩ }
  loc := I.loc
  cell := I.cell
  free := by rw [upd_ne (Ne.symm nL)]; exact I.free
  freeC := fun x c e => by rw [upd_ne (nC x c e)]; exact I.freeC x c e
  pin := fun p hp => by
    obtain ⟨e, n, r⟩ := I.pin p hp
    exact ⟨e, by rw [upd_ne (nP p hp)]; exact n, r⟩
  hok := fun b u e => by
    by_cases hb : b = a
    · subst hb
      rw [upd_same] at e
      cases e
      exact new
    · rw [upd_ne hb] at e
      refine (I.hok b u e).stay (fun _ _ _ z => z) (fun c z => ?_) (fun c xs z => ?_)
      · rw [upd_ne (ne_of_none z hn)]; exact z
      · rw [upd_ne (ne_of_none z hn)]; exact z
  len := I.len
end

/-- what the clause wishes: the suite's end, then the error held at its address -/
def endK (i : Nat) (a : Addr) (cls : Value) (d : Option Addr) (D : Ends) : Ends where
  nx := fun σ H => H a = none → D.nx (σ.set i none) (upd H a (exK a cls d))
  rt := fun v H => D.rt v H
  bk := fun σ H => D.bk (σ.set i none) H
  ct := fun σ H => D.ct (σ.set i none) H
def wKeep (K : PySem.W.Frag) (c : Value) (i : Nat) (ts : TS) (Wout : WX) (D : Ends) : WX := fun cls d σ H =>
  ∃ b, PySem.W.exmOne K cls c = some b ∧
    (b = true → ∀ a, H a = none → ts (endK i a cls d D) (σ.set i (some (.ref a))) H) ∧
    (b = false → Wout cls d σ H)

section
variable {X : Cx} {x n : Str} {c : Value} {i : Nat} {body suite : List Stmt} {b0 : Stmt} {np pos pos2 : Pos}
  {tb : WX → TS} {ts : TS} {Wout : WX}
theorem ps_try_keep (hs : X.stack = X.env :: X.outer) (hf : X.env.frame = some X.env.locals) (hN : X.N.Nodup)
    (hi : X.N[i]? = some n) (hln : X.env.kindOf n = some .local) (hc : Names X x c) (tk : Takes X Wout)
    (hb : ∀ (W : WX) (pn : List (Addr × Obj)) (xe : Value → Shared → Prop), Takes (X.tr pn xe) W →
      PassesOwn (model X.prog X.w) X.A X.env xe → PSs (X.tr pn xe) body (tb W))
    (hsu : ∀ (a : Addr) (oe : Obj) (pn : List (Addr × Obj)), PSs (X.suite a ((a, oe) :: pn)) (b0 :: suite) ts) :
    PS X (.Try body [.ExceptHandler (some (.Name x np)) (some n) (b0 :: suite) pos2] [] [] pos)
      (fun D σ H => tb (wKeep X.K c i ts Wout D) D σ H) := by
  constructor
  intro pins s σ H D I h
  have ok := I.ok
  have hfr : X.A.frames = some (X.env :: X.outer) := ok.frames.trans (by rw [hs])
  have hloc : Loc X.env.scope n := .inl hln
  refine wpAny_Try_except ?_
  let xe2 : Value → Shared → Prop := fun e s1 =>
    wpAny (model X.prog X.w) X.A (noteFrame e X.env) (fun _ s2 =>
      wpAny (model X.prog X.w) X.A (setFlight e none) (fun _ s3 =>
        wpAny (model X.prog X.w) X.A
          (handleBy e X.env [.ExceptHandler (some (.Name x np)) (some n) (b0 :: suite) pos2])
          (SP X pins D) X.xe s3) X.xe s2) X.xe s1
  have taken : Takes (X.tr (X.pn ++ pins) xe2) (wKeep X.K c i ts Wout D) := by
    rintro u s2 ⟨a, B, sI, pins2, σ2, H2, cls, d, rfl, J2, nb, up, sky, na, os, ag, b, hb1, hyes, hno⟩
    have J : Inv X pins σ2 H2 sI := J2.ofTry ok
    have sky2 : Sky B (X.env :: X.outer) a (Zc cls d) X.env.locals s2.heap := by rw [← hs]; exact sky
    show wpAny (model X.prog X.w) X.A (noteFrame (.ref a) X.env) _ _ _
    refine Sky.land Zc.steady hfr hf sky2 fun h3 fl3 up3 => ?_
    have J3 : Inv X pins σ2 H2 { s2 with heap := h3 } := J.landed nb fl3.1 (up.trans up3) os ag
    obtain ⟨oe3, vs3, he3, hz3, hd3⟩ := fl3.there
    have nfr : a ∉ frs (X.env :: X.outer) := by
      intro hm
      obtain ⟨_, o4, e4, hnf⟩ := fl3.2.2.1.mem hm
      rw [he3] at e4
      cases e4
      exact hnf _ hd3
    have nL : a ≠ X.env.locals := by
      intro z
      exact nfr (List.mem_filterMap.mpr ⟨X.env, List.mem_cons_self, by rw [hf, z]⟩)
    have nF : a ∉ X.fs := by
      intro hm
      obtain ⟨e5, he5, q5⟩ := List.mem_filterMap.mp hm
      exact nfr (List.mem_filterMap.mpr ⟨e5, List.mem_cons_of_mem _ he5, q5⟩)
    have nE : ∀ ob, X.s_0.heap.get? a = some ob → X.H_0 a = none → a ∉ X.ex → False := by
      intro ob e n x
      obtain ⟨o5, e5⟩ := J.base.there a ob e x
      have z := nb a o5 e5 (by rw [hs]; exact nfr)
      rw [fl3.2.1] at z
      cases z
    have S3 := J3.suite he3 hd3 na nL nF
    refine wpAny_handleBy_cons (codeAny_handlers_test ?_) (by intro q; cases q)
    have LT : PySem.W.Looks (model X.prog X.w) h3 (typeOf (.ref a)) cls :=
      fun A Q E s k q => wpAny_typeOf_ref (k _ _ he3) (by rw [hz3.1]; exact q)
    have LM := PySem.W.exm_one (M := model X.prog X.w) (J3.kIn) LT hb1
    have test : ∀ {Q : Value → Shared → Prop} {E : Value → Shared → Prop}, Q c { s2 with heap := h3 } →
        wpAny (model X.prog X.w) (X.A.mark (some (.ref a))) (eval (.Name x np) X.env) Q E { s2 with heap := h3 } := by
      intro Q E q
      obtain ⟨hg, hdbg, hm | ⟨hm, hv, hnn⟩⟩ := hc
      · exact ld_glob (X := X.suite a ((a, oe3) :: (X.pn ++ pins))) S3 hg hm q hdbg
      · exact ld_blt (X := X.suite a ((a, oe3) :: (X.pn ++ pins))) S3 hg hm hv q hnn hdbg
    refine test (LM.here ?_)
    match b, hyes, hno with
    | true, hyes, _ =>
      refine codeAny_handlers_suite_as ?_
      refine HandSPX.lands_againZ fl3 fun h4 fl4 up4 => ?_
      have J4 : Inv X pins σ2 H2 { s2 with heap := h4 } := J.landed nb fl4.1 ((up.trans up3).trans up4) os ag
      obtain ⟨oe4, vs4, he4, hz4, hd4⟩ := fl4.there
      have S4 := J4.suite he4 hd4 na nL nF
      refine store_ok (X := X.suite a ((a, oe4) :: (X.pn ++ pins))) (v := .ref a) S4 hN hi hloc rfl (fun s5 S5 => ?_) (.inr hln)
      have run := (hsu a oe4 (X.pn ++ pins)).run [] s5 _ H2 _ S5 (hyes rfl a na)
      refine wpAny_mono run (fun f s6 hsp => ?_) (fun _ _ z => False.elim z)
      have gone : ∀ {σ6 : L2.St} {H6 : Hp} {Q : Shared → Prop},
          Inv (X.suite a ((a, oe4) :: (X.pn ++ pins))) [] σ6 H6 s6 →
          (∀ s7, Inv X pins (σ6.set i none) H6 s7 → Q s7) →
          wpAny (model X.prog X.w) X.A (do bindName X.env n .none; unbindBehindTheSuite X.env n pos2)
            (fun _ s7 => Q s7) X.xe s6 := by
        intro σ6 H6 Q S6 hq
        exact gone_ok (S6.unsuite ok) hN hi hln hq
      match f, hsp with
      | .brk, ⟨σ6, H6, S6, q6⟩ => exact gone S6 fun s7 J7 => ⟨_, _, J7, q6⟩
      | .cont, ⟨σ6, H6, S6, q6⟩ => exact gone S6 fun s7 J7 => ⟨_, _, J7, q6⟩
      | .ret u, ⟨v6, σ6, H6, S6, r6, q6⟩ => exact gone S6 fun s7 J7 => ⟨_, _, _, J7, r6, q6⟩
      | .next, ⟨σ6, H6, S6, q6⟩ =>
        obtain ⟨e6, n6, _⟩ := S6.pin (a, oe4) (List.mem_append_left _ List.mem_cons_self)
        have U := S6.unsuite ok
        -- the clause's name goes; the error's object is what it was
        have U2 : Inv { X with pn := (a, oe4) :: X.pn } pins σ6 H6 s6 :=
          ⟨⟨ok.mod, ok.kind, ok.glob, ok.blt, ok.above, ok.inj, ok.has, ok.cab, ok.hd, ok.frames, ok.stk, ok.exf, ok.bs, ok.bsz, ok.noex, ok.exfs, ok.funs, ok.frf⟩,
            U.os, U.bare, U.base, U.loc, U.cell, U.free, U.freeC, fun p hp => by
              rcases List.mem_cons.mp hp with e | hp
              · rw [e]
                exact ⟨e6, n6, nL, nF, fun v z => by
                  rw [hd4] at z
                  cases z⟩
              · exact U.pin p hp, U.hok, U.len⟩
        refine gone_ok (X := { X with pn := (a, oe4) :: X.pn }) U2 hN hi hln fun s7 V => ?_
        obtain ⟨e7, n7, _⟩ := V.pin (a, oe4) (List.mem_append_left _ List.mem_cons_self)
        have J7 : Inv X pins (σ6.set i none) H6 s7 :=
          ⟨ok, V.os, V.bare, V.base, V.loc, V.cell, V.free, V.freeC, fun p hp => V.pin p (List.mem_cons_of_mem _ hp), V.hok, V.len⟩
        have hcell : ∀ y cc, X.env.cells.lookup y = some cc → cc ≠ a := by
          intro y cc e z
          obtain ⟨v, o8, ho8, hd8⟩ := J7.cell y cc e
          rw [z, e7] at ho8
          cases ho8
          rw [hd4] at hd8
          cases hd8
        by_cases hp : ∃ p ∈ X.pn ++ pins, p.1 = a
        · obtain ⟨p, hp, ep⟩ := hp
          -- it was there when the try began: no
          obtain ⟨pe, pn2, pl, pf, pd⟩ := J.pin p hp
          have z := nb p.1 _ pe (by rw [hs, ep]; exact nfr)
          rw [ep, fl3.2.1] at z
          cases z
        · refine ⟨_, _, adopt J7 n7 nL hcell (fun p hp2 z => hp ⟨p, hp2, z⟩) nE ?_, q6 n6⟩
          exact ⟨⟨oe4, vs4, e7, hz4.1, hz4.2, hd4⟩, ⟨_, e7⟩, fun h1 h2 ⟨o9, vs9, y1, y2⟩ st => ⟨o9, vs9, st _ y1, y2⟩⟩
    | false, _, hno =>
      show wpAny _ X.A (handleBy (.ref a) X.env []) _ _ _
      refine wpAny_handleBy_nil ?_
      obtain ⟨k1, k2, k3, oe, vs, T, oT, ts2, he, hz, hd, h1, hr⟩ := id fl3
      unfold PySem.passOn
      refine wpAny_bind (wpAny_field he hd h1 ?_)
      have hT : ¬ ((Value.ref T == Value.none) = true) := by simp
      rw [if_neg hT]
      have fin : wpAny (model X.prog X.w) X.A (setFlight (.ref a) X.env.frame)
          (fun _ s4 => wpAny (model X.prog X.w) X.A (throw (.ref a) : Sem Flow) (SP X pins D) X.xe s4)
          X.xe { s2 with heap := h3 } := by
        rw [hf]
        refine HandSPX.setFlight_upZ fl3 fun h4 hh4 up4 => wpAny_throw (tk _ _ ?_)
        have uu := (up.trans up3).trans up4
        exact ⟨a, B, sI, pins, σ2, H2, cls, d, rfl, J, nb, uu, .inr (.inr (by rw [hs]; exact hh4)), na, os, ag, hno rfl⟩
      first
        | exact wpAny_bind (wpAny_pure (wpAny_bind fin))
        | exact wpAny_bind fin
  have run := (hb (wKeep X.K c i ts Wout D) (X.pn ++ pins) xe2 taken PassesOwn.looking).run [] s σ H D (I.toTry _) h
  refine wpAny_mono run (fun f s1 hsp => ?_) (fun _ _ he => he)
  match f, hsp with
  | .next, ⟨σ2, H2, J2, q⟩ => exact wpAny_execs_nil ⟨σ2, H2, J2.ofTry ok, q⟩
  | .brk, ⟨σ2, H2, J2, q⟩ => exact ⟨σ2, H2, J2.ofTry ok, q⟩
  | .cont, ⟨σ2, H2, J2, q⟩ => exact ⟨σ2, H2, J2.ofTry ok, q⟩
  | .ret u, ⟨v, σ2, H2, J2, r, q⟩ => exact ⟨v, σ2, H2, J2.ofTry ok, r, q⟩
end
end GS


set_option Elab.async false
set_option linter.all false
set_option maxRecDepth 100000
set_option maxHeartbeats 4000000
namespace GS
open PySem PySem.Spec PyProof.Rows L2 Evl

/-! what the written part says of an own class of errors -/
structure ErrC (K : PySem.W.Frag) (C : Addr) : Prop where
  cl : (PySem.W.clsIn K C).isSome = true
  ga : PySem.W.findIn K (.ref C) "__getattribute__" = some (some (.builtin "BaseException.__getattribute__"))
  gg : PySem.W.findIn K (.ref C) "__getattr__" = some none
  ex : PySem.W.subIn K (.ref C) (.type "BaseException") = some true
  hd : PySem.W.hasDictIn K C = true
  ca : PySem.W.findIn K (.ref C) "__class__" = some (some (.builtin "object.__class__"))
  cg : PySem.W.specialIn K (.builtin "object.__class__") "__get__" = some (some (.builtin "getset_descriptor.__get__"))
  ct : PySem.W.takesIn K (.builtin "object.__class__") = some true
  mo : PySem.W.mroIn K C (.type "object") = some true
  nv : PySem.W.findIn K (.ref C) "value" = some none

/-- an error held, with its one field -/
def Held (H : Hp) (a C : Addr) (v : V) : Prop :=
  ∃ dd, H a = some (exK a (.ref C) (some dd)) ∧ H dd = some (.xd [("value", v)])
theorem Held.mono {H H2 : Hp} {a C : Addr} {v : V} (e : Ex H H2) (h : Held H a C v) : Held H2 a C v := by
  obtain ⟨dd, h1, h2⟩ := h
  exact ⟨dd, e _ _ h1, e _ _ h2⟩

section
variable {X : Cx} {pins : List (Addr × Obj)} {σ : L2.St} {H : Hp} {s : Shared} {a C : Addr} {v : V}
theorem held_at (I : Inv X pins σ H s) (h : Held H a C v) : ∃ (o od : Obj) (dd : Addr),
    PySem.W.InstAt s.heap a o C (some od) ∧ H dd = some (.xd [("value", v)]) ∧ o.dict = some dd ∧
      ∃ u, RelV v u ∧ PySem.W.lookIn "value" od = some (some u) := by
  obtain ⟨dd, h1, h2⟩ := h
  obtain ⟨o, vs, e1, e2, e3, e4⟩ := exK_at I.hok h1
  obtain ⟨mA, hns, hr⟩ := (show ObjOk X.prog X.w H s.heap dd (.xd [("value", v)]) from I.hok dd _ h2)
  obtain ⟨od, ho, hl⟩ := lookIn_ns hns
  have hrv := hr "value"
  obtain ⟨u, hu, ru⟩ := RelO.some_of (v := v) (o := mA "value") (by
    have z : List.lookup ("value" : Str) [(("value" : Str), v)] = some v := by simp [List.lookup]
    rw [← z]; exact hrv)
  refine ⟨o, od, dd, ⟨e1, e2, ?_, by rw [e3]; exact ho⟩, h2, e3, u, ru, by rw [hl, hu]⟩
  unfold PySem.W.notCls
  rw [e4]
end

/-- isinstance of a held error -/
def rIsHeld (K : PySem.W.Frag) : List V → Hp → VK → Prop := fun xs H Q =>
  ∃ (a C : Addr) (v c : V) (cv : Value) (b : Bool), xs = [.ref a, c] ∧ Held H a C v ∧ ErrC K C ∧
    ClsV c cv ∧ PySem.W.kitOne K (.ref C) cv = some b ∧ Q (.bl b) H
theorem call_isHeld {X : Cx} : CallR X (.builtin "isinstance") (rIsHeld X.K) := by
  intro pins s σ H xs us Q I r h
  obtain ⟨a, C, v, c, cv, b, rfl, hh, T, hc, e, q⟩ := h
  obtain ⟨u1, u2, rfl, r1, r2⟩ := vals2 r
  obtain rfl : u1 = Value.ref a := r1
  have e2 := hc.eq r2
  subst e2
  obtain ⟨o, od, dd, J, _⟩ := held_at I hh
  refine PySem.W.kia_one (PySem.W.kitx_exc T.cl T.ga T.gg T.ex T.ca T.cg T.ct T.mo) I.kIn J e (fun z => nomatch z) ?_
  intro tk
  exact ⟨.bl b, H, I.tok tk, rfl, q⟩
/-- isinstance(x, c), of a value or of a held error, or of None -/
def rIsAny (K : PySem.W.Frag) : List V → Hp → VK → Prop := fun xs H Q => rIsi K xs H Q ∨ rIsHeld K xs H Q
theorem call_isAny {X : Cx} : CallR X (.builtin "isinstance") (rIsAny X.K) := by
  intro pins s σ H xs us Q I r h
  rcases h with h | h
  · exact call_isi pins s σ H xs us Q I r h
  · exact call_isHeld pins s σ H xs us Q I r h

/-- its field -/
def tHeldV (K : PySem.W.Frag) (te : TE) : TE := fun σ H Q => te σ H fun x H1 =>
  ∃ a C v, x = .ref a ∧ Held H1 a C v ∧ ErrC K C ∧ Q v H1
theorem pe_heldv {X : Cx} {e : Expr} {te : TE} {pos : Pos} (he : PE X e te)
    (hb : attributeBase e "value" X.env (eval e X.env) = eval e X.env := by rfl) :
    PE X (.Attribute e "value" pos) (tHeldV X.K te) := by
  constructor
  intro pins s σ H Q I h
  refine attr_of hb (thn (he.run pins s σ H _ I h) fun u s1 hh => ?_)
  obtain ⟨x, H1, I1, rx, a, C, v, ex, hd, T, q⟩ := hh
  subst ex
  obtain rfl : u = Value.ref a := rx
  obtain ⟨o, od, dd, J, _, _, w, rw_, hl⟩ := held_at I1 hd
  refine HandSPX.exc_get I1.kIn J T.ga T.gg T.ex ?_ (handed_of rw_) ⟨v, H1, I1.tok _, rw_, q⟩
  exact PySem.W.findObj_own T.hd T.nv rfl hl

/-! ### data of any depth, an empty dict among it -/
mutual
inductive Rp (K : PySem.W.Frag) (H : Hp) : V → PyData → Prop
  | non : Rp K H .non .none
  | bl (b : Bool) : Rp K H (.bl b) (.bool b)
  | int (i : Int) : Rp K H (.int i) (.int i)
  | str (x : Str) : Rp K H (.str x) (.str x)
  | lst {a : Addr} {xs : List V} {ds : List PyData} (h : SqL K H a xs) (hs : RpAll K H xs ds) : Rp K H (.ref a) (.list ds)
  | tup {a : Addr} {xs : List V} {ds : List PyData} (h : SqT K H a xs) (hs : RpAll K H xs ds) : Rp K H (.ref a) (.tuple ds)
  | emp {a : Addr} (h : H a = some (.dK [])) : Rp K H (.ref a) (.dict [])
inductive RpAll (K : PySem.W.Frag) (H : Hp) : List V → List PyData → Prop
  | nil : RpAll K H [] []
  | cons {v : V} {vs : List V} {d : PyData} {ds : List PyData} (h : Rp K H v d) (hs : RpAll K H vs ds) : RpAll K H (v :: vs) (d :: ds)
end
section
variable {K : PySem.W.Frag} {H H2 : Hp}
mutual
theorem Rp.mono (e : Ex H H2) : ∀ (d : PyData) (v : V), Rp K H v d → Rp K H2 v d
  | .none, _, h => by cases h; exact .non
  | .bool _, _, h => by cases h; exact .bl _
  | .int _, _, h => by cases h; exact .int _
  | .str _, _, h => by cases h; exact .str _
  | .list ds, _, h => by
    cases h with
    | lst h hs => exact .lst (ex_l e h) (RpAll.mono e ds _ hs)
  | .tuple ds, _, h => by
    cases h with
    | tup h hs => exact .tup (ex_t e h) (RpAll.mono e ds _ hs)
  | .dict _, _, h => by
    cases h with
    | emp h => exact .emp (e _ _ h)
theorem RpAll.mono (e : Ex H H2) : ∀ (ds : List PyData) (vs : List V), RpAll K H vs ds → RpAll K H2 vs ds
  | [], _, h => by cases h; exact .nil
  | d :: ds, _, h => by
    cases h with
    | cons h hs => exact .cons (Rp.mono e d _ h) (RpAll.mono e ds _ hs)
end
theorem Rp.to (h : Rp K H v d) (e : Ex H H2) : Rp K H2 v d := Rp.mono e d v h
theorem RpAll.to (h : RpAll K H vs ds) (e : Ex H H2) : RpAll K H2 vs ds := RpAll.mono e ds vs h
theorem RpAll.length : ∀ {vs : List V} {ds : List PyData}, RpAll K H vs ds → vs.length = ds.length
  | [], [], _ => rfl
  | [], _ :: _, h => by cases h
  | _ :: _, [], h => by cases h
  | _ :: vs, _ :: ds, h => by
    cases h with
    | cons _ hs => rw [List.length_cons, List.length_cons, RpAll.length hs]
theorem RpAll.get : ∀ {vs : List V} {ds : List PyData} {i : Nat} {v : V}, RpAll K H vs ds → vs[i]? = some v →
    ∃ d, ds[i]? = some d ∧ Rp K H v d
  | [], _, i, v, h, e => by simp at e
  | _ :: _, [], _, _, h, _ => by cases h
  | w :: vs, d :: ds, 0, v, h, e => by
    cases h with
    | cons h hs =>
      simp at e
      subst e
      exact ⟨d, rfl, h⟩
  | w :: vs, d :: ds, i + 1, v, h, e => by
    cases h with
    | cons h hs =>
      obtain ⟨d2, e2, r⟩ := RpAll.get (i := i) hs (by simpa using e)
      exact ⟨d2, by simpa using e2, r⟩
theorem rpInts : ∀ (ns : List Int), RpAll K H (ns.map V.int) (ns.map PyData.int)
  | [] => .nil
  | n :: ns => .cons (.int n) (rpInts ns)
theorem rpBools : ∀ (ns : List Bool), RpAll K H (ns.map V.bl) (ns.map PyData.bool)
  | [] => .nil
  | n :: ns => .cons (.bl n) (rpBools ns)
mutual
theorem Rp.dp : ∀ (d : PyData) (v : V), Rp K H v d → d.hasDict = false → Dp K H v d
  | .none, _, h, _ => by cases h; exact .non
  | .bool _, _, h, _ => by cases h; exact .bl _
  | .int _, _, h, _ => by cases h; exact .int _
  | .str _, _, h, _ => by cases h; exact .str _
  | .list ds, _, h, n => by
    cases h with
    | lst h hs => exact .lst h (RpAll.dp ds _ hs (by simpa [PyData.hasDict] using n))
  | .tuple ds, _, h, n => by
    cases h with
    | tup h hs => exact .tup h (RpAll.dp ds _ hs (by simpa [PyData.hasDict] using n))
  | .dict _, _, _, n => by simp [PyData.hasDict] at n
theorem RpAll.dp : ∀ (ds : List PyData) (vs : List V), RpAll K H vs ds → PyData.hasDictAll ds = false → DpAll K H vs ds
  | [], _, h, _ => by cases h; exact .nil
  | d :: ds, _, h, n => by
    have n2 : (d.hasDict || PyData.hasDictAll ds) = false := by simpa [PyData.hasDictAll] using n
    obtain ⟨n3, n4⟩ := Bool.or_eq_false_iff.mp n2
    cases h with
    | cons h hs => exact .cons (Rp.dp d _ h n3) (RpAll.dp ds _ hs n4)
end
/-- the name of a datum's type -/
def tyD : PyData → String
  | .none => "NoneType"
  | .bool _ => "bool"
  | .int _ => "int"
  | .str _ => "str"
  | .list _ => "list"
  | .tuple _ => "tuple"
  | .dict _ => "dict"
theorem Rp.ty {v : V} {d : PyData} (h : Rp K H v d) : TyX K H v (.type (tyD d)) := by
  cases h with
  | non => exact .base .non
  | bl b => exact .base (.bl b)
  | int i => exact .base (.int i)
  | str x => exact .base (.str x)
  | lst h hs =>
    rcases h with (h | ⟨o, h⟩) | ⟨o, its, n, h, hc, _⟩
    · exact .base (.lst h)
    · exact .base (.frz h)
    · exact .kList h hc
  | tup h hs =>
    rcases h with (h | ⟨o, h⟩) | ⟨o, its, n, h, hc, _⟩
    · exact .base (.tup h)
    · exact .fTuple h
    · exact .kTuple h hc
  | emp h => exact .base (.dK h)
end

section
variable {X : Cx} {pins : List (Addr × Obj)} {σ : L2.St} {H : Hp} {s : Shared}
theorem Rp.reads (I : Inv X pins σ H s) {d : PyData} {v : V} {u : Value} (h : Rp X.K H v d) (r : RelV v u)
    (hd : d.hasDict = false ∨ d = .dict []) : ∃ as, Reads s.heap u d as ∧ (d.hasDict = true → sysModules ∉ as) := by
  rcases hd with hd | rfl
  · obtain ⟨as, z⟩ := Dp.reads I d v u (Rp.dp d v h hd) r
    exact ⟨as, z, fun q => by rw [hd] at q; cases q⟩
  · cases h with
    | @emp a h =>
      obtain rfl : u = Value.ref a := r
      obtain ⟨_, ns, vs, kv, o, es, ep, h1, h2, h3, _, h4, _⟩ := (show ObjOk X.prog X.w H s.heap a (.dK []) from I.hok a _ h)
      cases kv
      have hes : es.toList = [] := by
        have z := h4.length
        exact List.eq_nil_of_length_eq_zero (by simpa using z)
      refine ⟨[a] ++ [] ++ [], Reads.dict h1 h2.1 h3 (by rw [hes]; exact .nil) (by rw [hes]; exact .nil), fun _ hm => ?_⟩
      have e : sysModules = a := by simpa using hm
      rw [← e] at ns
      simp at ns
end

/-- repr(x), where nothing is being shown -/
def rRepr (K : PySem.W.Frag) : List V → Hp → VK → Prop := fun xs H Q => ∃ v d, xs = [v] ∧ Rp K H v d ∧
  (d.hasDict = false ∨ d = .dict []) ∧ d.showable = true ∧ d.depth ≤ 60 ∧ d.shown.length ≤ sizeLine ∧ Q (.str d.shown) H
theorem call_repr_any {X : Cx} (hq : X.A.guards = some []) (hu : X.A.units + 64 < cLine) :
    CallR X (.builtin "repr") (rRepr X.K) := by
  intro pins s σ H xs us Q I r h
  obtain ⟨v, d, rfl, hv, hd, sh, dep, len, q⟩ := h
  cases r with
  | cons r rr =>
    cases rr
    rename_i u
    obtain ⟨as, rd, ns⟩ := hv.reads I r hd
    have done : ∀ (h' : Heap) (tk : Nat) (t : Tok), (∀ b o, s.heap.get? b = some o → h'.get? b = some o) →
        EP X pins σ Q (.str d.shown t) { s with heap := h', toks := tk } := by
      intro h' tk t k
      exact ⟨.str d.shown, H, I.kept (t' := tk) k, ⟨t, rfl⟩, q⟩
    have big : ∀ {a : Addr}, u = .ref a → wpAny (model X.prog X.w) X.A (call (.builtin "repr") [u]) (EP X pins σ Q) X.xe s := by
      rintro a rfl
      exact repr_of_reads' rd sh ns hq (by omega) (fun _ _ e => e) (fun h' t tk k => done h' tk t k) len
    cases hv with
    | non =>
      obtain rfl : u = Value.none := r
      exact PySem.P.repr_of_none (done s.heap _ _ fun _ _ e => e)
    | bl b =>
      obtain rfl : u = Value.bool b := r
      have z := done s.heap (s.toks + 1) s.toks fun _ _ e => e
      exact PySem.P.repr_of_bool (by simpa only [PyData.shown] using z)
    | int i =>
      obtain ⟨t, rfl⟩ := r
      have z := done s.heap (s.toks + 1) s.toks fun _ _ e => e
      refine PySem.P.repr_of_int ?_ (by simpa only [PyData.shown] using z)
      simpa [PyData.showable] using sh
    | str x =>
      obtain ⟨t, rfl⟩ := r
      have z := done s.heap (s.toks + 1) s.toks fun _ _ e => e
      exact PySem.P.repr_of_str (by simpa only [PyData.shown] using z) (by simpa only [PyData.shown] using len)
    | @lst a xs ds h hs => exact big (a := a) r
    | @tup a xs ds h hs => exact big (a := a) r
    | @emp a h => exact big (a := a) r
end GS


set_option Elab.async false
set_option linter.all false
set_option maxRecDepth 100000
set_option maxHeartbeats 4000000
namespace GS
open PySem PySem.Spec PyProof.Rows L2 Evl

/-- a def (or a method) whose defaults are of any kind -/
structure FunV (K : PySem.W.Frag) (x qual : Str) (st : Stmt) (f : Addr) (fd : FuncData) : Prop where
  ex : ∃ (oc : Value) (od : Option Addr) (dV kV doc pm : Value) (an : Option Addr) (cdv ct : Value) (osl : Array (Option Value)),
    fd = PySem.W.fnOf x qual (defArgs st) (defBody st) (defScope st) dV kV doc pm an cdv ct ∧
      K.lookup f = some ⟨oc, od, .func fd, osl⟩ ∧ PySem.W.codeIn K cdv qual = true
section
variable {P : Program} {w : World} {K : PySem.W.Frag} {mg : Str → Option Value} {base : Heap}
theorem fun_v {x qual : Str} {st : Stmt} {f : Addr} {fd : FuncData} {N ps : List Str} {k : Nat} {sp : Sp}
    (F : FunV K x qual st f fd) (S : FnScope N ps (defScope st)) (len : ∀ vs H Q E, sp vs H Q E → vs.length = ps.length)
    (hb : ∀ (cdv : Value) (A : Around) (outer : List Env) (s : Shared) (H : Hp) (vs : List V) (Q : VK) (E : XK),
      Room k (A.deeper (envOfC qual (defScope st) s.heap.objs.size f cdv)) → sp vs H Q E →
      ∃ t, PSs (cxOf CX0 P w K mg base N qual (defScope st) f cdv A outer s H E).nox (defBody st) t ∧
        t { nx := fun _ H' => Q .non H', rt := Q } (start N vs) H) : FnOk P w K mg base CX0 (k + 1) f fd ps sp := by
  obtain ⟨oc, od, dV, kV, doc, pm, an, cdv, ct, osl, rfl, lk, hcd⟩ := F.ex
  refine fn_of lk hcd S len fun A outer s H vs Q E hr hsp => ?_
  obtain ⟨t, h, q⟩ := hb cdv A outer s H vs Q E hr hsp
  exact ⟨t, h.nox, q⟩
theorem FunV.binds {x qual : Str} {st : Stmt} {f : Addr} {fd : FuncData} {ps : List Str} (F : FunV K x qual st f fd)
    (h : ∀ (dV kV doc pm : Value) (an : Option Addr) (cdv ct : Value) (us : List Value), us.length = ps.length →
      bindArgs (PySem.W.fnOf x qual (defArgs st) (defBody st) (defScope st) dV kV doc pm an cdv ct) ⟨us, []⟩ = pure (ps.zip us)) : Binds K fd ps [] := by
  obtain ⟨oc, od, dV, kV, doc, pm, an, cdv, ct, osl, rfl, lk, hcd⟩ := F.ex
  exact .all (h dV kV doc pm an cdv ct)
end

section
variable {X : Cx} {x : Str} {pos : Pos} {i : Int}
theorem pe_const (hg : Gl X x) (h : ∃ tk, X.mg x = some (.int i tk)) (hd : (x == ("__debug__" : Str)) = false := by decide)
    (hcd : (x == ("__classdict__" : Str)) = false := by decide) : PE X (.Name x pos) (tC (.int i)) := by
  obtain ⟨tk, h⟩ := h
  exact pe_glob (v := .int i) hg h (show RelV (.int i) (.int i tk) from ⟨tk, rfl⟩) hd
end

section
variable {X : Cx} {CX : CXT} {k : Nat} {f : Addr} {fd : FuncData} {ps ks : List Str} {sp : Sp} {E : XK} {x : Str}
  {p pos : Pos} {kws : List Keyword} {tk : TA} {g : List Value → List Value → List Value} {gV : List V → List V → List V}
/-- f(k = v, ..) -/
theorem pe_callK0 (F : FnOk X.prog X.w X.K X.mg X.base CX k f fd ps sp) (hr : Room k X.A) (hg : Gl X x)
    (hm : X.mg x = some (.ref f)) (hk : PySem.W.keepIn X.K (.ref f) = true) (hb : KBinds X.K fd ps ks g gV)
    (hx : Passes CX X E) (hkw : PK X kws tk)
    (hall : (backToKw pos (keywordEach kws X.env)).all (·.1.isSome) = true := by rfl)
    (hks : (backToKw pos (keywordEach kws X.env)).filterMap (·.1) = ks := by rfl)
    (hdb : (x == ("__debug__" : Str)) = false := by decide)
    (hpl : ((backTo pos (starEach [] X.env)).any (·.1) || (backToKw pos (keywordEach kws X.env)).any (·.1.isNone)) = false := by rfl) :
    PE X (.Call (.Name x p) [] kws pos) (tCallK sp gV E tNil tk) := by
  constructor
  intro pins s σ H Q I h
  refine wpAny_Call_Name_kw (ld_glob I hg hm ?_ hdb)
  refine PySem.W.callWith_KW0 (h₀ := X.base) I.ok.mod.kin hk hall ?_ hpl
  refine thn (hkw.run pos pins s σ H _ I h) fun ws s2 ⟨zs, H2, I2, rz, q2⟩ => ⟨I2.kIn, ?_⟩
  rw [hks]
  exact run_fnk (us := []) (vs := []) F hr hb hx I2 .nil rz q2
end

/-! powers of written numbers -/
def CPowX : Int → Int → Prop := fun i j => 0 ≤ j ∧ (Builtin.Int.intBits i : Int) * j ≤ 2 ^ 27
theorem op_powX {X : Cx} : OpR X (binaryOp .Pow) (rI CPowX fun i j => .int (i ^ j.toNat)) := by
  intro pins s σ H x y u v Q I rx ry h
  obtain ⟨i, j, rfl, rfl, c, q⟩ := h
  obtain ⟨t, rfl⟩ := rx
  obtain ⟨t', rfl⟩ := ry
  exact pow_int c.1 c.2 ⟨.int _, H, I.tok _, ⟨_, rfl⟩, q⟩

theorem bits_le_of {i : Int} {n : Nat} (h : i.natAbs < 2 ^ n) : Builtin.Int.intBits i ≤ n := PySem.intBits_le_iff.mpr h
theorem mulX {i j : Int} (hi : i.natAbs < 2 ^ 64) (hj : j.natAbs < 2 ^ 64) : CMulX i j := by
  have h1 := bits_le_of (n := 64) hi
  have h2 := bits_le_of (n := 64) hj
  show ((Builtin.Int.intBits i : Nat) : Int) + ((Builtin.Int.intBits j : Nat) : Int) ≤ 134217728
  omega

/-! ### data: what evaluates to it -/
def EvD (K : PySem.W.Frag) (te : TE) (σ : L2.St) (H : Hp) (d : PyData) : Prop :=
  ∀ H1, Ex H H1 → ∀ Q : VK, (∀ v H2, Ex H1 H2 → Rp K H2 v d → Q v H2) → te σ H1 Q
def EvDA (K : PySem.W.Frag) (ta : TA) (σ : L2.St) (H : Hp) (ds : List PyData) : Prop :=
  ∀ H1, Ex H H1 → ∀ Q : List V → Hp → Prop, (∀ vs H2, Ex H1 H2 → RpAll K H2 vs ds → Q vs H2) → ta σ H1 Q
/-- a new list of data -/
def EvLD (K : PySem.W.Frag) (te : TE) (σ : L2.St) (H : Hp) (ds : List PyData) : Prop :=
  ∀ H1, Ex H H1 → ∀ Q : VK, (∀ p xs H2, H1 p = none → Ex H1 H2 → H2 p = some (.lst xs) → RpAll K H2 xs ds → Q (.ref p) H2) → te σ H1 Q
section
variable {K : PySem.W.Frag} {σ : L2.St} {H H' : Hp} {ta tb te : TE} {x y z v : V} {d e : PyData} {ds es : List PyData}
theorem EvD.mono (a : Ex H H') (h : EvD K te σ H d) : EvD K te σ H' d := fun H1 b Q q => h H1 (a.trans b) Q q
theorem EvLD.mono (a : Ex H H') (h : EvLD K te σ H ds) : EvLD K te σ H' ds := fun H1 b Q q => h H1 (a.trans b) Q q
theorem ed_new (h : EvLD K te σ H ds) : EvD K te σ H (.list ds) := fun H1 a Q q =>
  h H1 a Q fun p xs H2 _ e2 hp hr => q (.ref p) H2 e2 (.lst (sq_of hp) hr)
theorem EvL.ld {xs : List V} (h : EvL te σ H xs) (hr : ∀ H2, RpAll K H2 xs ds) : EvLD K te σ H ds := fun H1 a Q q =>
  h H1 a Q fun p H2 n e2 hp => q p xs H2 n e2 hp (hr H2)
theorem ed_of (h : Ev te σ H v) (hr : Rp K H v d) : EvD K te σ H d := fun H1 a Q q =>
  h H1 a Q fun H2 e2 => q v H2 e2 (hr.to (a.trans e2))
theorem ed_var {i : Nat} (h : σ[i]? = some (some v)) (hr : Rp K H v d) : EvD K (tVar i) σ H d := ed_of (ev_var h) hr
theorem ed_int {i : Int} (h : Ev te σ H (.int i)) : EvD K te σ H (.int i) := ed_of h (.int i)
theorem ed_bl {b : Bool} (h : Ev te σ H (.bl b)) : EvD K te σ H (.bool b) := ed_of h (.bl b)
theorem ed_str {b : Str} (h : Ev te σ H (.str b)) : EvD K te σ H (.str b) := ed_of h (.str b)
theorem ed_non (h : Ev te σ H .non) : EvD K te σ H .none := ed_of h .non
theorem EvD.int {i : Int} (h : EvD K te σ H (.int i)) : Ev te σ H (.int i) := fun H1 a Q q =>
  h H1 a Q fun v H2 e2 hr => by
    cases hr
    exact q H2 e2
theorem eda_nil : EvDA K tNil σ H [] := fun H1 _ Q q => q [] H1 (Ex.refl _) .nil
theorem eda_cons {tr : TA} (h : EvD K ta σ H d) (hr : EvDA K tr σ H ds) : EvDA K (tCons ta tr) σ H (d :: ds) := fun H1 a Q q =>
  h H1 a _ fun v H2 e2 r => hr H2 (a.trans e2) _ fun vs H3 e3 rr => q (v :: vs) H3 (e2.trans e3) (.cons (r.to e3) rr)
theorem eld_lst {tr : TA} (h : EvDA K tr σ H ds) (hl : ds.length ≤ 100000) : EvLD K (tLst tr) σ H ds := fun H1 a Q q =>
  h H1 a _ fun vs H2 e2 r => ⟨sz_of (by rw [r.length]; exact hl), fun p hp =>
    q p vs _ (fresh_back e2 hp) (e2.trans (Ex.new hp)) upd_same (r.to (Ex.new hp))⟩
theorem ed_lst {tr : TA} (h : EvDA K tr σ H ds) (hl : ds.length ≤ 100000) : EvD K (tLst tr) σ H (.list ds) := ed_new (eld_lst h hl)
theorem ed_tup {tr : TA} (h : EvDA K tr σ H ds) (hl : ds.length ≤ 100000) : EvD K (tTup tr) σ H (.tuple ds) := fun H1 a Q q =>
  h H1 a _ fun vs H2 e2 r => ⟨sz_of (by rw [r.length]; exact hl), fun p hp =>
    q (.ref p) _ (e2.trans (Ex.new hp)) (.tup (st_of upd_same) (r.to (Ex.new hp)))⟩
theorem ed_emp : EvD K tDNewK σ H (.dict []) := fun H1 a Q q p hp => q (.ref p) _ (Ex.new hp) (.emp upd_same)
theorem ev_eqD (ha : EvD K ta σ H d) (hb : EvD K tb σ H e) (n1 : d.hasDict = false) (n2 : e.hasDict = false)
    (s1 : SeqAt.shaped d = true) (s2 : SeqAt.shaped e = true) : Ev (tOp (rEqD K) ta tb) σ H (.bl (PyData.eqv d e)) := fun H1 a Q q =>
  ha H1 a _ fun v H2 e2 r => hb H2 (a.trans e2) _ fun u H3 e3 r2 =>
    ⟨d, e, Rp.dp d v (r.to e3) n1, Rp.dp e u r2 n2, s1, s2, q H3 (e2.trans e3)⟩
theorem ev_neD (ha : EvD K ta σ H d) (hb : EvD K tb σ H e) (n1 : d.hasDict = false) (n2 : e.hasDict = false)
    (s1 : SeqAt.shaped d = true) (s2 : SeqAt.shaped e = true) : Ev (tOp (rNeD K) ta tb) σ H (.bl (!PyData.eqv d e)) := fun H1 a Q q =>
  ha H1 a _ fun v H2 e2 r => hb H2 (a.trans e2) _ fun u H3 e3 r2 =>
    ⟨d, e, Rp.dp d v (r.to e3) n1, Rp.dp e u r2 n2, s1, s2, q H3 (e2.trans e3)⟩
theorem ev_repr (ha : EvD K ta σ H d) (n1 : d.hasDict = false ∨ d = .dict []) (sh : d.showable = true) (dp : d.depth ≤ 60)
    (len : d.shown.length ≤ sizeLine) : Ev (tCB (rRepr K) (tCons ta tNil)) σ H (.str d.shown) := fun H1 a Q q =>
  ha H1 a _ fun v H2 e2 r => ⟨v, d, rfl, r, n1, sh, dp, len, q H2 e2⟩
theorem ev_isT {T : String} {b : Bool} (ha : EvD K ta σ H d) (hk : kitB (tyD d) T = some b) :
    Ev (tCB (rIsAny K) (tCons ta (tCons (tC (.ty T)) tNil))) σ H (.bl b) := fun H1 a Q q =>
  ha H1 a _ fun v H2 e2 r => .inl ⟨v, .ty T, _, _, b, rfl, .ty T, r.ty, kit_ty hk, q H2 e2⟩
/-- the calls of one's own defs -/
theorem ev_own {sp : Sp} {E : XK} {t : TA} {vs : List V} (h : EvA t σ H vs)
    (k : ∀ H1, Ex H H1 → ∀ Q : VK, (∀ H2, Ex H1 H2 → Q v H2) → sp vs H1 Q E) : Ev (tCall sp [] E t) σ H v := fun H1 a Q q =>
  h H1 a _ fun H2 e2 => by
    rw [List.append_nil]
    exact k H2 (a.trans e2) Q fun H3 e3 => q H3 (e2.trans e3)
theorem el_own {sp : Sp} {E : XK} {t : TA} {vs xs : List V} (h : EvA t σ H vs)
    (k : ∀ H1, Ex H H1 → ∀ Q : VK, (∀ p H2, H1 p = none → Ex H1 H2 → H2 p = some (.lst xs) → Q (.ref p) H2) → sp vs H1 Q E) :
    EvL (tCall sp [] E t) σ H xs := fun H1 a Q q =>
  h H1 a _ fun H2 e2 => by
    rw [List.append_nil]
    exact k H2 (a.trans e2) Q fun p H3 n e3 hp => q p H3 (fresh_back e2 n) (e2.trans e3) hp
/-- a call whose arguments are data -/
theorem ev_ownD {sp : Sp} {E : XK} {t : TA} (h : EvDA K t σ H ds)
    (k : ∀ vs H1, Ex H H1 → RpAll K H1 vs ds → ∀ Q : VK, (∀ H2, Ex H1 H2 → Q v H2) → sp vs H1 Q E) : Ev (tCall sp [] E t) σ H v := fun H1 a Q q =>
  h H1 a _ fun vs H2 e2 r => by
    rw [List.append_nil]
    exact k vs H2 (a.trans e2) r Q fun H3 e3 => q H3 (e2.trans e3)
theorem ed_if {t : TT} {b : Bool} (h : EvT t σ H b) (h1 : b = true → EvD K ta σ H d) (h2 : b = false → EvD K tb σ H d) : EvD K (tIf t ta tb) σ H d := fun H1 e Q q =>
  h H1 e _ fun H2 e2 => by
    cases b with
    | true => exact h1 rfl H2 (e.trans e2) Q fun v H3 e3 r => q v H3 (e2.trans e3) r
    | false => exact h2 rfl H2 (e.trans e2) Q fun v H3 e3 r => q v H3 (e2.trans e3) r
end
end GS


set_option Elab.async false
set_option linter.all false
set_option maxRecDepth 100000
set_option maxHeartbeats 4000000
namespace GS
open PySem PySem.Spec PyProof.Rows L2 Evl

theorem RpAll.app {K : PySem.W.Frag} {H : Hp} : ∀ {us ws : List V} {xs ys : List PyData}, RpAll K H us xs → RpAll K H ws ys → RpAll K H (us ++ ws) (xs ++ ys)
  | [], _, _, _, h, k => by cases h; exact k
  | _ :: us, _, _, _, h, k => by
    cases h with
    | cons h hs => exact .cons h (RpAll.app hs k)
/-! ### calls of what is built in, by short names -/
def rInt1 : List V → Hp → VK → Prop := fun xs H Q => ∃ i, xs = [.int i] ∧ Q (.int i) H
def rMin2 : List V → Hp → VK → Prop := fun xs H Q => ∃ i j, xs = [.int i, .int j] ∧ Q (.int (if j < i then j else i)) H
def rIsNone : R2 := fun x y H Q => y = .non ∧ Q (.bl (decide (x = .non))) H
def rNotNone : R2 := fun x y H Q => y = .non ∧ Q (.bl (!decide (x = .non))) H
section
variable {X : Cx}
theorem c_isN : OpR X (compareOp .Is) rIsNone := op_isN
theorem c_notN : OpR X (compareOp .IsNot) rNotNone := op_notN
theorem c_int : CallR X (.type "int") rInt1 := fun pins s σ H xs us Q I r h => call_int1 pins s σ H xs us Q I r (.inl h)
theorem c_max2 (hc : X.calm = true) : CallR X (.builtin "max") rMax2 := call_max2 hc
theorem c_min2 (hc : X.calm = true) : CallR X (.builtin "min") rMin2 := call_min2 hc
theorem c_len : CallR X (.builtin "len") (rLenS X.K) := call_len_seq
theorem c_list : CallR X (.type "list") (rListS X.K) := call_list_of
end
section
variable {K : PySem.W.Frag} {σ : L2.St} {H H' : Hp} {ta tb te : TE} {x y z v : V} {i j : Int}
theorem ev_int1 (h : Ev ta σ H (.int i)) : Ev (tCB rInt1 (tCons ta tNil)) σ H (.int i) := fun H1 e Q q =>
  h H1 e _ fun H2 e2 => ⟨i, rfl, q H2 e2⟩
theorem ev_min2 (ha : Ev ta σ H (.int i)) (hb : Ev tb σ H (.int j)) : Ev (tCB rMin2 (tCons ta (tCons tb tNil))) σ H (.int (if j < i then j else i)) := fun H1 e Q q =>
  ha H1 e _ fun H2 e2 => hb H2 (e.trans e2) _ fun H3 e3 => ⟨i, j, rfl, q H3 (e2.trans e3)⟩
theorem ev_sum {p : Addr} {ns : List Int} (ha : Ev ta σ H (.ref p)) (h : SqL K H p (ns.map V.int)) : Ev (tCB (rSum K) (tCons ta tNil)) σ H (.int ns.sum) := fun H1 e Q q =>
  ha H1 e _ fun H2 e2 => ⟨p, ns, rfl, ex_l (e.trans e2) h, q H2 e2⟩
theorem ev_sumN {ns : List Int} (ha : EvL ta σ H (ns.map V.int)) : Ev (tCB (rSum K) (tCons ta tNil)) σ H (.int ns.sum) := fun H1 e Q q =>
  ha H1 e _ fun p H2 _ e2 h2 => ⟨p, ns, rfl, sq_of h2, q H2 e2⟩
theorem ev_all {bs : List Bool} (ha : EvL ta σ H (bs.map V.bl)) : Ev (tCB (rAll K) (tCons ta tNil)) σ H (.bl (bs.all id)) := fun H1 e Q q =>
  ha H1 e _ fun p H2 _ e2 h2 => ⟨p, bs, rfl, sq_of h2, q H2 e2⟩
theorem ev_bits (ha : Ev ta σ H (.int i)) : Ev (tBits ta) σ H (.int (Builtin.Int.intBits i : Nat)) := fun H1 e Q q =>
  ha H1 e _ fun H2 e2 => ⟨i, rfl, q H2 e2⟩
theorem ev_ixL {p : Addr} {xs : List V} (ha : Ev ta σ H (.ref p)) (hb : Ev tb σ H (.int i)) (h : SqL K H p xs) (hi : atI xs i = some v) :
    Ev (tOp (rIxL K) ta tb) σ H v := ev_op ha hb (rv_ixL h hi)
theorem ev_isN (ha : Ev ta σ H x) : Ev (tOp rIsNone ta (tC .non)) σ H (.bl (decide (x = .non))) := fun H1 e Q q =>
  ha H1 e _ fun H2 e2 => ⟨rfl, q H2 e2⟩
theorem ev_notN (ha : Ev ta σ H x) : Ev (tOp rNotNone ta (tC .non)) σ H (.bl (!decide (x = .non))) := fun H1 e Q q =>
  ha H1 e _ fun H2 e2 => ⟨rfl, q H2 e2⟩
theorem ev_one (h : Ev ta σ H v) : Ev ta σ H v := h
theorem CMulX.of {m n : Nat} (hi : Builtin.Int.intBits i ≤ m) (hj : Builtin.Int.intBits j ≤ n) (h : m + n ≤ 134217728) : CMulX i j := by
  show ((Builtin.Int.intBits i : Nat) : Int) + ((Builtin.Int.intBits j : Nat) : Int) ≤ 134217728
  omega
theorem bits64 (h : -(2 ^ 64) < i ∧ i < 2 ^ 64) : Builtin.Int.intBits i ≤ 64 := PySem.intBits_le_iff.mpr (by omega)
theorem bitsM {m n : Nat} (h : Builtin.Int.intBits i ≤ m) (h2 : Builtin.Int.intBits j ≤ n) : Builtin.Int.intBits (i * j) ≤ m + n := PySem.intBits_mul_le h h2
end
/-! ### tests -/
section
variable {K : PySem.W.Frag} {σ : L2.St} {H H' : Hp} {ta tb te : TE} {t u : TT}
theorem et_pt {b : Bool} (h : EvT t σ H b) : EvT t σ H b := h
theorem ev_andB {a b : Bool} (h1 : Ev ta σ H (.bl a)) (h2 : a = true → Ev tb σ H (.bl b)) (c : Bool) (hc : c = (a && b)) : Ev (tAndV ta tb) σ H (.bl c) := by
  rw [hc]; exact ev_andV h1 h2
end

section
variable {σ : L2.St} {H : Hp} {te : TE} {D : Ends} {tz : TS}
theorem q_set {i : Nat} (k : te σ H fun x H1 => tz D (σ.set i (some x)) H1) : tSeq (tAsg te (gName i)) tz D σ H := k
theorem s_set {i : Nat} (k : te σ H fun x H1 => D.nx (σ.set i (some x)) H1) : tAsg te (gName i) D σ H := k
theorem q_seq {t : TS} (k : t { D with nx := tz D } σ H) : tSeq t tz D σ H := k
end
section
variable {K : PySem.W.Frag} {σ : L2.St} {H : Hp} {ta tb te : TE}
theorem el_cat {xs ys : List V} (ha : EvL ta σ H xs) (hb : EvL tb σ H ys) (hl : xs.length + ys.length ≤ 100000) : EvL (tOp rCat ta tb) σ H (xs ++ ys) := fun H1 e Q q =>
  ha H1 e _ fun p H2 n2 e2 hp => hb H2 (e.trans e2) _ fun r H3 n3 e3 hr =>
    ⟨p, r, xs, ys, rfl, rfl, e3 _ _ hp, hr, sz_of hl, fun u nu =>
      q u _ (fresh_back (e2.trans e3) nu) ((e2.trans e3).trans (Ex.new nu)) upd_same⟩
theorem eld_cat {xs ys : List PyData} (ha : EvLD K ta σ H xs) (hb : EvLD K tb σ H ys) (hl : xs.length + ys.length ≤ 100000) : EvLD K (tOp rCat ta tb) σ H (xs ++ ys) := fun H1 e Q q =>
  ha H1 e _ fun p us H2 n2 e2 hp r1 => hb H2 (e.trans e2) _ fun r ws H3 n3 e3 hr r2 =>
    ⟨p, r, us, ws, rfl, rfl, e3 _ _ hp, hr, sz_of (by rw [r1.length, r2.length]; exact hl), fun u nu =>
      q u _ _ (fresh_back (e2.trans e3) nu) ((e2.trans e3).trans (Ex.new nu)) upd_same (((r1.to e3).app r2).to (Ex.new nu))⟩
end
/-! ### lists of whole numbers -/
theorem given_all (n : Nat) (v : Nat → V) : given n (fun _ => true) v = (List.range n).map v := by
  unfold given
  rw [List.filter_eq_self.mpr (fun _ _ => rfl)]
theorem getI {ns : List Int} {i : Nat} {x : V} (h : (ns.map V.int)[i]? = some x) : ∃ k, ns[i]? = some k ∧ x = .int k := by
  rw [List.getElem?_map] at h
  obtain ⟨k, h1, h2⟩ := Option.map_eq_some_iff.mp h
  exact ⟨k, h1, h2.symm⟩
theorem atI_int {ns : List Int} {j : Nat} {k : Int} (h : ns[j]? = some k) : atI (ns.map V.int) (j : Int) = some (.int k) :=
  atI_nat (by rw [List.getElem?_map, h]; rfl)
theorem range_getD {α β : Type} (l : List α) (d : α) (g : α → β) : (List.range l.length).map (fun i => g (l.getD i d)) = l.map g := by
  apply List.ext_getElem?
  intro i
  rw [List.getElem?_map, List.getElem?_map]
  rcases Nat.lt_or_ge i l.length with h | h
  · rw [List.getElem?_range h, List.getElem?_eq_getElem h]
    simp [h]
  · rw [List.getElem?_eq_none (by simpa using h), List.getElem?_eq_none h]
    rfl
theorem getD_of {ns : List Int} {i : Nat} {k : Int} (h : ns[i]? = some k) : ns.getD i 0 = k := by
  rw [List.getD_eq_getElem?_getD, h]
  rfl
theorem take_snoc {ns : List Int} {i : Nat} {k : Int} (h : ns[i]? = some k) : ns.take (i + 1) = ns.take i ++ [k] := by
  rw [List.take_add_one, h]
  rfl
/-- fresh before, too -/
theorem free_of {H H1 : Hp} {p : Addr} (e : Ex H H1) (n : H1 p = none) : H p = none := fresh_back e n
end GS


set_option Elab.async false
set_option linter.all false
set_option maxRecDepth 100000
set_option maxHeartbeats 4000000
namespace GS
open PySem PySem.Spec PyProof.Rows L2 Evl

/-! ### rules with the written part named -/
section
variable {X : Cx} {K : PySem.W.Frag}
theorem k_len (h : X.K = K) : CallR X (.builtin "len") (rLenS K) := h ▸ call_len_seq
theorem k_list (h : X.K = K) : CallR X (.type "list") (rListS K) := h ▸ call_list_of
theorem k_ixl (h : X.K = K) : IxR X (rIxL K) := h ▸ ix_list
theorem k_sll (h : X.K = K) : SlR X (rSlL K) := h ▸ sl_list
theorem k_sum (h : X.K = K) (hc : X.calm = true) : CallR X (.builtin "sum") (rSum K) := h ▸ cr_sum hc
theorem k_all (h : X.K = K) (hc : X.calm = true) : CallR X (.builtin "all") (rAll K) := h ▸ cr_all hc
theorem k_any (h : X.K = K) (hc : X.calm = true) : CallR X (.builtin "any") (rAny K) := h ▸ cr_any hc
theorem k_sorted (h : X.K = K) : CallR X (.builtin "sorted") (rSortedI K) := h ▸ cr_sortedI
theorem k_isi (h : X.K = K) : CallR X (.builtin "isinstance") (rIsAny K) := h ▸ call_isAny
theorem k_repr (h : X.K = K) (hq : X.A.guards = some []) (hu : X.A.units + 64 < cLine) : CallR X (.builtin "repr") (rRepr K) := h ▸ call_repr_any hq hu
theorem k_eq (h : X.K = K) (hu : X.A.units + 64 < cLine) : OpR X (compareOp .Eq) (rEqD K) := h ▸ op_eqD hu
theorem k_ne (h : X.K = K) (hu : X.A.units + 64 < cLine) : OpR X (compareOp .NotEq) (rNeD K) := h ▸ op_neD hu
variable {tg l : Expr} {tl : TE}
theorem k_pil (h : X.K = K) (hl : PE X l tl) : PI X tg l (iList K tl) := h ▸ pi_list hl
theorem k_held {e : Expr} {te : TE} {pos : Pos} (h : X.K = K) (he : PE X e te) (hb : attributeBase e "value" X.env (eval e X.env) = eval e X.env := by rfl) :
    PE X (.Attribute e "value" pos) (tHeldV K te) := h ▸ pe_heldv he hb
theorem k_enum {e : Expr} {ta : TA} {p pos tpos : Pos} {elts : List Expr} {kk : Nat} (h : X.K = K) (hg : Gl X "enumerate") (hm : X.mg "enumerate" = none) (ha : PA X [e] ta)
    (hs : starEach [e] X.env = [(false, eval e X.env)] := by rfl) : PI X (.Tuple elts kk tpos) (.Call (.Name "enumerate" p) [e] [] pos) (iEnum K ta) := h ▸ pi_enum hg hm ha hs
theorem k_gtup {es : List Expr} {k : Nat} {pos : Pos} {t : TGs} {n : Nat} (h : X.K = K) (hc : X.calm = true) (hs : PGs X es t)
    (hn : (assignEach es X.env).length = n := by rfl) (hst : (assignEach es X.env).findIdx? (·.1) = none := by rfl) : PG X (.Tuple es k pos) (gTup K n t) := h ▸ pg_tup hc hs hn hst
theorem k_app {e : Expr} {o : Expr} {to te : TE} {apos cpos : Pos} (h : X.K = K) (ho : PE X o to) (he : PE X e te)
    (hz : PE X (.Call (.Attribute o "append" apos) [e] [] cpos) (tBM X.K "list" rAppend to (tCons te tNil))) : PE X (.Call (.Attribute o "append" apos) [e] [] cpos) (tBM K "list" rAppend to (tCons te tNil)) := h ▸ hz
end
/-! ### a list in order -/
def insI (x : Int) : List Int → List Int
  | [] => [x]
  | y :: r => if x ≤ y then x :: y :: r else y :: insI x r
def isort : List Int → List Int
  | [] => []
  | x :: r => insI x (isort r)
theorem insI_perm (x : Int) : ∀ l : List Int, (insI x l).Perm (x :: l)
  | [] => .refl _
  | y :: r => by
    unfold insI
    split
    · exact .refl _
    · exact ((insI_perm x r).cons y).trans (List.Perm.swap x y r)
theorem isort_perm : ∀ l : List Int, (isort l).Perm l
  | [] => .refl _
  | x :: r => (insI_perm x (isort r)).trans ((isort_perm r).cons x)
theorem insI_pw (x : Int) : ∀ l : List Int, l.Pairwise (· ≤ ·) → (insI x l).Pairwise (· ≤ ·)
  | [], _ => List.pairwise_singleton _ _
  | y :: r, h => by
    have h2 := List.pairwise_cons.mp h
    unfold insI
    split
    · rename_i q
      refine List.pairwise_cons.mpr ⟨fun z hz => ?_, h⟩
      rcases List.mem_cons.mp hz with e | hz
      · rw [e]; exact q
      · exact Int.le_trans q (h2.1 z hz)
    · rename_i q
      refine List.pairwise_cons.mpr ⟨fun z hz => ?_, insI_pw x r h2.2⟩
      rcases List.mem_cons.mp ((insI_perm x r).mem_iff.mp hz) with e | hz
      · rw [e]; omega
      · exact h2.1 z hz
theorem isort_pw : ∀ l : List Int, (isort l).Pairwise (· ≤ ·)
  | [] => .nil
  | x :: r => insI_pw x _ (isort_pw r)
theorem isort_is {l m : List Int} (h : m.Perm l) (p : m.Pairwise (· ≤ ·)) : m = isort l :=
  PySem.W.ksm_same (h.trans (isort_perm l).symm) p (isort_pw l)
theorem isort_of_perm {l m : List Int} (h : l.Perm m) : isort l = isort m := isort_is ((isort_perm l).trans h) (isort_pw l)
theorem isort_len (l : List Int) : (isort l).length = l.length := (isort_perm l).length_eq
def rangeI (n : Nat) : List Int := (List.range n).map fun i : Nat => (i : Int)
theorem rangeI_len (n : Nat) : (rangeI n).length = n := by unfold rangeI; rw [List.length_map, List.length_range]
theorem rangeI_get {n i : Nat} (h : i < n) : (rangeI n)[i]? = some (i : Int) := by
  unfold rangeI
  rw [List.getElem?_map, List.getElem?_range h]
  rfl
theorem rangeI_succ (n : Nat) : rangeI (n + 1) = rangeI n ++ [(n : Int)] := by
  unfold rangeI
  rw [List.range_succ, List.map_append]
  rfl
theorem rangeI_mem {n : Nat} {x : Int} : x ∈ rangeI n ↔ 0 ≤ x ∧ x < n := by
  unfold rangeI
  constructor
  · intro h
    obtain ⟨i, hi, e⟩ := List.mem_map.mp h
    have := List.mem_range.mp hi
    omega
  · intro h
    refine List.mem_map.mpr ⟨x.toNat, List.mem_range.mpr (by omega), ?_⟩
    show ((x.toNat : Nat) : Int) = x
    omega
theorem rangeI_pw (n : Nat) : (rangeI n).Pairwise (· ≤ ·) := by
  induction n with
  | zero => exact (List.Pairwise.nil : ([] : List Int).Pairwise (· ≤ ·))
  | succ n ih =>
    rw [rangeI_succ]
    refine List.pairwise_append.mpr ⟨ih, List.pairwise_singleton _ _, fun a ha b hb => ?_⟩
    have := (rangeI_mem (n := n)).mp ha
    have e := List.mem_singleton.mp hb
    omega
theorem isort_range (n : Nat) : isort (rangeI n) = rangeI n := (isort_is (.refl _) (rangeI_pw n)).symm
theorem perm_iff_isort {l : List Int} : l.Perm (rangeI l.length) ↔ isort l = rangeI l.length := by
  constructor
  · intro h
    rw [isort_of_perm h, isort_range]
  · intro h
    rw [← h]
    exact (isort_perm l).symm

section
variable {K : PySem.W.Frag} {σ : L2.St} {H : Hp} {ta te : TE}
theorem el_sort {p : Addr} {ns : List Int} (ha : Ev ta σ H (.ref p)) (h : SqL K H p (ns.map V.int)) :
    EvL (tCB (rSortedI K) (tCons ta tNil)) σ H ((isort ns).map V.int) := fun H1 e Q q =>
  ha H1 e _ fun H2 e2 => ⟨p, ns, rfl, ex_l (e.trans e2) h, fun m u hm hp hu => by
    rw [isort_is hm hp]
    exact q u _ (fresh_back e2 hu) (e2.trans (Ex.new hu)) upd_same⟩
theorem rgV_eq (n : Nat) : rgV 0 (n : Int) = (rangeI n).map V.int := by
  unfold rgV rangeI
  rw [List.map_map]
  have e : ((n : Int) - 0).toNat = n := by omega
  rw [e]
  apply List.map_congr_left
  intro i _
  show V.int (0 + (i : Int)) = V.int (i : Int)
  rw [Int.zero_add]
theorem el_range {n : Nat} (ha : Ev ta σ H (.int n)) (hn : n ≤ 16777216) : EvL (tLstRg (tRg1 ta)) σ H ((rangeI n).map V.int) := fun H1 e Q q =>
  ha H1 e _ fun H2 e2 => ⟨(n : Int), rfl, RgOk.of_le (Int.le_refl 0) (by omega) (by decide) (by omega), fun u hu => by
    rw [rgV_eq]
    exact q u _ (fresh_back e2 hu) (e2.trans (Ex.new hu)) upd_same⟩
theorem el_range2 {a b : Int} {tb : TE} (ha : Ev ta σ H (.int a)) (hb : Ev tb σ H (.int b)) (ok : RgOk a b) : EvL (tLstRg (tRg2 ta tb)) σ H (rgV a b) := fun H1 e Q q =>
  ha H1 e _ fun H2 e2 => hb H2 (e.trans e2) _ fun H3 e3 => ⟨a, b, rfl, rfl, ok, fun u hu =>
    q u _ (fresh_back (e2.trans e3) hu) ((e2.trans e3).trans (Ex.new hu)) upd_same⟩

/-! ### a list made over enumerate, and one made by calls that change something -/
theorem el_lcE {tas : TA} {tt : TT} {a : Addr} {xs : List V} {vs : List Nat} {i j : Nat} (f : Nat → Bool) (v : Nat → V) (h : EvA tas σ H [.ref a]) (hx : SqL K H a xs) (hz : xs.length ≤ 40000)
    (hw : ∀ x y, wipe (((wipe σ vs).set i (some x)).set j (some y)) vs = wipe σ vs)
    (ht : ∀ (n : Nat) (x : V) H1, Ex H H1 → xs[n]? = some x → EvT tt (((wipe σ vs).set i (some (.int (n : Int)))).set j (some x)) H1 (f n))
    (he : ∀ (n : Nat) (x : V) H1, Ex H H1 → xs[n]? = some x → f n = true → Ev te (((wipe σ vs).set i (some (.int (n : Int)))).set j (some x)) H1 (v n)) :
    EvL (tLc (iEnum K tas) (gTup K 2 (gCons (gName i) (gCons (gName j) gNil))) tt te vs) σ H (given xs.length f v) := fun H0 e Q q => h H0 e _ fun H1 e1 => by
  refine ⟨a, xs, rfl, ex_l (e.trans e1) hx, fun Dl hD => ?_⟩
  refine ⟨fun n m H' => m = xs.length - n ∧ n ≤ xs.length ∧ Cw H1 f v Dl n H', ⟨xs.length, by simp, Nat.zero_le _, hD, Ex.new hD, upd_same⟩, ?_⟩
  rintro n m H' ⟨rfl, hn, p⟩
  have sq : SqL K H' a xs := ex_l ((e.trans e1).trans p.2.1) hx
  rcases Nat.lt_or_ge n xs.length with lt | ge
  · refine .inr ⟨⟨xs, xs[n], sq, List.getElem?_eq_getElem lt⟩, Cw H1 f v Dl (n + 1), fun H2 p2 => ⟨xs.length - (n + 1), by omega, rfl, lt, p2⟩, ?_⟩
    rintro x H2 ⟨T, y, rfl, nT, rfl, hy⟩
    have gy := hy xs sq
    have eT : Ex H' (upd H' T (.tup [.int (n : Nat), y])) := Ex.new nT
    refine ⟨T, [.int (n : Nat), y], rfl, st_of upd_same, rfl, .int (n : Nat), [y], rfl, y, [], rfl, rfl, hw _ _, ?_⟩
    have p2 : Cw H1 f v Dl n (upd H' T (.tup [.int (n : Nat), y])) := ⟨p.1, p.2.1.trans eT, eT _ _ p.2.2⟩
    exact cw_turn p2 (by omega) (ht n y H1 (e.trans e1) gy) (fun hf => he n y H1 (e.trans e1) gy hf)
  · have en : n = xs.length := by omega
    subst en
    exact .inl ⟨⟨xs, sq, Nat.le_refl _⟩, q Dl H' (fresh_back e1 p.1) (e1.trans p.2.1) p.2.2⟩

/-- over range(n), the elements by any means; acc: what is made so far -/
theorem lc_rng {tas : TA} {tt : TT} {vs : List Nat} {j : Nat} {n : Int} {Q : VK} (h : EvA tas σ H [.int n]) (hn : 0 ≤ n ∧ n ≤ 40000)
    (hw : ∀ x, wipe ((wipe σ vs).set j (some x)) vs = wipe σ vs) (Pv : Addr → Nat → List V → Hp → Prop)
    (h0 : ∀ D H1, Ex H H1 → H1 D = none → Pv D 0 [] (upd H1 D (.lst [])))
    (hs : ∀ D (i : Nat) acc H2, (i : Int) < n → Pv D i acc H2 → tt ((wipe σ vs).set j (some (.int (i : Int)))) H2 fun b H3 =>
      if b = true then te ((wipe σ vs).set j (some (.int (i : Int)))) H3 fun y H4 => ∃ acc2, H4 D = some (.lst acc2) ∧ acc2.length < sizeLine ∧
        ∃ acc, Pv D (i + 1) acc (upd H4 D (.lst (acc2 ++ [y])))
      else ∃ acc, Pv D (i + 1) acc H3)
    (hd : ∀ D acc H2, Pv D n.toNat acc H2 → Q (.ref D) H2) : tLc (iRng1 tas) (gName j) tt te vs σ H Q :=
  h H (Ex.refl H) _ fun H1 e1 => ⟨n, rfl, by omega, by omega, fun D hD => by
    refine ⟨fun i m H2 => m = n.toNat - i ∧ i ≤ n.toNat ∧ ∃ acc, Pv D i acc H2, ⟨n.toNat, by simp, Nat.zero_le _, [], h0 D H1 e1 hD⟩, ?_⟩
    rintro i m H2 ⟨rfl, hi, acc, p⟩
    rcases Nat.lt_or_ge i n.toNat with lt | ge
    · refine .inr ⟨lt, fun H3 => ∃ acc, Pv D (i + 1) acc H3, fun H3 p3 => ⟨n.toNat - (i + 1), by omega, rfl, lt, p3⟩, ?_⟩
      rintro x H3 ⟨rfl, rfl⟩
      have e0 : (0 : Int) + (i : Int) = (i : Int) := Int.zero_add _
      rw [e0]
      exact ⟨hw _, hs D i acc H3 (by omega) p⟩
    · have en : i = n.toNat := by omega
      subst en
      exact .inl ⟨Nat.le_refl _, hd D acc H2 p⟩⟩
end
end GS


set_option Elab.async false
set_option linter.all false
set_option maxRecDepth 100000
set_option maxHeartbeats 4000000
namespace GS
open PySem PySem.Spec PyProof.Rows L2 Evl
section
variable {K : PySem.W.Frag} {σ : L2.St} {H : Hp} {ta tb te : TE} {D : Ends} {tz tu : TS}
/-- for i, x in enumerate(xs) -/
theorem q_forE {tas : TA} {a : Addr} {xs : List V} {i j : Nat} (h : EvA tas σ H [.ref a]) (hx : SqL K H a xs) (Pv : Nat → L2.St → Hp → Prop) (h0 : ∀ H1, Ex H H1 → Pv 0 σ H1)
    (hl : ∀ n σ' H', n ≤ xs.length → Pv n σ' H' → SqL K H' a xs)
    (hs : ∀ (n : Nat) x σ' H', xs[n]? = some x → Pv n σ' H' → ∀ H2, Ex H' H2 → tu { D with nx := Pv (n + 1), ct := Pv (n + 1), bk := tz D } ((σ'.set i (some (.int (n : Int)))).set j (some x)) H2)
    (hd : ∀ σ' H', Pv xs.length σ' H' → tz D σ' H') :
    tSeq (tFor (iEnum K tas) (gTup K 2 (gCons (gName i) (gCons (gName j) gNil))) tu) tz D σ H := h H (Ex.refl H) _ fun H1 e1 => by
  refine ⟨a, xs, rfl, ex_l e1 hx, fun n m σ' H' => m = xs.length - n ∧ n ≤ xs.length ∧ Pv n σ' H', ⟨xs.length, by simp, Nat.zero_le _, h0 H1 e1⟩, ?_⟩
  rintro n m σ' H' ⟨rfl, hn, p⟩
  have sq : SqL K H' a xs := hl n σ' H' hn p
  rcases Nat.lt_or_ge n xs.length with lt | ge
  · refine .inr ⟨⟨xs, xs[n], sq, List.getElem?_eq_getElem lt⟩, Pv (n + 1), fun σ2 H2 p2 => ⟨xs.length - (n + 1), by omega, rfl, lt, p2⟩, ?_⟩
    rintro x H2 ⟨T, y, rfl, nT, rfl, hy⟩
    have gy := hy xs sq
    exact ⟨T, [.int (n : Nat), y], rfl, st_of upd_same, rfl, .int (n : Nat), [y], rfl, y, [], rfl, rfl, hs n y σ' H' gy p _ (Ex.new nT)⟩
  · have en : n = xs.length := by omega
    subst en
    exact .inl ⟨⟨xs, sq, Nat.le_refl _⟩, hd σ' H' p⟩
/-- a new dict -/
def EvK (te : TE) (σ : L2.St) (H : Hp) (kvs : List (Key × V)) : Prop := ∀ H1, Ex H H1 → ∀ Q : VK, (∀ p H2, H1 p = none → Ex H1 H2 → H2 p = some (.dK kvs) → Q (.ref p) H2) → te σ H1 Q
def ranksK (ns : List Int) (n : Nat) : List (Key × V) := (List.range n).map fun i => (.inl (ns.getD i 0), .int (i : Int))
theorem ranksK_succ (ns : List Int) (n : Nat) : ranksK ns (n + 1) = ranksK ns n ++ [(.inl (ns.getD n 0), .int (n : Int))] := by
  unfold ranksK
  rw [List.range_succ, List.map_append]
  rfl
theorem nd_get {ns : List Int} (h : ns.Nodup) {i j : Nat} (hi : i < ns.length) (hj : j < ns.length) (e : ns.getD i 0 = ns.getD j 0) : i = j := by
  rw [List.getD_eq_getElem?_getD, List.getD_eq_getElem?_getD, List.getElem?_eq_getElem hi, List.getElem?_eq_getElem hj] at e
  have e : ns[i] = ns[j] := e
  rcases Nat.lt_trichotomy i j with lt | eq | gt
  · exact absurd e (List.pairwise_iff_getElem.mp h i j hi hj lt)
  · exact eq
  · exact absurd e.symm (List.pairwise_iff_getElem.mp h j i hj hi gt)
theorem ranksK_put {ns : List Int} (h : ns.Nodup) {n : Nat} (hn : n < ns.length) : putK (ranksK ns n) (.inl (ns.getD n 0)) (.int (n : Int)) = ranksK ns (n + 1) := by
  rw [ranksK_succ]
  unfold putK
  rw [if_neg]
  intro z
  obtain ⟨q, hq, e⟩ := List.any_eq_true.mp z
  obtain ⟨i, hi, rfl⟩ := List.mem_map.mp hq
  have hi2 := List.mem_range.mp hi
  have e2 : (Sum.inl (ns.getD i 0) : Key) = .inl (ns.getD n 0) := of_decide_eq_true e
  have := nd_get h (by omega) hn (Sum.inl.inj e2)
  omega
theorem ranksK_get {ns : List Int} (h : ns.Nodup) {n : Nat} (hn : n < ns.length) : valV (ranksK ns ns.length) (.inl (ns.getD n 0)) = some (.int (n : Int)) := by
  unfold valV ranksK
  rw [List.find?_map]
  have e : (List.range ns.length).find? ((fun kv : Key × V => decide (kv.1 = .inl (ns.getD n 0))) ∘ fun i => (.inl (ns.getD i 0), .int (i : Int))) = some n := by
    rw [List.find?_range_eq_some]
    refine ⟨decide_eq_true rfl, List.mem_range.mpr hn, fun j hj => ?_⟩
    simp only [Function.comp, Bool.not_eq_true', decide_eq_false_iff_not]
    intro e
    have := nd_get h (by omega) hn (Sum.inl.inj e)
    omega
  rw [e]
  rfl
theorem ek_rank {ns : List Int} {i j : Nat} {vs : List Nat} (h : EvL te σ H (ns.map V.int)) (nd : ns.Nodup) (hl : ns.length ≤ 40000) (hij : i ≠ j) (hi : i < σ.length) (hj : j < σ.length)
    (hw : ∀ x y, wipe (((wipe σ vs).set i (some x)).set j (some y)) vs = wipe σ vs) :
    EvK (tDc (iEnum K (tCons te tNil)) (gTup K 2 (gCons (gName i) (gCons (gName j) gNil))) tYes (tVar j) (tVar i) vs) σ H (ranksK ns ns.length) := fun H0 e Q q =>
  h H0 e _ fun a H1 na e1 ha => by
    refine ⟨a, ns.map V.int, rfl, sq_of ha, fun Dd hD => ?_⟩
    have da : a ≠ Dd := ne_of_none ha hD
    refine ⟨fun n m H' => m = ns.length - n ∧ n ≤ ns.length ∧ Ex H1 H' ∧ H' Dd = some (.dK (ranksK ns n)), ⟨ns.length, by simp, Nat.zero_le _, Ex.new hD, upd_same⟩, ?_⟩
    rintro n m H' ⟨rfl, hn, e2, hK⟩
    have sq : SqL K H' a (ns.map V.int) := sq_of (e2 _ _ ha)
    rcases Nat.lt_or_ge n ns.length with lt | ge
    · refine .inr ⟨⟨ns.map V.int, .int (ns.getD n 0), sq, ?_⟩, fun H2 => Ex H1 H2 ∧ H2 Dd = some (.dK (ranksK ns (n + 1))), fun H2 p2 => ⟨ns.length - (n + 1), by omega, rfl, lt, p2⟩, ?_⟩
      · rw [List.getElem?_map, List.getElem?_eq_getElem lt, List.getD_eq_getElem?_getD, List.getElem?_eq_getElem lt]
        rfl
      rintro x H2 ⟨T, y, rfl, nT, rfl, hy⟩
      obtain ⟨k, hk, rfl⟩ := getI (hy _ sq)
      have hk2 := getD_of hk
      refine ⟨T, [.int (n : Nat), .int k], rfl, st_of upd_same, rfl, .int (n : Nat), [.int k], rfl, .int k, [], rfl, rfl, hw _ _, ?_⟩
      have l1 : (((wipe σ vs).set i (some (V.int (n : Int)))).set j (some (V.int k)))[j]? = some (some (V.int k)) := by
        rw [List.getElem?_set_self (by rw [List.length_set, wipe_length]; exact hj)]
      have l2 : (((wipe σ vs).set i (some (V.int (n : Int)))).set j (some (V.int k)))[i]? = some (some (V.int (n : Int))) := by
        rw [List.getElem?_set_ne (Ne.symm hij), List.getElem?_set_self (by rw [wipe_length]; exact hi)]
      have hD2 : (upd H' T (.tup [.int (n : Nat), .int k])) Dd = some (.dK (ranksK ns n)) := Ex.new nT _ _ hK
      unfold tYes
      refine iteT ?_
      refine ⟨.int k, l1, .int (n : Int), l2, ranksK ns n, .inl k, rfl, hD2, ?_, ?_, ?_⟩
      · unfold ranksK
        rw [List.length_map, List.length_range]
        exact sz_lt (by omega)
      · exact (e2.trans (Ex.new nT)).mut hD
      · rw [upd_same, ← hk2, ranksK_put nd lt]
    · have en : n = ns.length := by omega
      subst en
      exact .inl ⟨⟨ns.map V.int, sq, by rw [List.length_map]; exact Nat.le_refl _⟩, q Dd H' (free_of e1 hD) (e1.trans e2) hK⟩
theorem ev_rank {ns : List Int} {p : Addr} {k : Int} {n : Nat} (nd : ns.Nodup) (hn : ns[n]? = some k) (hp : H p = some (.dK (ranksK ns ns.length))) (ha : Ev ta σ H (.ref p)) (hb : Ev tb σ H (.int k)) : Ev (tDGet ta tb) σ H (.int (n : Int)) := fun H1 e Q q =>
  ha H1 e _ fun H2 e2 => hb H2 (e.trans e2) _ fun H3 e3 => ⟨p, .int (n : Int), rfl, by
    have z := DGet.k (k := .inl k) (((e.trans e2).trans e3) _ _ hp)
    have lt := (List.getElem?_eq_some_iff.mp hn).1
    have g := ranksK_get nd lt
    rw [getD_of hn] at g
    rw [g] at z
    exact z, q H3 (e2.trans e3)⟩
theorem q_asgK {i : Nat} {kvs : List (Key × V)} (h : EvK te σ H kvs) (k : ∀ p H1, H p = none → Ex H H1 → H1 p = some (.dK kvs) → tz D (σ.set i (some (.ref p))) H1) :
    tSeq (tAsg te (gName i)) tz D σ H := h H (Ex.refl H) _ k
end
end GS


set_option Elab.async false
set_option linter.all false
set_option maxRecDepth 100000
set_option maxHeartbeats 4000000
namespace GS
open PySem PySem.Spec PyProof.Rows L2 Evl

/-! ### factorial, divmod -/
def rFact : List V → Hp → VK → Prop := fun vs H Q => ∃ a : Nat, vs = [.int a] ∧ a ≤ 20000 ∧ Q (.int ((Builtin.Math.factorialNat a : Nat) : Int)) H
def rDivm : List V → Hp → VK → Prop := fun xs H Q => ∃ i j, xs = [.int i, .int j] ∧ CDivP i j ∧ ∀ p, H p = none → Q (.ref p) (upd H p (.tup [.int (i / j), .int (i % j)]))
section
variable {X : Cx}
theorem c_fact : CallR X (.builtin "math.factorial") rFact := by
  intro pins s σ H vs us Q I r h
  obtain ⟨a, rfl, ha, q⟩ := h
  obtain ⟨u, rfl, t, rfl⟩ := Vals.one r
  refine PySem.W.mc_factorial (by omega) (by omega) fun _ => ?_
  rw [Int.toNat_natCast]
  exact ⟨.int _, H, I.tok _, ⟨_, rfl⟩, q⟩
theorem c_divm : CallR X (.builtin "divmod") rDivm := call_divmodW
end
section
variable {K : PySem.W.Frag} {σ : L2.St} {H : Hp} {ta tb te : TE} {D : Ends} {tz : TS}
theorem ev_fact {a : Nat} (ha : Ev ta σ H (.int a)) (h : a ≤ 20000) : Ev (tCB rFact (tCons ta tNil)) σ H (.int ((Builtin.Math.factorialNat a : Nat) : Int)) := fun H1 e Q q =>
  ha H1 e _ fun H2 e2 => ⟨a, rfl, h, q H2 e2⟩
/-- x, y = divmod(a, b) -/
theorem q_divm {i j : Nat} {a b : Int} (ha : Ev ta σ H (.int a)) (hb : Ev tb σ H (.int b)) (hc : CDivP a b)
    (k : ∀ H1, Ex H H1 → tz D ((σ.set i (some (.int (a / b)))).set j (some (.int (a % b)))) H1) :
    tSeq (tAsg (tCB rDivm (tCons ta (tCons tb tNil))) (gTup K 2 (gCons (gName i) (gCons (gName j) gNil)))) tz D σ H :=
  ha H (Ex.refl H) _ fun H1 e1 => hb H1 e1 _ fun H2 e2 => ⟨a, b, rfl, hc, fun t nt =>
    ⟨t, [.int (a / b), .int (a % b)], rfl, st_of upd_same, rfl, _, _, rfl, _, _, rfl, rfl, k _ ((e1.trans e2).trans (Ex.new nt))⟩⟩
end

/-! ### list(range(a, b, c)) -/
def rg3V (a c : Int) (n : Nat) : List V := (List.range n).map fun i => V.int (a + (i : Nat) * c)
def Rg3Ok (a b c : Int) (n : Nat) : Prop := Builtin.Range.small a b c = true ∧ Builtin.Range.rangeSize a b c = n ∧ n ≤ 2 ^ 24
theorem vals_rg3 {a c : Int} {n : Nat} {acc : Array Value} (h : ItemsOf (fun i v => ∃ t, v = .int (a + i * c) t) acc n) : Vals (rg3V a c n) acc.toList := by
  have e : acc.toList.length = n := by rw [Array.length_toList]; exact h.1
  unfold rg3V
  rw [← e]
  refine vals_of_get acc.toList _ fun j u hj => ?_
  obtain ⟨t, rfl⟩ := h.2 j u (by rw [← hj, Array.getElem?_toList])
  exact ⟨t, rfl⟩
def PRg3 (X : Cx) (e : Expr) (t : L2.St → Hp → (Int → Int → Int → Hp → Prop) → Prop) : Prop :=
  ∀ (pins : List (Addr × Obj)) (s : Shared) (σ : L2.St) (H : Hp) (Q : Int → Int → Int → Hp → Prop), Inv X pins σ H s → t σ H Q →
    wpAny (model X.prog X.w) X.A (eval e X.env) (fun x s2 => ∃ r a b c t u v H2, x = .ref r ∧ IsRange s2.heap r a b c t u v ∧ Inv X pins σ H2 s2 ∧ Q a b c H2) X.xe s
def tRg3 (ta : TA) : L2.St → Hp → (Int → Int → Int → Hp → Prop) → Prop := fun σ H Q => ta σ H fun vs H1 => ∃ a b c : Int, vs = [.int a, .int b, .int c] ∧ c ≠ 0 ∧ Builtin.divisionGoesByPylong (b - a) c = false ∧ Q a b c H1
theorem prg_3 {X : Cx} {a b c : Expr} {ta : TA} {p pos : Pos} (hg : Gl X "range") (hm : X.mg "range" = none) (ha : PA X [a, b, c] ta)
    (hs : starEach [a, b, c] X.env = (false, eval a X.env) :: starEach [b, c] X.env := by rfl) (hpl : (backTo pos (starEach [b, c] X.env)).any (·.1) = false := by rfl) : PRg3 X (.Call (.Name "range" p) [a, b, c] [] pos) (tRg3 ta) := by
  intro pins s σ H Q I h
  refine Call_ (ld_blt I hg hm boot_range (PyProof.Rows.callWith_type1 (thn (ha.run pos pins s σ H _ I h) fun us s1 ⟨vs, H1, I1, r1, i, j, k, ev, h0, h1, q⟩ => ?_) hs hpl))
  subst ev
  cases r1 with
  | cons x1 r1 =>
    cases r1 with
    | cons x2 r1 =>
      cases r1 with
      | cons x3 r1 =>
        cases r1
        obtain ⟨t1, rfl⟩ := x1
        obtain ⟨t2, rfl⟩ := x2
        obtain ⟨t3, rfl⟩ := x3
        exact call_range_3 h0 ⟨_, i, j, k, _, _, _, H1, rfl, IsRange.new _ _ _ _ _ _ _, I1.kept fun b u e => Heap.get?_push_of_some _ e, q⟩ (.inl h1)
def tLstRg3 (te : L2.St → Hp → (Int → Int → Int → Hp → Prop) → Prop) : TE := fun σ H Q => te σ H fun a b c H1 => ∃ n, Rg3Ok a b c n ∧ ∀ q, H1 q = none → Q (.ref q) (upd H1 q (.lst (rg3V a c n)))
theorem pe_listRg3 {X : Cx} {e : Expr} {te : L2.St → Hp → (Int → Int → Int → Hp → Prop) → Prop} {p pos : Pos} (hc : X.calm = true) (hg : Gl X "list") (hm : X.mg "list" = none) (he : PRg3 X e te) (na : starEach [e] X.env = (false, eval e X.env) :: starEach [] X.env := by rfl) :
    PE X (.Call (.Name "list" p) [e] [] pos) (tLstRg3 te) := by
  refine ⟨fun pins s σ H Q I h => ?_⟩
  refine Call_ (ld_blt I hg hm boot_list (PyProof.Rows.callWith_type1 (args_cons (thn (he pins s σ H _ I h) fun x s1 ⟨r, a, b, c, t, u, v, H1, ex, hr, I1, n, ok, q⟩ => args_nil ?_) na) na))
  subst ex
  obtain ⟨b1, b2, b3⟩ := ok
  refine call_list_range (n := n) (I1.ok.hd hc) hr b1 b2 b3 fun h' tk acc c' hk e' hi => ?_
  refine ⟨.ref s1.heap.objs.size, upd H1 s1.heap.objs.size (.lst (rg3V a c n)), I1.laid hk (Nat.le_refl _) (show ObjOk X.prog X.w _ _ _ (.lst (rg3V a c n)) from ⟨?_, acc.toList, c', vals_rg3 hi, ?_⟩), rfl, q _ (I1.hok.fresh (Nat.le_refl _))⟩
  · unfold rg3V
    rw [List.length_map, List.length_range, sizeLine_eq]
    omega
  · rw [Array.toArray_toList]; exact e'
theorem el_range3 {K : PySem.W.Frag} {σ : L2.St} {H : Hp} {ta : TA} {a b c : Int} {n : Nat} (ha : EvA ta σ H [.int a, .int b, .int c]) (h0 : c ≠ 0) (h1 : Builtin.divisionGoesByPylong (b - a) c = false) (ok : Rg3Ok a b c n) :
    EvL (tLstRg3 (tRg3 ta)) σ H (rg3V a c n) := fun H1 e Q q =>
  ha H1 e _ fun H2 e2 => ⟨a, b, c, rfl, h0, h1, n, ok, fun u hu => q u _ (fresh_back e2 hu) (e2.trans (Ex.new hu)) upd_same⟩

/-! ### a < b of lists of numbers -/
def rLtI (K : PySem.W.Frag) : R2 := fun x y H Q => ∃ a b : List Int, Rp K H x (.list (a.map .int)) ∧ Rp K H y (.list (b.map .int)) ∧ Q (.bl (decide (a < b))) H
theorem ndI' : ∀ a : List Int, PyData.hasDictAll (a.map .int) = false
  | [] => rfl
  | x :: a => by
    show (false || PyData.hasDictAll (a.map .int)) = false
    rw [ndI' a]; rfl
theorem depI : ∀ a : List Int, (PyData.list (a.map .int)).depth = 1 := fun a => by
  show PyData.depthAll (a.map .int) + 1 = 1
  rw [PySem.W.depth_ints]
theorem k_ltI {X : Cx} {K : PySem.W.Frag} (hK : X.K = K) (hu : X.A.units + 64 < cLine) : OpR X (compareOp .Lt) (rLtI K) := by
  subst hK
  intro pins s σ H x y v u Q I rx ry h
  obtain ⟨a, b, ha, hb, q⟩ := h
  obtain ⟨as, r1⟩ := Dp.reads I (.list (a.map .int)) x v (Rp.dp _ _ ha (ndI' a)) rx
  obtain ⟨bs, r2⟩ := Dp.reads I (.list (b.map .int)) y u (Rp.dp _ _ hb (ndI' b)) ry
  have z := PySem.W.rcLt_alike (.list (a.map .int)) (.list (b.map .int)) X.A s v u as bs r1 r2 (by
    show PySem.W.alikeAll _ _ = true
    exact PySem.W.alike_ints a b) (by intro z; cases z) (by rw [depI, depI]; omega)
  have e : PySem.W.dataLt (.list (a.map .int)) (.list (b.map .int)) = decide (a < b) := by
    rw [PySem.W.dataLt_list]
    exact PySem.W.dataLt_ints a b
  rw [e] at z
  exact z X.prog X.w X.xe _ ⟨.bl _, H, I, rfl, q⟩
section
variable {K : PySem.W.Frag} {σ : L2.St} {H : Hp} {ta tb te : TE} {D : Ends} {tz tu : TS}
theorem ev_ltI {a b : List Int} (ha : EvD K ta σ H (.list (a.map .int))) (hb : EvD K tb σ H (.list (b.map .int))) : Ev (tOp (rLtI K) ta tb) σ H (.bl (decide (a < b))) := fun H1 e Q q =>
  ha H1 e _ fun v H2 e2 r => hb H2 (e.trans e2) _ fun u H3 e3 r2 => ⟨a, b, r.to e3, r2, q H3 (e2.trans e3)⟩
/-- a op b op c -/
theorem ev_chain {r r' : R2} {tc : TE} {x y z : V} {k b : Bool} (ha : Ev ta σ H x) (hb : Ev tb σ H y) (hc : Ev tc σ H z) (h1 : RV r x y H (.bl k)) (h2 : k = true → RV r' y z H (.bl b)) :
    Ev (tChain r r' ta tb tc) σ H (.bl (k && b)) := fun H1 e Q q =>
  ha H1 e _ fun H2 e2 => hb H2 (e.trans e2) _ fun H3 e3 => h1 H3 ((e.trans e2).trans e3) _ fun H4 e4 => ⟨k, rfl, by
    cases k with
    | false => exact q H4 ((e2.trans e3).trans e4)
    | true =>
      exact hc H4 (((e.trans e2).trans e3).trans e4) _ fun H5 e5 => h2 rfl H5 ((((e.trans e2).trans e3).trans e4).trans e5) Q fun H6 e6 => q H6 ((((e2.trans e3).trans e4).trans e5).trans e6)⟩
/-! ### for x in reversed(xs) -/
theorem q_forRev {tas : TA} {a : Addr} {xs : List V} {j : Nat} (h : EvA tas σ H [.ref a]) (hx : SqL K H a xs) (Pv : Nat → L2.St → Hp → Prop) (h0 : ∀ H1, Ex H H1 → Pv 0 σ H1)
    (hl : ∀ n σ' H', n ≤ xs.length → Pv n σ' H' → SqL K H' a xs)
    (hs : ∀ (n : Nat) x σ' H', xs.reverse[n]? = some x → Pv n σ' H' → tu { D with nx := Pv (n + 1), ct := Pv (n + 1), bk := tz D } (σ'.set j (some x)) H')
    (hd : ∀ σ' H', Pv xs.length σ' H' → tz D σ' H') : tSeq (tFor (iRev K tas) (gName j) tu) tz D σ H := h H (Ex.refl H) _ fun H1 e1 => by
  refine ⟨a, xs, rfl, ex_l e1 hx, fun n m σ' H' => m = xs.length - n ∧ n ≤ xs.length ∧ Pv n σ' H', ⟨xs.length, by simp, Nat.zero_le _, h0 H1 e1⟩, ?_⟩
  rintro n m σ' H' ⟨rfl, hn, p⟩
  have sq : SqL K H' a xs := hl n σ' H' hn p
  rcases Nat.lt_or_ge n xs.length with lt | ge
  · refine .inr ⟨⟨lt, xs, xs[xs.length - 1 - n], sq, List.getElem?_eq_getElem (by omega)⟩, Pv (n + 1), fun σ2 H2 p2 => ⟨xs.length - (n + 1), by omega, rfl, lt, p2⟩, ?_⟩
    rintro x H2 ⟨rfl, hy⟩
    refine hs n x σ' _ ?_ p
    rw [List.getElem?_reverse lt]
    exact hy xs sq
  · have en : n = xs.length := by omega
    subst en
    exact .inl ⟨Nat.le_refl _, hd σ' H' p⟩
/-! ### xs.index(k), xs.remove(k), ys.append(xs.pop(k)) -/
theorem ev_index {p : Addr} {ns : List Int} {k : Int} {j : Nat} (ha : Ev ta σ H (.ref p)) (hb : Ev tb σ H (.int k)) (hs : SqL K H p (ns.map V.int)) (hj : ns[j]? = some k) (hf : ∀ m : Nat, m < j → ns[m]? ≠ some k) :
    Ev (tBM K "list" (rIndex K) ta (tCons tb tNil)) σ H (.int (j : Nat)) := fun H1 e Q q =>
  ha H1 e _ fun H2 e2 => ⟨.inl ⟨rfl, _, ex_l (e.trans e2) hs⟩, hb H2 (e.trans e2) _ fun H3 e3 => ⟨p, ns.map V.int, .int k, j, .int k, rfl, rfl, ex_l ((e.trans e2).trans e3) hs, rfl, by
      rw [List.all_map]
      exact List.all_eq_true.mpr fun _ _ => rfl, by rw [List.getElem?_map, hj]; rfl, by
      show (k == k) = true
      exact beq_self_eq_true k, fun m z hm hz => by
      obtain ⟨i, hi, rfl⟩ := getI hz
      show (i == k) = false
      rw [beq_eq_false_iff_ne]
      intro e
      subst e
      exact hf m hm hi, q H3 (e2.trans e3)⟩⟩
theorem q_remove {p : Addr} {ns : List Int} {k : Int} {j : Nat} (ha : Ev ta σ H (.ref p)) (hb : Ev tb σ H (.int k)) (hp : H p = some (.lst (ns.map V.int))) (hj : ns[j]? = some k) (hf : ∀ m : Nat, m < j → ns[m]? ≠ some k)
    (q : ∀ H1, Ex H H1 → tz D σ (upd H1 p (.lst ((ns.eraseIdx j).map V.int)))) : tSeq (tDrop (tBM K "list" rRemI ta (tCons tb tNil))) tz D σ H :=
  ha H (Ex.refl H) _ fun H1 e1 => ⟨.inl ⟨rfl, _, sq_of (e1 _ _ hp)⟩, hb H1 e1 _ fun H2 e2 => ⟨p, ns, k, j, rfl, rfl, (e1.trans e2) _ _ hp, hj, hf, q H2 (e1.trans e2)⟩⟩
theorem s_remove {p : Addr} {ns : List Int} {k : Int} {j : Nat} (ha : Ev ta σ H (.ref p)) (hb : Ev tb σ H (.int k)) (hp : H p = some (.lst (ns.map V.int))) (hj : ns[j]? = some k) (hf : ∀ m : Nat, m < j → ns[m]? ≠ some k)
    (q : ∀ H1, Ex H H1 → D.nx σ (upd H1 p (.lst ((ns.eraseIdx j).map V.int)))) : tDrop (tBM K "list" rRemI ta (tCons tb tNil)) D σ H :=
  ha H (Ex.refl H) _ fun H1 e1 => ⟨.inl ⟨rfl, _, sq_of (e1 _ _ hp)⟩, hb H1 e1 _ fun H2 e2 => ⟨p, ns, k, j, rfl, rfl, (e1.trans e2) _ _ hp, hj, hf, q H2 (e1.trans e2)⟩⟩
theorem seqIx_nat {j n : Nat} (h : j < n) : seqIndex? (j : Int) n = some j := by
  have e : (if (j : Int) < 0 then (j : Int) + n else (j : Int)) = j := if_neg (by omega)
  unfold seqIndex?
  simp only [e]
  rw [if_pos]
  · rfl
  · rw [Bool.and_eq_true, decide_eq_true_eq, decide_eq_true_eq]
    omega
theorem map_eraseIdx {α β : Type} (f : α → β) : ∀ (l : List α) (j : Nat), (l.eraseIdx j).map f = (l.map f).eraseIdx j
  | [], _ => rfl
  | _ :: _, 0 => rfl
  | x :: l, j + 1 => by
    show f x :: (l.eraseIdx j).map f = f x :: (l.map f).eraseIdx j
    rw [map_eraseIdx f l j]
theorem s_appPop {tc : TE} {l p : Addr} {ys : List V} {ns : List Int} {k : Int} {j : Nat} (ha : Ev ta σ H (.ref l)) (hb : Ev tb σ H (.ref p)) (hc : Ev tc σ H (.int (j : Nat))) (lp : l ≠ p) (hl : H l = some (.lst ys)) (hp : H p = some (.lst (ns.map V.int)))
    (hj : ns[j]? = some k) (hn : ns.length ≤ 100000) (hy : ys.length < 100000) (q : ∀ H1, Ex H H1 → D.nx σ (upd (upd H1 p (.lst ((ns.eraseIdx j).map V.int))) l (.lst (ys ++ [.int k])))) :
    tDrop (tBM K "list" rAppend ta (tCons (tBM K "list" rPopAt tb (tCons tc tNil)) tNil)) D σ H :=
  ha H (Ex.refl H) _ fun H1 e1 => ⟨.inl ⟨rfl, _, sq_of (e1 _ _ hl)⟩, hb H1 e1 _ fun H2 e2 => ⟨.inl ⟨rfl, _, sq_of ((e1.trans e2) _ _ hp)⟩, hc H2 (e1.trans e2) _ fun H3 e3 => by
    have lt := (List.getElem?_eq_some_iff.mp hj).1
    refine ⟨p, ns.map V.int, j, j, .int k, rfl, rfl, ((e1.trans e2).trans e3) _ _ hp, by omega, by omega, seqIx_nat (by rw [List.length_map]; exact lt), by rw [List.getElem?_map, hj]; rfl, ?_⟩
    refine ⟨l, ys, .int k, rfl, rfl, ?_, sz_lt hy, ?_⟩
    · rw [upd_ne lp]
      exact ((e1.trans e2).trans e3) _ _ hl
    · have z := q H3 ((e1.trans e2).trans e3)
      rw [map_eraseIdx] at z
      exact z⟩⟩
end

section
variable {X : Cx} {K : PySem.W.Frag} {tg : Expr}
theorem k_rev {e : Expr} {ta : TA} {p pos : Pos} (h : X.K = K) (hg : Gl X "reversed") (hm : X.mg "reversed" = none) (ha : PA X [e] ta) (hs : starEach [e] X.env = [(false, eval e X.env)] := by rfl) :
    PI X tg (.Call (.Name "reversed" p) [e] [] pos) (iRev K ta) := h ▸ pi_reversed hg hm ha hs
theorem k_index (h : X.K = K) : MtR X "list.index" (rIndex K) := h ▸ mt_index
def rIntB : List V → Hp → VK → Prop := fun xs H Q => ∃ k, xs = [.bl k] ∧ Q (.int (if k then 1 else 0)) H
theorem c_intB : CallR X (.type "int") rIntB := fun pins s σ H xs us Q I r h => call_int1 pins s σ H xs us Q I r (.inr h)
theorem ev_intB {σ : L2.St} {H : Hp} {ta : TE} {b : Bool} (h : Ev ta σ H (.bl b)) : Ev (tCB rIntB (tCons ta tNil)) σ H (.int (if b then 1 else 0)) := fun H1 e Q q =>
  h H1 e _ fun H2 e2 => ⟨b, rfl, q H2 e2⟩
end
/-! ### sorted(xs), lists of numbers -/
def rSortedL (K : PySem.W.Frag) : List V → Hp → VK → Prop := fun vs H Q => ∃ (a : Addr) (xs : List V) (bs : List (List Int)), vs = [.ref a] ∧ SqL K H a xs ∧ RpAll K H xs (bs.map fun b => .list (b.map .int)) ∧
  ∀ p ys, H p = none → RpAll K H ys ((bs.mergeSort fun p q => decide (p ≤ q)).map fun b => .list (b.map .int)) → Q (.ref p) (upd H p (.lst ys))
theorem each_of_rp {K : PySem.W.Frag} {H : Hp} : ∀ {bs : List (List Int)} {xs : List V} {vs : List Value}, RpAll K H xs (bs.map fun b => .list (b.map .int)) → Vals xs vs →
    PySem.W.EachIs (fun (v : Value) (b : List Int) => ∃ x, RelV x v ∧ Rp K H x (.list (b.map .int))) vs bs
  | [], _, _, h, r => by
    cases h
    cases r
    exact .nil
  | b :: bs, _, _, h, r => by
    cases h with
    | cons h hs =>
      cases r with
      | cons r rs => exact .cons ⟨_, r, h⟩ (each_of_rp hs rs)
theorem rp_of_each {K : PySem.W.Frag} {H : Hp} : ∀ {bs : List (List Int)} {vs : List Value}, PySem.W.EachIs (fun (v : Value) (b : List Int) => ∃ x, RelV x v ∧ Rp K H x (.list (b.map .int))) vs bs →
    ∃ xs, RpAll K H xs (bs.map fun b => .list (b.map .int)) ∧ Vals xs vs
  | _, _, .nil => ⟨[], .nil, .nil⟩
  | _, _, .cons ⟨x, r, h⟩ t => by
    obtain ⟨xs, h2, r2⟩ := rp_of_each t
    exact ⟨x :: xs, .cons h h2, .cons r r2⟩
theorem k_sortedL {X : Cx} {K : PySem.W.Frag} (hK : X.K = K) (hu : X.A.units + 64 < cLine) : CallR X (.builtin "sorted") (rSortedL K) := by
  subst hK
  intro pins s σ H vs us Q I r h
  obtain ⟨a, xs, bs, rfl, hs, hr, q⟩ := h
  obtain ⟨its, rv, hl, hz⟩ := I.list hs
  rw [Vals.ref1 r]
  have el := rv.length
  have hb : bs.length = xs.length := by
    have := hr.length
    rw [List.length_map] at this
    exact this.symm
  have e1 := each_of_rp hr rv
  refine PySem.W.sorted_data (enc := fun b : List Int => .list (b.map .int)) (bs := bs) hl.isList e1 ?_ ?_ ?_ (by omega) ?_ fun out ho hr2 => ?_
  · refine e1.mono fun v b ⟨x, rx, hx⟩ => ?_
    exact Dp.reads I (.list (b.map .int)) x v (Rp.dp _ _ hx (ndI' b)) rx
  · exact PySem.W.AllAlike.of fun b b' => by
      show PySem.W.alikeAll _ _ = true
      exact PySem.W.alike_ints b b'
  · exact PySem.W.Sortable.others fun b => ⟨(fun z => by cases z), (fun _ z => by cases z)⟩
  · intro b _
    rw [depI]; omega
  · rw [PySem.W.dataLe_rows (fun b : List Int => b)] at hr2
    obtain ⟨ys, h2, r2⟩ := rp_of_each hr2
    obtain ⟨ep, he'⟩ := PyProof.Rows.sortedAll_at s.heap its out.toArray
    refine ⟨.ref _, upd H (s.heap.objs.size + 1) (.lst ys), I.laid (t' := s.toks) (fun _ _ => PyProof.Rows.sortedAll_old) (Nat.le_succ _) ⟨?_, out, ep, r2, he'⟩, rfl, q _ _ (I.hok.fresh (Nat.le_succ _)) h2⟩
    rw [r2.length, ho]
    omega
theorem eld_sortL {K : PySem.W.Frag} {σ : L2.St} {H : Hp} {ta : TE} {p : Addr} {xs : List V} {bs : List (List Int)} (ha : Ev ta σ H (.ref p)) (h : SqL K H p xs) (hr : RpAll K H xs (bs.map fun b => .list (b.map .int))) :
    EvLD K (tCB (rSortedL K) (tCons ta tNil)) σ H ((bs.mergeSort fun p q => decide (p ≤ q)).map fun b => .list (b.map .int)) := fun H1 e Q q =>
  ha H1 e _ fun H2 e2 => ⟨p, xs, bs, rfl, ex_l (e.trans e2) h, hr.to (e.trans e2), fun m ys hm hy => q m ys _ (fresh_back e2 hm) (e2.trans (Ex.new hm)) upd_same (hy.to (Ex.new hm))⟩
end GS


set_option Elab.async false
set_option linter.all false
set_option maxRecDepth 100000
set_option maxHeartbeats 4000000
/-! lists of numbers and their ranks: which of all orders of n numbers an order is -/
namespace RK
open GS

def fac : Nat → Nat
  | 0 => 1
  | n + 1 => fac n * (n + 1)
def val : List Nat → Nat
  | [] => 0
  | r :: rs => r * fac rs.length + val rs
def Ok : List Nat → Prop
  | [] => True
  | r :: rs => r ≤ rs.length ∧ Ok rs
def dig : Nat → Nat → List Nat
  | 0, _ => []
  | k + 1, N => (N / fac k) % (k + 1) :: dig k N
def pick : List Int → List Nat → List Int
  | _, [] => []
  | l, r :: rs => l.getD r 0 :: pick (l.eraseIdx r) rs
def rank : List Int → List Int → List Nat
  | _, [] => []
  | l, x :: o => l.idxOf x :: rank (l.eraseIdx (l.idxOf x)) o
theorem fac_pos : ∀ n, 0 < fac n
  | 0 => Nat.one_pos
  | n + 1 => Nat.mul_pos (fac_pos n) (Nat.succ_pos n)
theorem dig_len : ∀ k N, (dig k N).length = k
  | 0, _ => rfl
  | k + 1, N => by
    show (dig k N).length + 1 = k + 1
    rw [dig_len k N]
theorem dig_ok : ∀ k N, Ok (dig k N)
  | 0, _ => trivial
  | k + 1, N => by
    refine ⟨?_, dig_ok k N⟩
    rw [dig_len]
    exact Nat.le_of_lt_succ (Nat.mod_lt _ (Nat.succ_pos k))
theorem val_dig : ∀ k N, val (dig k N) = N % fac k
  | 0, N => (Nat.mod_one N).symm
  | k + 1, N => by
    show (N / fac k) % (k + 1) * fac (dig k N).length + val (dig k N) = N % (fac k * (k + 1))
    rw [dig_len, val_dig k N, Nat.mod_mul, Nat.mul_comm, Nat.add_comm]
theorem val_lt : ∀ rs, Ok rs → val rs < fac rs.length
  | [], _ => Nat.one_pos
  | r :: rs, h => by
    have a := val_lt rs h.2
    have b : r * fac rs.length ≤ rs.length * fac rs.length := Nat.mul_le_mul_right _ h.1
    show r * fac rs.length + val rs < fac rs.length * (rs.length + 1)
    rw [Nat.mul_add, Nat.mul_one, Nat.mul_comm (fac rs.length)]
    omega
theorem val_cmp {a b : List Nat} {r s : Nat} (ha : Ok a) (hl : a.length = b.length) (h : r < s) : val (r :: a) < val (s :: b) := by
  have x := val_lt a ha
  show r * fac a.length + val a < s * fac b.length + val b
  rw [← hl]
  have y : (r + 1) * fac a.length ≤ s * fac a.length := Nat.mul_le_mul_right _ h
  rw [Nat.add_mul, Nat.one_mul] at y
  omega
theorem val_inj : ∀ {a b : List Nat}, Ok a → Ok b → a.length = b.length → val a = val b → a = b
  | [], [], _, _, _, _ => rfl
  | [], _ :: _, _, _, h, _ => by simp at h
  | _ :: _, [], _, _, h, _ => by simp at h
  | r :: a, s :: b, ha, hb, h, e => by
    have hl : a.length = b.length := by simpa using h
    rcases Nat.lt_trichotomy r s with lt | eq | gt
    · have := val_cmp (b := b) ha.2 hl lt
      omega
    · subst eq
      have e2 : r * fac a.length + val a = r * fac b.length + val b := e
      rw [hl] at e2
      rw [val_inj ha.2 hb.2 hl (by omega)]
    · have := val_cmp (b := a) hb.2 hl.symm gt
      omega
theorem perm_erase : ∀ {l : List Int} {i : Nat} (h : i < l.length), (l[i] :: l.eraseIdx i).Perm l
  | x :: l, 0, _ => .refl _
  | x :: l, i + 1, h => by
    have z := perm_erase (l := l) (i := i) (by simpa using h)
    exact (List.Perm.swap x _ _).trans (z.cons x)
theorem idx_lt {l : List Int} {x : Int} (h : x ∈ l) : l.idxOf x < l.length := List.idxOf_lt_length_iff.mpr h
theorem idx_at {l : List Int} {x : Int} (h : x ∈ l) : l[l.idxOf x]? = some x := by
  rw [List.getElem?_eq_getElem (idx_lt h), List.getElem_idxOf]
theorem idx_getD {l : List Int} {x : Int} (h : x ∈ l) : l.getD (l.idxOf x) 0 = x := by
  rw [List.getD_eq_getElem?_getD, idx_at h]; rfl
theorem idx_perm {l : List Int} {x : Int} (h : x ∈ l) : (x :: l.eraseIdx (l.idxOf x)).Perm l := by
  have z := perm_erase (idx_lt h)
  rw [List.getElem_idxOf] at z
  exact z
theorem step_perm {l o : List Int} {x : Int} (h : (x :: o).Perm l) : o.Perm (l.eraseIdx (l.idxOf x)) :=
  (h.trans (idx_perm (h.mem_iff.mp List.mem_cons_self)).symm).cons_inv
theorem idx_first {l : List Int} {x : Int} : ∀ m : Nat, m < l.idxOf x → l[m]? ≠ some x := by
  intro m hm e
  obtain ⟨h1, h2⟩ := List.getElem?_eq_some_iff.mp e
  have := List.not_of_lt_findIdx (p := (· == x)) (xs := l) hm
  rw [h2] at this
  simp at this
theorem rank_len : ∀ (o l : List Int), (rank l o).length = o.length
  | [], _ => rfl
  | x :: o, l => by
    show (rank _ o).length + 1 = o.length + 1
    rw [rank_len o]
theorem rank_ok : ∀ (o l : List Int), o.Perm l → Ok (rank l o)
  | [], _, _ => trivial
  | x :: o, l, h => by
    refine ⟨?_, rank_ok o _ (step_perm h)⟩
    rw [rank_len]
    have a := idx_lt (h.mem_iff.mp List.mem_cons_self)
    have b := h.length_eq
    rw [List.length_cons] at b
    omega
theorem pick_rank : ∀ (o l : List Int), o.Perm l → pick l (rank l o) = o
  | [], _, _ => rfl
  | x :: o, l, h => by
    show l.getD (l.idxOf x) 0 :: pick (l.eraseIdx (l.idxOf x)) (rank (l.eraseIdx (l.idxOf x)) o) = x :: o
    rw [idx_getD (h.mem_iff.mp List.mem_cons_self), pick_rank o _ (step_perm h)]
theorem pick_len : ∀ (rs : List Nat) (l : List Int), (pick l rs).length = rs.length
  | [], _ => rfl
  | r :: rs, l => by
    show (pick _ rs).length + 1 = rs.length + 1
    rw [pick_len rs]
theorem erase_len {l : List Int} {r : Nat} {n : Nat} (h : r < l.length) (hn : l.length = n + 1) : (l.eraseIdx r).length = n := by
  rw [List.length_eraseIdx_of_lt h]; omega
theorem pick_perm : ∀ (rs : List Nat) (l : List Int), Ok rs → rs.length = l.length → (pick l rs).Perm l
  | [], l, _, h => by
    have : l = [] := List.eq_nil_of_length_eq_zero h.symm
    subst this
    exact .refl _
  | r :: rs, l, ok, h => by
    rw [List.length_cons] at h
    have hr : r < l.length := by have := ok.1; omega
    have ih := pick_perm rs (l.eraseIdx r) ok.2 (erase_len hr h.symm).symm
    have e : l.getD r 0 = l[r] := by
      rw [List.getD_eq_getElem?_getD, List.getElem?_eq_getElem hr]; rfl
    show (l.getD r 0 :: pick (l.eraseIdx r) rs).Perm l
    rw [e]
    exact (ih.cons _).trans (perm_erase hr)
theorem nd_erase {l : List Int} (h : l.Nodup) (r : Nat) : (l.eraseIdx r).Nodup := h.sublist (List.eraseIdx_sublist l r)
theorem rank_pick : ∀ (rs : List Nat) (l : List Int), l.Nodup → Ok rs → rs.length = l.length → rank l (pick l rs) = rs := by
  intro rs l nd ok h
  refine val_inj (rank_ok _ _ (pick_perm rs l ok h)) ok (by rw [rank_len, pick_len]) ?_
  induction rs generalizing l with
  | nil => rfl
  | cons r rs ih =>
    rw [List.length_cons] at h
    have hr : r < l.length := by have := ok.1; omega
    have e : l.getD r 0 = l[r] := by
      rw [List.getD_eq_getElem?_getD, List.getElem?_eq_getElem hr]; rfl
    have ei : l.idxOf l[r] = r := nd.idxOf_getElem r hr
    show l.idxOf (l.getD r 0) * fac (rank (l.eraseIdx (l.idxOf (l.getD r 0))) (pick (l.eraseIdx r) rs)).length + val (rank (l.eraseIdx (l.idxOf (l.getD r 0))) (pick (l.eraseIdx r) rs)) = r * fac rs.length + val rs
    rw [e, ei, rank_len, pick_len, ih _ (nd_erase nd r) ok.2 (erase_len hr h.symm).symm]
theorem pick_lt : ∀ (a b : List Nat) (l : List Int), l.Pairwise (· < ·) → Ok a → Ok b → a.length = l.length → b.length = l.length → val a < val b → pick l a < pick l b
  | [], [], _, _, _, _, _, _, h => absurd h (Nat.lt_irrefl _)
  | [], _ :: _, _, _, _, _, h1, h2, _ => by simp at h1 h2; omega
  | _ :: _, [], _, _, _, _, h1, h2, _ => by simp at h1 h2; omega
  | r :: a, s :: b, l, pw, ha, hb, h1, h2, h => by
    rw [List.length_cons] at h1 h2
    have hr : r < l.length := by have := ha.1; omega
    have hs : s < l.length := by have := hb.1; omega
    have er : l.getD r 0 = l[r] := by
      rw [List.getD_eq_getElem?_getD, List.getElem?_eq_getElem hr]; rfl
    have es : l.getD s 0 = l[s] := by
      rw [List.getD_eq_getElem?_getD, List.getElem?_eq_getElem hs]; rfl
    show l.getD r 0 :: pick (l.eraseIdx r) a < l.getD s 0 :: pick (l.eraseIdx s) b
    rw [er, es]
    rcases Nat.lt_trichotomy r s with lt | eq | gt
    · exact List.Lex.rel (List.pairwise_iff_getElem.mp pw r s hr hs lt)
    · subst eq
      refine List.cons_lt_cons_self.mpr ?_
      have hl : a.length = b.length := by omega
      have e2 : r * fac a.length + val a < r * fac b.length + val b := h
      rw [hl] at e2
      exact pick_lt a b _ (pw.sublist (List.eraseIdx_sublist l r)) ha.2 hb.2 (erase_len hr h1.symm).symm (erase_len hr h2.symm).symm (by omega)
    · have := val_cmp (b := a) hb.2 (by omega) gt
      omega

theorem rangeI_lt (n : Nat) : (rangeI n).Pairwise (· < ·) := by
  unfold rangeI
  exact List.Pairwise.map _ (fun a b (h : a < b) => (by omega : (a : Int) < (b : Int))) List.pairwise_lt_range
theorem rangeI_nd (n : Nat) : (rangeI n).Nodup := (rangeI_lt n).imp fun h => by omega
def num (o : List Int) : Nat := val (rank (rangeI o.length) o)
def ordN (n N : Nat) : List Int := pick (rangeI n) (dig n N)
theorem ordN_len (n N : Nat) : (ordN n N).length = n := by
  unfold ordN
  rw [pick_len, dig_len]
theorem ordN_perm (n N : Nat) : (ordN n N).Perm (rangeI n) := pick_perm _ _ (dig_ok n N) (by rw [dig_len, rangeI_len])
theorem num_lt {o : List Int} {n : Nat} (h : o.Perm (rangeI n)) : num o < fac n := by
  have hl : o.length = n := by rw [h.length_eq, rangeI_len]
  have z := val_lt _ (rank_ok o (rangeI n) h)
  rw [rank_len, hl] at z
  unfold num
  rw [hl]
  exact z
theorem ordN_num {o : List Int} {n : Nat} (h : o.Perm (rangeI n)) : ordN n (num o) = o := by
  have hl : o.length = n := by rw [h.length_eq, rangeI_len]
  have ok := rank_ok o (rangeI n) h
  have e : dig n (num o) = rank (rangeI n) o := by
    refine val_inj (dig_ok _ _) ok (by rw [dig_len, rank_len, hl]) ?_
    rw [val_dig, Nat.mod_eq_of_lt (num_lt h)]
    unfold num
    rw [hl]
  unfold ordN
  rw [e, pick_rank o _ h]
theorem num_ordN {n N : Nat} (h : N < fac n) : num (ordN n N) = N := by
  unfold num
  rw [ordN_len]
  unfold ordN
  rw [rank_pick _ _ (rangeI_nd n) (dig_ok n N) (by rw [dig_len, rangeI_len]), val_dig, Nat.mod_eq_of_lt h]
theorem ordN_lt {n M N : Nat} (h : N < fac n) (l : M < N) : ordN n M < ordN n N := by
  unfold ordN
  refine pick_lt _ _ _ (rangeI_lt n) (dig_ok _ _) (dig_ok _ _) (by rw [dig_len, rangeI_len]) (by rw [dig_len, rangeI_len]) ?_
  rw [val_dig, val_dig, Nat.mod_eq_of_lt h, Nat.mod_eq_of_lt (Nat.lt_trans l h)]
  exact l
/-- downwards -/
def desc : Nat → List Int
  | 0 => []
  | n + 1 => (n : Int) :: desc n
theorem desc_len : ∀ n, (desc n).length = n
  | 0 => rfl
  | n + 1 => by
    show (desc n).length + 1 = n + 1
    rw [desc_len n]
theorem desc_perm : ∀ n, (desc n).Perm (rangeI n)
  | 0 => .refl _
  | n + 1 => by
    rw [rangeI_succ]
    exact ((desc_perm n).cons _).trans (List.perm_append_comm (l₁ := [(n : Int)]))
theorem val_desc : ∀ n, val (rank (rangeI n) (desc n)) + 1 = fac n
  | 0 => rfl
  | n + 1 => by
    have hi : (rangeI (n + 1)).idxOf (n : Int) = n := by
      have z := (rangeI_nd (n + 1)).idxOf_getElem n (by rw [rangeI_len]; omega)
      have e : (rangeI (n + 1))[n]'(by rw [rangeI_len]; omega) = (n : Int) := by
        unfold rangeI
        rw [List.getElem_map, List.getElem_range]
      rw [e] at z
      exact z
    have he : (rangeI (n + 1)).eraseIdx n = rangeI n := by
      rw [rangeI_succ, List.eraseIdx_append_of_length_le (by rw [rangeI_len]; omega), rangeI_len, Nat.sub_self]
      show rangeI n ++ [] = rangeI n
      rw [List.append_nil]
    have ih := val_desc n
    show (rangeI (n + 1)).idxOf (n : Int) * fac (rank ((rangeI (n + 1)).eraseIdx ((rangeI (n + 1)).idxOf (n : Int))) (desc n)).length + val (rank ((rangeI (n + 1)).eraseIdx ((rangeI (n + 1)).idxOf (n : Int))) (desc n)) + 1 = fac n * (n + 1)
    rw [hi, he, rank_len, desc_len, Nat.mul_add, Nat.mul_one, Nat.mul_comm n]
    omega
theorem num_desc (n : Nat) : num (desc n) = fac n - 1 := by
  have z := val_desc n
  unfold num
  rw [desc_len]
  omega
/-! all of them -/
def up (x y : Int) : Int := y + (if y ≥ x then 1 else 0)
def fnd : Nat → List (List Int)
  | 0 => [[]]
  | k + 1 => (fnd k).flatMap fun o => (rangeI (k + 1)).map fun x => x :: o.map (up x)
def allO (n : Nat) : List (List Int) := (List.range (fac n)).map (ordN n)
theorem allO_len (n : Nat) : (allO n).length = fac n := by
  unfold allO
  rw [List.length_map, List.length_range]
theorem allO_get {n i : Nat} (h : i < fac n) : (allO n)[i]? = some (ordN n i) := by
  unfold allO
  rw [List.getElem?_map, List.getElem?_range h]
  rfl
theorem allO_pw (n : Nat) : (allO n).Pairwise (· < ·) := by
  unfold allO
  refine List.pairwise_map.mpr ?_
  refine List.Pairwise.imp_of_mem ?_ List.pairwise_lt_range
  intro a b ha hb h
  exact ordN_lt (List.mem_range.mp hb) h
theorem fnd_perm : ∀ n, n < 6 → (fnd n).Perm (allO n) := by
  have z : ∀ k : Fin 6, (fnd k).isPerm (allO k) = true := by decide +kernel
  intro n hn
  exact List.isPerm_iff.mp (z ⟨n, hn⟩)
theorem sort_fnd {n : Nat} (h : n < 6) : (fnd n).mergeSort (fun p q => decide (p ≤ q)) = allO n := by
  have tr : ∀ a b c : List Int, decide (a ≤ b) = true → decide (b ≤ c) = true → decide (a ≤ c) = true := fun a b c h1 h2 =>
    decide_eq_true (List.le_trans (of_decide_eq_true h1) (of_decide_eq_true h2))
  have to : ∀ a b : List Int, (decide (a ≤ b) || decide (b ≤ a)) = true := fun a b => by
    rcases List.le_total a b with h | h
    · rw [decide_eq_true h]; rfl
    · rw [decide_eq_true h, Bool.or_true]
  have s1 := List.pairwise_mergeSort tr to (fnd n)
  have p1 := (List.mergeSort_perm (fnd n) (fun p q => decide (p ≤ q))).trans (fnd_perm n h)
  refine p1.eq_of_pairwise (le := fun p q => decide (p ≤ q) = true) (fun a b _ _ h1 h2 => List.le_antisymm (of_decide_eq_true h1) (of_decide_eq_true h2)) s1 ?_
  exact (allO_pw n).imp fun h => decide_eq_true (List.le_of_lt h)
theorem fac_200 : fac 200 < 2 ^ 1300 := by decide +kernel
theorem fac_mono : ∀ {m n : Nat}, m ≤ n → fac m ≤ fac n
  | m, 0, h => by
    have : m = 0 := by omega
    subst this
    exact Nat.le_refl _
  | m, n + 1, h => by
    rcases Nat.lt_or_ge n m with lt | ge
    · have : m = n + 1 := by omega
      subst this
      exact Nat.le_refl _
    · refine Nat.le_trans (fac_mono ge) ?_
      show fac n ≤ fac n * (n + 1)
      exact Nat.le_mul_of_pos_right _ (Nat.succ_pos n)
theorem fac_eq : ∀ n, PySem.Builtin.Math.factorialNat n = fac n
  | 0 => rfl
  | n + 1 => by
    rw [PySem.W.mc_fac_succ, fac_eq n]
    rfl
end RK


set_option Elab.async false
set_option linter.all false
set_option maxRecDepth 100000
set_option maxHeartbeats 4000000
namespace GS
open PySem PySem.Spec PyProof.Rows L2 Evl

/-! ### an own class with defs for ==, in -/
section
variable {X : Cx} {CX : CXT} {k : Nat} {C f : Addr} {fd : FuncData} {ps : List Str} {sp : Sp} {E : XK}
theorem ins_at {pins : List (Addr × Obj)} {σ : L2.St} {H : Hp} {s : Shared} {a dx : Addr} {fs : List (Str × V)} (I : Inv X pins σ H s) (h : H a = some (.ins C dx fs)) :
    ∃ od, PySem.W.InstAt s.heap a (PySem.W.instObj C dx) C (some od) := by
  obtain ⟨mA, O, _⟩ := ins_get I.hok h
  exact O.look.imp fun od z => z.1
/-- x in o, x not in o -/
def rInOwn (C : Addr) (sp : Sp) (E : XK) : R2 := fun x y H Q => ∃ a dx fs, y = .ref a ∧ H a = some (.ins C dx fs) ∧ sp [y, x] H (fun z H2 => ∃ b, z = .bl b ∧ Q (.bl b) H2) E
def rNotInOwn (C : Addr) (sp : Sp) (E : XK) : R2 := fun x y H Q => ∃ a dx fs, y = .ref a ∧ H a = some (.ins C dx fs) ∧ sp [y, x] H (fun z H2 => ∃ b, z = .bl b ∧ Q (.bl (!b)) H2) E
theorem op_inOwn (hs : PySem.W.findIn X.K (.ref C) "__contains__" = some (some (.ref f))) (hf : PySem.W.isFn X.K (.ref f) = true) (F : FnOk X.prog X.w X.K X.mg X.base CX k f fd ps sp) (hr : Room k X.A) (hb : Binds X.K fd ps []) (hx : Passes CX X E) :
    OpR X (compareOp .In) (rInOwn C sp E) := by
  intro pins s σ H x y v u Q I rx ry h
  obtain ⟨a, dx, fs, rfl, ha, q⟩ := h
  cases (show u = Value.ref a from ry)
  obtain ⟨od, J⟩ := ins_at I ha
  obtain ⟨m, hF⟩ := I.fr
  refine PySem.W.in_K hF I.ok.mod.kin J hs hf (wpAny_mono (run_fn (us := [.ref a, v]) (vs := [.ref a, x]) F hr hb .nil hx I (.cons rfl (.cons rx .nil)) (by rw [List.append_nil]; exact q)) (fun r s2 z => ?_) fun _ _ z => z)
  obtain ⟨z0, H2, I2, rz, b, rfl, qz⟩ := z
  cases (show r = Value.bool b from rz)
  exact wpAny_truthy_bool ⟨.bl b, H2, I2, rfl, qz⟩
theorem op_notInOwn (hs : PySem.W.findIn X.K (.ref C) "__contains__" = some (some (.ref f))) (hf : PySem.W.isFn X.K (.ref f) = true) (F : FnOk X.prog X.w X.K X.mg X.base CX k f fd ps sp) (hr : Room k X.A) (hb : Binds X.K fd ps []) (hx : Passes CX X E) :
    OpR X (compareOp .NotIn) (rNotInOwn C sp E) := by
  intro pins s σ H x y v u Q I rx ry h
  obtain ⟨a, dx, fs, rfl, ha, q⟩ := h
  cases (show u = Value.ref a from ry)
  obtain ⟨od, J⟩ := ins_at I ha
  obtain ⟨m, hF⟩ := I.fr
  refine PySem.W.notIn_K hF I.ok.mod.kin J hs hf (wpAny_mono (run_fn (us := [.ref a, v]) (vs := [.ref a, x]) F hr hb .nil hx I (.cons rfl (.cons rx .nil)) (by rw [List.append_nil]; exact q)) (fun r s2 z => ?_) fun _ _ z => z)
  obtain ⟨z0, H2, I2, rz, b, rfl, qz⟩ := z
  cases (show r = Value.bool b from rz)
  exact wpAny_truthy_bool ⟨.bl (!b), H2, I2, rfl, qz⟩
/-- o == y -/
def rEqOwn (K : PySem.W.Frag) (C : Addr) (sp : Sp) (E : XK) : R2 := fun x y H Q => ∃ a dx fs tb, x = .ref a ∧ H a = some (.ins C dx fs) ∧ TyX K H y tb ∧ PySem.W.notFirst K C tb = true ∧ sp [x, y] H Q E
theorem op_eqOwn (hs : PySem.W.findIn X.K (.ref C) "__eq__" = some (some (.ref f))) (hf : PySem.W.isFn X.K (.ref f) = true) (F : FnOk X.prog X.w X.K X.mg X.base CX k f fd ps sp) (hr : Room k X.A) (hb : Binds X.K fd ps []) (hx : Passes CX X E) :
    OpR X (compareOp .Eq) (rEqOwn X.K C sp E) := by
  intro pins s σ H x y v u Q I rx ry h
  obtain ⟨a, dx, fs, tb, rfl, ha, ty, hn, q⟩ := h
  cases (show v = Value.ref a from rx)
  obtain ⟨od, J⟩ := ins_at I ha
  obtain ⟨m, hF⟩ := I.fr
  obtain ⟨Pu, kx, pu, _⟩ := L2.kit_of I ry ty
  refine PySem.W.cmp_K (op := .Eq) (tb := tb) hr.units0 hF I.ok.mod.kin J (kx.ty _ _ I.kIn pu) hn hs hf ?_
  refine wpAny_mono (run_fn (us := [.ref a, u]) (vs := [.ref a, y]) F hr hb .nil hx I (.cons rfl (.cons ry .nil)) (by rw [List.append_nil]; exact q)) (fun r s2 z => ?_) fun _ _ x => x
  obtain ⟨z0, H2, I2, rz, qz⟩ := z
  exact SlX.cmpback rz ⟨z0, H2, I2, rz, qz⟩
end
theorem v_none1 : Vals [V.non] [Value.none] := .cons rfl .nil
section
variable {X : Cx} {K : PySem.W.Frag} {CX : CXT} {k : Nat} {C f : Addr} {fd : FuncData} {ps : List Str} {sp : Sp} {E : XK}
theorem k_fld {e : Expr} {g : Str} {pos : Pos} {ta : TE} (h : X.K = K) (he : PE X e ta) (hb : attributeBase e g X.env (eval e X.env) = eval e X.env) : PE X (.Attribute e g pos) (tFld K ta g) := h ▸ pe_fld he hb
theorem k_inOwn (h : X.K = K) (hs : PySem.W.findIn K (.ref C) "__contains__" = some (some (.ref f))) (hf : PySem.W.isFn K (.ref f) = true) (F : FnOk X.prog X.w K X.mg X.base CX k f fd ps sp) (hr : Room k X.A) (hb : Binds K fd ps []) (hx : Passes CX X E) :
    OpR X (compareOp .In) (rInOwn C sp E) := by
  subst h
  exact op_inOwn hs hf F hr hb hx
theorem k_notInOwn (h : X.K = K) (hs : PySem.W.findIn K (.ref C) "__contains__" = some (some (.ref f))) (hf : PySem.W.isFn K (.ref f) = true) (F : FnOk X.prog X.w K X.mg X.base CX k f fd ps sp) (hr : Room k X.A) (hb : Binds K fd ps []) (hx : Passes CX X E) :
    OpR X (compareOp .NotIn) (rNotInOwn C sp E) := by
  subst h
  exact op_notInOwn hs hf F hr hb hx
theorem k_eqOwn (h : X.K = K) (hs : PySem.W.findIn K (.ref C) "__eq__" = some (some (.ref f))) (hf : PySem.W.isFn K (.ref f) = true) (F : FnOk X.prog X.w K X.mg X.base CX k f fd ps sp) (hr : Room k X.A) (hb : Binds K fd ps []) (hx : Passes CX X E) :
    OpR X (compareOp .Eq) (rEqOwn K C sp E) := by
  subst h
  exact op_eqOwn hs hf F hr hb hx
end
section
variable {K : PySem.W.Frag} {σ : L2.St} {H : Hp} {ta tb te : TE} {C : Addr} {sp : Sp} {E : XK} {x : V} {b : Bool}
theorem ev_eqOwn {a dx : Addr} {fs : List (Str × V)} {tv : Value} (ha : Ev ta σ H (.ref a)) (hb : Ev tb σ H x) (h : H a = some (.ins C dx fs)) (ty : ∀ H1, Ex H H1 → TyX K H1 x tv) (hn : PySem.W.notFirst K C tv = true)
    (hs : ∀ H1, Ex H H1 → ∀ Q : VK, (∀ H2, Ex H1 H2 → Q (.bl b) H2) → sp [.ref a, x] H1 Q E) : Ev (tOp (rEqOwn K C sp E) ta tb) σ H (.bl b) := fun H1 e Q q =>
  ha H1 e _ fun H2 e2 => hb H2 (e.trans e2) _ fun H3 e3 => ⟨a, dx, fs, tv, rfl, ((e.trans e2).trans e3) _ _ h, ty H3 ((e.trans e2).trans e3), hn, hs H3 ((e.trans e2).trans e3) _ fun H4 e4 => q H4 ((e2.trans e3).trans e4)⟩
theorem ev_fld {a dx : Addr} {fs : List (Str × V)} {g : Str} (ha : Ev ta σ H (.ref a)) (h : H a = some (.ins C dx fs)) (c : Cls K C) (n : NoAttr K C g) (l : fs.lookup g = some x) : Ev (tFld K ta g) σ H x := fun H1 e Q q =>
  ha H1 e _ fun H2 e2 => ⟨a, C, dx, fs, x, rfl, (e.trans e2) _ _ h, c, n, l, q H2 e2⟩
theorem notFirst_same : PySem.W.notFirst K C (.ref C) = true := by simp [PySem.W.notFirst]
theorem notFirst_of {T : String} (h : PySem.W.subIn K (.type T) (.ref C) = some false) : PySem.W.notFirst K C (.type T) = true := by
  unfold PySem.W.notFirst
  rw [h]
  simp
theorem ev_inOwn {a dx : Addr} {fs : List (Str × V)} (ha : Ev ta σ H x) (hb : Ev tb σ H (.ref a)) (h : H a = some (.ins C dx fs)) (hs : ∀ H1, Ex H H1 → ∀ Q : VK, (∀ H2, Ex H1 H2 → Q (.bl b) H2) → sp [.ref a, x] H1 Q E) :
    Ev (tOp (rInOwn C sp E) ta tb) σ H (.bl b) := fun H1 e Q q =>
  ha H1 e _ fun H2 e2 => hb H2 (e.trans e2) _ fun H3 e3 => ⟨a, dx, fs, rfl, ((e.trans e2).trans e3) _ _ h, hs H3 ((e.trans e2).trans e3) _ fun H4 e4 => ⟨b, rfl, q H4 ((e2.trans e3).trans e4)⟩⟩
theorem ev_notInOwn {a dx : Addr} {fs : List (Str × V)} (ha : Ev ta σ H x) (hb : Ev tb σ H (.ref a)) (h : H a = some (.ins C dx fs)) (hs : ∀ H1, Ex H H1 → ∀ Q : VK, (∀ H2, Ex H1 H2 → Q (.bl b) H2) → sp [.ref a, x] H1 Q E) :
    Ev (tOp (rNotInOwn C sp E) ta tb) σ H (.bl (!b)) := fun H1 e Q q =>
  ha H1 e _ fun H2 e2 => hb H2 (e.trans e2) _ fun H3 e3 => ⟨a, dx, fs, rfl, ((e.trans e2).trans e3) _ _ h, hs H3 ((e.trans e2).trans e3) _ fun H4 e4 => ⟨b, rfl, q H4 ((e2.trans e3).trans e4)⟩⟩
end
end GS


set_option Elab.async false
set_option linter.all false
set_option maxRecDepth 100000
set_option maxHeartbeats 4000000
namespace GS
open PySem PySem.Spec PyProof.Rows L2 Evl
/-! ### a set of counts: some numbers, and all from one on -/
/-- each one once, as they come -/
def dd (ns : List Int) : List Int := ns.foldl (fun acc n => if n ∈ acc then acc else acc ++ [n]) []
theorem dd_snoc (ns : List Int) (n : Int) : dd (ns ++ [n]) = if n ∈ dd ns then dd ns else dd ns ++ [n] := by
  unfold dd
  rw [List.foldl_append]
  rfl
theorem snoc_induct {p : List Int → Prop} (h0 : p []) (hs : ∀ l x, p l → p (l ++ [x])) (l : List Int) : p l := by
  have key : ∀ n, p (l.take n) := by
    intro n
    induction n with
    | zero => exact h0
    | succ n ih =>
      rcases Nat.lt_or_ge n l.length with lt | ge
      · rw [take_snoc (List.getElem?_eq_getElem lt)]
        exact hs _ _ ih
      · rw [List.take_of_length_le (by omega)]
        rw [List.take_of_length_le ge] at ih
        exact ih
  have := key l.length
  rwa [List.take_length] at this
theorem dd_mem {ns : List Int} {x : Int} : x ∈ dd ns ↔ x ∈ ns := by
  induction ns using snoc_induct with
  | h0 => exact Iff.rfl
  | hs l n ih =>
    rw [dd_snoc]
    split
    · rename_i h
      rw [ih, List.mem_append, List.mem_singleton]
      constructor
      · exact .inl
      · rintro (q | rfl)
        · exact q
        · exact ih.mp h
    · rw [List.mem_append, List.mem_append, ih]
theorem dd_nd (ns : List Int) : (dd ns).Nodup := by
  induction ns using snoc_induct with
  | h0 => exact List.nodup_nil
  | hs l n ih =>
    rw [dd_snoc]
    split
    · exact ih
    · rename_i h
      refine List.nodup_append.mpr ⟨ih, List.pairwise_singleton _ _, ?_⟩
      intro a ha b hb e
      rw [List.mem_singleton.mp hb] at e
      exact h (e ▸ ha)
theorem dd_len (ns : List Int) : (dd ns).length ≤ ns.length := by
  induction ns using snoc_induct with
  | h0 => exact Nat.le_refl _
  | hs l n ih =>
    rw [dd_snoc, List.length_append, List.length_singleton]
    split
    · omega
    · rw [List.length_append, List.length_singleton]; omega
/-- down from s, as long as the numbers are there -/
def lowI (ns : List Int) : Nat → Int → Int
  | 0, s => s
  | k + 1, s => if s - 1 ∈ ns then lowI ns k (s - 1) else s
theorem lowI_le (ns : List Int) : ∀ k s, lowI ns k s ≤ s
  | 0, s => Int.le_refl _
  | k + 1, s => by
    unfold lowI
    split
    · have := lowI_le ns k (s - 1); omega
    · exact Int.le_refl _
theorem lowI_mem (ns : List Int) : ∀ k s x, lowI ns k s ≤ x → x < s → x ∈ ns
  | 0, s, x, h, h2 => by
    have h : s ≤ x := h
    omega
  | k + 1, s, x, h, h2 => by
    unfold lowI at h
    split at h
    · rename_i q
      by_cases e : x = s - 1
      · rw [e]; exact q
      · exact lowI_mem ns k (s - 1) x h (by omega)
    · omega
theorem lowI_stop {ns : List Int} (hn : ∀ x ∈ ns, 1 ≤ x) : ∀ (k : Nat) (s : Int), s ≤ k → lowI ns k s - 1 ∉ ns
  | 0, s, h => fun q => by
    have := hn _ q
    have e : lowI ns 0 s = s := rfl
    omega
  | k + 1, s, h => by
    unfold lowI
    split
    · exact lowI_stop hn k (s - 1) (by omega)
    · assumption
theorem lowI_pos {ns : List Int} (hn : ∀ x ∈ ns, 1 ≤ x) : ∀ (k : Nat) (s : Int), 1 ≤ s → 1 ≤ lowI ns k s
  | 0, s, h => h
  | k + 1, s, h => by
    unfold lowI
    split
    · rename_i q
      exact lowI_pos hn k (s - 1) (hn _ q)
    · exact h
theorem lowI_same {ns ms : List Int} (h : ∀ x, x ∈ ns ↔ x ∈ ms) : ∀ k s, lowI ns k s = lowI ms k s
  | 0, _ => rfl
  | k + 1, s => by
    unfold lowI
    rw [lowI_same h k (s - 1)]
    by_cases q : s - 1 ∈ ns
    · rw [if_pos q, if_pos ((h _).mp q)]
    · rw [if_neg q, if_neg (fun z => q ((h _).mpr z))]
/-- as it is kept: the numbers below, in order, and where it goes on for ever -/
def formS (ns : List Int) : Option Int → Option Int
  | none => none
  | some s => some (lowI ns s.toNat s)
def belowB : Option Int → Int → Bool
  | none, _ => true
  | some l, n => decide (n < l)
def formN (ns : List Int) (st : Option Int) : List Int := isort ((dd ns).filter (belowB (formS ns st)))
def memB (ns : List Int) (st : Option Int) (x : Int) : Bool := decide (x ∈ ns) || (match st with | none => false | some s => decide (s ≤ x))
theorem formN_mem {ns : List Int} {st : Option Int} {x : Int} : x ∈ formN ns st ↔ x ∈ ns ∧ belowB (formS ns st) x = true := by
  unfold formN
  rw [(isort_perm _).mem_iff, List.mem_filter, dd_mem]
theorem formN_nd (ns : List Int) (st : Option Int) : (formN ns st).Nodup := by
  unfold formN
  exact (isort_perm _).nodup_iff.mpr ((dd_nd ns).filter _)
theorem formN_pw (ns : List Int) (st : Option Int) : (formN ns st).Pairwise (· ≤ ·) := isort_pw _
theorem formN_len (ns : List Int) (st : Option Int) : (formN ns st).length ≤ ns.length := by
  unfold formN
  rw [isort_len]
  exact Nat.le_trans (List.length_filter_le _ _) (dd_len ns)
theorem nd_perm {a b : List Int} (ha : a.Nodup) (hb : b.Nodup) (h : ∀ x, x ∈ a ↔ x ∈ b) : a.Perm b := (List.perm_ext_iff_of_nodup ha hb).mpr h
theorem formS_same {ns ms : List Int} (h : ∀ x, x ∈ ns ↔ x ∈ ms) (st : Option Int) : formS ns st = formS ms st := by
  cases st with
  | none => rfl
  | some s => exact congrArg some (lowI_same h _ _)
theorem formN_same {ns ms : List Int} (h : ∀ x, x ∈ ns ↔ x ∈ ms) (st : Option Int) : formN ns st = formN ms st := by
  unfold formN
  apply isort_of_perm
  rw [formS_same h]
  refine nd_perm ((dd_nd ns).filter _) ((dd_nd ms).filter _) fun x => ?_
  rw [List.mem_filter, List.mem_filter, dd_mem, dd_mem, h]
/-- what is in it -/
theorem form_mem (ns : List Int) (st : Option Int) (x : Int) : memB (formN ns st) (formS ns st) x = memB ns st x := by
  unfold memB
  rw [Bool.eq_iff_iff]
  cases st with
  | none =>
    show (decide (x ∈ formN ns none) || false) = true ↔ _
    rw [Bool.or_false, Bool.or_false, decide_eq_true_eq, decide_eq_true_eq, formN_mem]
    exact ⟨fun h => h.1, fun h => ⟨h, rfl⟩⟩
  | some s =>
    show (decide (x ∈ formN ns (some s)) || decide (lowI ns s.toNat s ≤ x)) = true ↔ (decide (x ∈ ns) || decide (s ≤ x)) = true
    rw [Bool.or_eq_true, Bool.or_eq_true, decide_eq_true_eq, decide_eq_true_eq, decide_eq_true_eq, decide_eq_true_eq, formN_mem]
    show (x ∈ ns ∧ decide (x < lowI ns s.toNat s) = true) ∨ _ ↔ _
    rw [decide_eq_true_eq]
    have h1 := lowI_le ns s.toNat s
    have h2 := lowI_mem ns s.toNat s x
    constructor
    · rintro (h | h)
      · exact .inl h.1
      · rcases Int.lt_or_le x s with lt | ge
        · exact .inl (h2 h lt)
        · exact .inr ge
    · rintro (h | h)
      · rcases Int.lt_or_le x (lowI ns s.toNat s) with lt | ge
        · exact .inl ⟨h, lt⟩
        · exact .inr ge
      · exact .inr (by omega)
/-- the form of the form is the form -/
theorem form_idem {ns : List Int} (hn : ∀ x ∈ ns, 1 ≤ x) {st : Option Int} (hs : ∀ s, st = some s → 1 ≤ s) : formS (formN ns st) (formS ns st) = formS ns st ∧ formN (formN ns st) (formS ns st) = formN ns st := by
  have e : formS (formN ns st) (formS ns st) = formS ns st := by
    cases st with
    | none => rfl
    | some s =>
      have h1 := lowI_stop hn s.toNat s (by have := hs s rfl; omega)
      have hp := lowI_pos hn s.toNat s (hs s rfl)
      show some (lowI (formN ns (some s)) (lowI ns s.toNat s).toNat (lowI ns s.toNat s)) = some (lowI ns s.toNat s)
      congr 1
      generalize hl : lowI ns s.toNat s = l at h1 hp
      obtain ⟨k, hk⟩ : ∃ k, l.toNat = k + 1 := ⟨l.toNat - 1, by omega⟩
      rw [hk]
      unfold lowI
      rw [if_neg]
      intro q
      exact h1 (formN_mem.mp q).1
  refine ⟨e, ?_⟩
  have p : (formN (formN ns st) (formS ns st)).Perm (formN ns st) := by
    refine nd_perm (formN_nd _ _) (formN_nd _ _) fun x => ?_
    rw [formN_mem, e]
    exact ⟨fun h => h.1, fun h => ⟨h, (formN_mem.mp h).2⟩⟩
  exact PySem.W.ksm_same p (formN_pw _ _) (formN_pw _ _)
end GS


set_option Elab.async false
set_option linter.all false
set_option maxRecDepth 100000
set_option maxHeartbeats 4000000
namespace GS
open PySem PySem.Spec PyProof.Rows L2 Evl
/-! ### an object that changes, the others as they are -/
def hid (H : Hp) (m : Addr) : Hp := fun a => if a = m then none else H a
theorem hid_ne {H : Hp} {m a : Addr} (h : a ≠ m) : hid H m a = H a := if_neg h
theorem hid_same {H : Hp} {m : Addr} : hid H m m = none := if_pos rfl
theorem hid_ex {H : Hp} {m : Addr} : Ex (hid H m) H := fun a o h => by
  by_cases e : a = m
  · subst e
    rw [hid_same] at h
    cases h
  · rwa [hid_ne e] at h
theorem hid_mono {H H2 : Hp} {m : Addr} (e : Ex H H2) : Ex (hid H m) (hid H2 m) := fun a o h => by
  by_cases q : a = m
  · subst q
    rw [hid_same] at h
    cases h
  · rw [hid_ne q] at h ⊢
    exact e a o h
theorem hid_new {H H2 : Hp} {m : Addr} (n : H m = none) (e : Ex H H2) : Ex H (hid H2 m) := fun a o h => by
  have q : a ≠ m := ne_of_none h n
  rw [hid_ne q]
  exact e a o h
theorem fun_vX {P : Program} {w : World} {K : PySem.W.Frag} {mg : Str → Option Value} {base : Heap} {x qual : Str} {st : Stmt} {f : Addr} {fd : FuncData} {N ps : List Str} {k : Nat} {sp : Sp}
    (F : FunV K x qual st f fd) (S : FnScope N ps (defScope st)) (len : ∀ vs H Q E, sp vs H Q E → vs.length = ps.length)
    (hb : ∀ (cdv : Value) (A : Around) (outer : List Env) (s : Shared) (H : Hp) (vs : List V) (Q : VK) (E : XK),
      Room k (A.deeper (envOfC qual (defScope st) s.heap.objs.size f cdv)) → sp vs H Q E →
      ∃ t, PSs (cxOf (L2.CX P w) P w K mg base N qual (defScope st) f cdv A outer s H E) (defBody st) t ∧
        t { nx := fun _ H' => Q .non H', rt := Q } (start N vs) H) : FnOk P w K mg base (L2.CX P w) (k + 1) f fd ps sp := by
  obtain ⟨oc, od, dV, kV, doc, pm, an, cdv, ct, osl, rfl, lk, hcd⟩ := F.ex
  exact fn_of lk hcd S len fun A outer s H vs Q E hr hsp => hb cdv A outer s H vs Q E hr hsp
theorem dd_id {ns : List Int} (h : ns.Nodup) : dd ns = ns := by
  induction ns using snoc_induct with
  | h0 => rfl
  | hs l n ih =>
    obtain ⟨h1, h2, h3⟩ := List.nodup_append.mp h
    rw [dd_snoc, ih h1, if_neg]
    intro q
    exact h3 n q n (List.mem_singleton.mpr rfl) rfl
/-! ### dicts whose values are all True -/
def trueK (ks : List Int) : List (Key × V) := ks.map fun n => (.inl n, .bl true)
theorem trueK_any (ks : List Int) (n : Int) : ((trueK ks).any fun kv => decide (kv.1 = (.inl n : Key))) = decide (n ∈ ks) := by
  unfold trueK
  rw [List.any_map, Bool.eq_iff_iff, List.any_eq_true, decide_eq_true_eq]
  constructor
  · rintro ⟨x, hx, e⟩
    have e2 : (.inl x : Key) = .inl n := of_decide_eq_true e
    rw [← Sum.inl.inj e2]
    exact hx
  · intro h
    exact ⟨n, h, decide_eq_true rfl⟩
theorem trueK_put (ks : List Int) (n : Int) : putK (trueK ks) (.inl n) (.bl true) = trueK (if n ∈ ks then ks else ks ++ [n]) := by
  unfold putK
  rw [trueK_any]
  by_cases h : n ∈ ks
  · rw [if_pos (decide_eq_true h), if_pos h]
    unfold trueK
    rw [List.map_map]
    apply List.map_congr_left
    intro x _
    show (if (.inl x : Key) = .inl n then ((.inl x : Key), V.bl true) else (.inl x, .bl true)) = _
    split <;> rfl
  · rw [if_neg (by rw [decide_eq_true_eq]; exact h), if_neg h]
    unfold trueK
    rw [List.map_append]
    rfl
theorem trueK_get (ks : List Int) (n : Int) : (valV (trueK ks) (.inl n)).isSome = decide (n ∈ ks) := by
  unfold valV
  have z := trueK_any ks n
  rw [Bool.eq_iff_iff, List.any_eq_true, decide_eq_true_eq] at z
  rw [Option.isSome_map, Bool.eq_iff_iff, List.find?_isSome, decide_eq_true_eq]
  exact z
section
variable {K : PySem.W.Frag} {σ : L2.St} {H : Hp} {ta tb te : TE} {D : Ends} {tz tu : TS}
/-- {n: True for n in ns} -/
theorem ek_true {ns : List Int} {a : Addr} {j : Nat} {vs : List Nat} (h : Ev te σ H (.ref a)) (hx : SqL K H a (ns.map V.int)) (hl : ns.length ≤ 40000) (hj : j < σ.length) (hw : ∀ x, wipe ((wipe σ vs).set j (some x)) vs = wipe σ vs) :
    EvK (tDc (iList K te) (gName j) tYes (tVar j) (tC (.bl true)) vs) σ H (trueK (dd ns)) := fun H0 e Q q =>
  h H0 e _ fun H1 e1 => by
    refine ⟨a, rfl, ⟨_, ex_l (e.trans e1) hx⟩, fun Dd hD => ?_⟩
    refine ⟨fun n m H2 => m = ns.length - n ∧ n ≤ ns.length ∧ Ex H1 H2 ∧ H2 Dd = some (.dK (trueK (dd (ns.take n)))), ⟨ns.length, by simp, Nat.zero_le _, Ex.new hD, upd_same⟩, ?_⟩
    rintro n m H2 ⟨rfl, hn, e2, hK⟩
    have sq : SqL K H2 a (ns.map V.int) := ex_l ((e.trans e1).trans e2) hx
    rcases Nat.lt_or_ge n ns.length with lt | ge
    · have g : (ns.map V.int)[n]? = some (.int ns[n]) := by rw [List.getElem?_map, List.getElem?_eq_getElem lt]; rfl
      refine .inr ⟨⟨_, _, sq, g⟩, fun H3 => Ex H1 H3 ∧ H3 Dd = some (.dK (trueK (dd (ns.take (n + 1))))), fun H3 p3 => ⟨ns.length - (n + 1), by omega, rfl, lt, p3⟩, ?_⟩
      rintro x H3 ⟨rfl, hy⟩
      have ex := hy _ sq
      rw [g] at ex
      have ex2 := Option.some.inj ex
      subst ex2
      refine ⟨hw _, ?_⟩
      unfold tYes
      refine iteT ?_
      have look : ((wipe σ vs).set j (some (V.int ns[n])))[j]? = some (some (V.int ns[n])) := by
        rw [List.getElem?_set_self (by rw [wipe_length]; exact hj)]
      refine ⟨.int ns[n], look, trueK (dd (ns.take n)), .inl ns[n], rfl, hK, ?_, e2.mut hD, ?_⟩
      · unfold trueK
        rw [List.length_map]
        have := dd_len (ns.take n)
        rw [List.length_take] at this
        exact sz_lt (by omega)
      · rw [upd_same, trueK_put, take_snoc (List.getElem?_eq_getElem lt), dd_snoc]
    · have en : n = ns.length := by omega
      subst en
      rw [List.take_length] at hK
      exact .inl ⟨⟨_, sq, by rw [List.length_map]; exact Nat.le_refl _⟩, q Dd H2 (free_of e1 hD) (e1.trans e2) hK⟩
/-- n in d -/
theorem ev_dinT {ks : List Int} {d : Addr} {n : Int} (ha : Ev ta σ H (.int n)) (hb : Ev tb σ H (.ref d)) (h : H d = some (.dK (trueK ks))) : Ev (tDIn ta tb) σ H (.bl (decide (n ∈ ks))) := fun H1 e Q q =>
  ha H1 e _ fun H2 e2 => hb H2 (e.trans e2) _ fun H3 e3 => ⟨d, _, rfl, DGet.k (k := .inl n) (((e.trans e2).trans e3) _ _ h), by
    rw [trueK_get]
    exact q H3 (e2.trans e3)⟩
/-- [n for n in d if ..] -/
theorem el_keys {ks : List Int} {d : Addr} {i j : Nat} {tt : TT} {vs : List Nat} (p : Int → Bool) (hi : σ[i]? = some (some (.ref d))) (h : H d = some (.dK (trueK ks))) (hl : ks.length ≤ 40000) (hj : j < σ.length)
    (hw : ∀ x, wipe ((wipe σ vs).set j (some x)) vs = wipe σ vs) (ht : ∀ (n : Int) H1, n ∈ ks → EvT tt ((wipe σ vs).set j (some (.int n))) H1 (p n)) :
    EvL (tLockE (tLc (iKeys (tVar i)) (gName j) tt (tVar j) vs)) σ H ((ks.filter p).map V.int) := fun H1 e Q q => by
  have hd := e _ _ h
  refine ⟨d, _, hd, trivial, fun od => ?_⟩
  have fz : (upd H1 d (.frz od (.dK (trueK ks)))) d = some (.frz od (.dK (trueK ks))) := upd_same
  refine ⟨.ref d, hi, d, od, rfl, .inl ⟨_, fz, fun Dl hD => ?_⟩⟩
  have nd : Dl ≠ d := by
    rintro rfl
    rw [upd_same] at hD
    cases hD
  have nD : H1 Dl = none := by rwa [upd_ne nd] at hD
  refine ⟨fun n m H2 => m = ks.length - n ∧ n ≤ ks.length ∧ Ex (upd H1 d (.frz od (.dK (trueK ks)))) H2 ∧ H2 Dl = some (.lst (((ks.take n).filter p).map V.int)), ⟨ks.length, by simp, Nat.zero_le _, Ex.new hD, upd_same⟩, ?_⟩
  rintro n m H2 ⟨rfl, hn, e2, hL⟩
  have fz2 := e2 _ _ fz
  have lk : (trueK ks).length = ks.length := by unfold trueK; rw [List.length_map]
  rcases Nat.lt_or_ge n ks.length with lt | ge
  · refine .inr ⟨⟨fz2, by rw [lk]; exact lt⟩, fun H3 => Ex (upd H1 d (.frz od (.dK (trueK ks)))) H3 ∧ H3 Dl = some (.lst (((ks.take (n + 1)).filter p).map V.int)), fun H3 p3 => ⟨ks.length - (n + 1), by omega, rfl, lt, p3⟩, ?_⟩
    rintro x H3 ⟨rfl, k, v, hk, rfl⟩
    have hk2 : (trueK ks)[n]? = some (.inl ks[n], .bl true) := by
      unfold trueK
      rw [List.getElem?_map, List.getElem?_eq_getElem lt]; rfl
    rw [hk2] at hk
    have hk3 := Option.some.inj hk
    have ek : k = .inl ks[n] := (congrArg Prod.fst hk3).symm
    subst ek
    have tk : ks.take (n + 1) = ks.take n ++ [ks[n]] := take_snoc (List.getElem?_eq_getElem lt)
    have look : ((wipe σ vs).set j (some (V.int ks[n])))[j]? = some (some (V.int ks[n])) := by
      rw [List.getElem?_set_self (by rw [wipe_length]; exact hj)]
    refine ⟨hw _, ht ks[n] _ (List.getElem_mem lt) _ (Ex.refl _) _ fun H4 e4 => ?_⟩
    cases hp : p ks[n] with
    | true =>
      refine Eq.mpr (if_pos rfl) ?_
      refine ⟨_, look, _, e4 _ _ hL, ?_, (e2.trans e4).mut hD, ?_⟩
      · rw [List.length_map]
        have := List.length_filter_le p (ks.take n)
        rw [List.length_take] at this
        exact sz_lt (by omega)
      · rw [upd_same, tk, List.filter_append, List.map_append]
        have : [ks[n]].filter p = [ks[n]] := by rw [List.filter_cons, if_pos hp]; rfl
        rw [this]
        rfl
    | false =>
      refine Eq.mpr (if_neg (by decide)) ?_
      refine ⟨e2.trans e4, ?_⟩
      rw [tk, List.filter_append, List.map_append]
      have : [ks[n]].filter p = [] := by rw [List.filter_cons, if_neg (by rw [hp]; decide)]; rfl
      rw [this]
      show H4 Dl = some (.lst ((((ks.take n).filter p).map V.int) ++ []))
      rw [List.append_nil]
      exact e4 _ _ hL
  · have en : n = ks.length := by omega
    subst en
    rw [List.take_length] at hL
    refine .inl ⟨⟨fz2, by rw [lk]; exact Nat.le_refl _⟩, fz2, q Dl _ nD ?_ ?_⟩
    · intro b o hb
      by_cases eb : b = d
      · subst eb
        rw [hd] at hb
        rw [upd_same]
        exact hb
      · rw [upd_ne eb]
        exact e2 _ _ (by rw [upd_ne eb]; exact hb)
    · rw [upd_ne nd]
      exact hL
theorem el_sortN {ns : List Int} (ha : EvL ta σ H (ns.map V.int)) : EvL (tCB (rSortedI K) (tCons ta tNil)) σ H ((isort ns).map V.int) := fun H1 e Q q =>
  ha H1 e _ fun p H2 np e2 hp => ⟨p, ns, rfl, sq_of hp, fun m u hm hpw hu => by
    rw [isort_is hm hpw]
    exact q u _ (fresh_back e2 hu) (e2.trans (Ex.new hu)) upd_same⟩
end
/-! ### d = {k: v for ..}, d a name that the block does not share -/
theorem sw_dict {kx vx : Expr} {gs : List Comprehension} {scope : Scope} {pos py : Pos} {y : Str} {l : Nat} {env : Env} (hk : env.scope.kind = .function) (hy : env.scope.names.lookup y = some .local) (hl : (py.line == pos.line) = true)
    (ha : (scope.names.any fun (n, k) => n == y && (k == .local || k == .cell)) = false) :
    swapsWith (.DictComp kx vx gs scope pos) (some (.Name y py)) l env = pure true := by
  have h1 : env.kindOf y = some .local := hy
  have h2 : env.blockKind = .function := by
    unfold Env.blockKind
    rw [hk]; rfl
  unfold swapsWith
  simp only [h2, h1, ha, Expr.pos, hl]; rfl
section
variable {X : Cx} {i : Nat} {y : Str} {py pos spos : Pos} {kx vx tg iter : Expr} {ifs : List Expr} {scope : Scope} {own : List (Str × Nat)} {wi : TI} {g : TG} {tt : TT} {tk tv : TE}
theorem ps_setDc (hc : X.calm = true) (hN : X.N.Nodup) (hy : X.N[i]? = some y) (hyl : X.env.scope.names.lookup y = some .local)
    (hsw : swapsWith (.DictComp kx vx [⟨tg, iter, ifs, 0⟩] scope pos) (some (.Name y py)) spos.line X.env = pure true) (hi : PI X tg iter wi) (ok : BlkOk X.N X.env.scope scope own)
    (hg : ∀ s H C cl fp, PG (X.blk s H scope (compEnvC scope cl C X.env) fp) tg g)
    (ht : ∀ s H C cl fp, PTs (X.blk s H scope (compEnvC scope cl C X.env) fp) ifs tt)
    (hk : ∀ s H C cl fp, PE (X.blk s H scope (compEnvC scope cl C X.env) fp) kx tk)
    (he : ∀ s H C cl fp, PE (X.blk s H scope (compEnvC scope cl C X.env) fp) vx tv)
    (hs : ∀ x, foldedSetIterable iter X.env x = pure x := by intro _; rfl) :
    PS X (.Assign [.Name y py] (.DictComp kx vx [⟨tg, iter, ifs, 0⟩] scope pos) spos) (tAsg (tDc wi g tt tk tv (own.map (·.2))) (gName i)) := by
  constructor
  intro pins s σ H D I h
  refine Eq.mpr (by rw [exec_Assign_Name_used _ _ _ _ hsw]) ?_
  apply wpAny_bind
  apply wpAny_standAt
  apply wpAny_bind
  show wpAny _ X.A (do
    let _ ← comprehension (.DictComp kx vx [⟨tg, iter, ifs, 0⟩] scope pos) scope X.env (firstIterPos [⟨tg, iter, ifs, 0⟩] pos) newDict false (eval iter X.env) (some (assign (.Name y py) X.env))) _ _ s
  have h : tDc wi g tt tk tv (own.map (·.2)) σ H (fun x H1 => gName i x σ H1 D.nx) := h
  apply wpAny_bind
  refine thn (dc_core (Qf := fun _ s2 => SP X pins D .next s2) hc hN I hi ok hg ht hk he hs h fun L C s1 m H1 I1 q hn f => ?_) fun _ s2 hq => wpAny_pure (wpAny_pure hq)
  refine wpAny_assign_Name (store_ok2 (v := V.ref L) I1 hN hy (.inl hyl) rfl (fun s2 I2 ⟨a, sb, ha⟩ => ?_) (.inr hyl))
  obtain ⟨g0, g1, g2, g3, g4, g5⟩ := f
  have haC : C ≠ a := ha.elim (fun z => z ▸ g1) fun z e => g4 y a z e.symm
  exact ⟨m, hn.sameBut sb haC, fun h3 sb3 => ⟨_, H1, I2.turned (t' := s2.toks) (fun b o hb e => (sb3.2 b hb).trans e) g0 g1 g3 g4 g5, q⟩⟩
end
end GS


set_option Elab.async false
set_option linter.all false
set_option maxRecDepth 100000
set_option maxHeartbeats 4000000
namespace GS
open PySem PySem.Spec PyProof.Rows L2 Evl
def rDictP (K : PySem.W.Frag) : List V → Hp → VK → Prop := fun xs H Q => ∃ (a : Addr) (ps : List Addr) (kvs : List (Key × V)), xs = [.ref a] ∧ SqL K H a (ps.map V.ref) ∧ Paired (fun p kv => SqT K H p [kV kv.1, kv.2]) ps kvs ∧ ∀ p, H p = none → Q (.ref p) (upd H p (.dK (mergeK [] kvs)))
def rSortDI : List V → Hp → VK → Prop := fun xs H Q => ∃ (a : Addr) (kvs : List (Key × V)) (ks : List Int), xs = [.ref a] ∧ Rd H a (.dK kvs) ∧ kvs.map (·.1) = ks.map Sum.inl ∧ ks.length < 64 ∧
  ∀ (ys : List Int) (p : Addr), ys.Perm ks → ys.Pairwise (· ≤ ·) → H p = none → Q (.ref p) (upd H p (.lst (ys.map V.int)))
section
variable {X : Cx} {K : PySem.W.Frag}
theorem k_dictP (h : X.K = K) (hc : X.calm = true) : CallR X (.type "dict") (rDictP K) := h ▸ call_dictP hc
theorem c_sortDI (hc : X.calm = true) : CallR X (.builtin "sorted") rSortDI := call_sortedDI hc
end
/-! dict of pairs (n, 0), in order -/
def zeroK (ks : List Int) : List (Key × V) := ks.map fun n => (.inl n, .int 0)
theorem zeroK_merge {ks : List Int} (nd : ks.Nodup) : mergeK [] (zeroK ks) = zeroK ks := by
  induction ks using snoc_induct with
  | h0 => rfl
  | hs l n ih =>
    obtain ⟨h1, h2, h3⟩ := List.nodup_append.mp nd
    have e : zeroK (l ++ [n]) = zeroK l ++ [(.inl n, .int 0)] := by
      unfold zeroK
      rw [List.map_append]
      rfl
    unfold mergeK at ih ⊢
    rw [e, List.foldl_append, ih h1]
    show putK (zeroK l) (.inl n) (.int 0) = _
    unfold putK
    rw [if_neg]
    intro z
    obtain ⟨q, hq, e2⟩ := List.any_eq_true.mp z
    obtain ⟨x, hx, rfl⟩ := List.mem_map.mp hq
    have e3 : (.inl x : Key) = .inl n := of_decide_eq_true e2
    exact h3 x hx n (List.mem_singleton.mpr rfl) (Sum.inl.inj e3)
theorem zeroK_keys (ks : List Int) : (zeroK ks).map (·.1) = ks.map Sum.inl := by
  unfold zeroK
  rw [List.map_map]
  rfl
section
variable {K : PySem.W.Frag} {σ : L2.St} {H : Hp} {ta tb te : TE} {D : Ends} {tz tu : TS}
/-- new pairs (n, 0) at these places -/
def PairsAt (K : PySem.W.Frag) (H : Hp) (ps : List Addr) (ks : List Int) : Prop := Paired (fun p kv => SqT K H p [kV kv.1, kv.2]) ps (zeroK ks)
theorem PairsAt.mono {H H2 : Hp} {ps : List Addr} {ks : List Int} (e : Ex H H2) (h : PairsAt K H ps ks) : PairsAt K H2 ps ks := by
  unfold PairsAt at h ⊢
  generalize zeroK ks = kvs at h
  induction h with
  | nil => exact .nil
  | cons h hs ih => exact .cons (ex_t e h) ih
/-- [(n, 0) for n in xs if ..] -/
theorem pairs_lc {ns : List Int} {a : Addr} {j : Nat} {tt : TT} {vs : List Nat} (p : Int → Bool) (h : Ev ta σ H (.ref a)) (hx : SqL K H a (ns.map V.int)) (hl : ns.length ≤ 40000) (hj : j < σ.length)
    (hw : ∀ x, wipe ((wipe σ vs).set j (some x)) vs = wipe σ vs) (ht : ∀ (n : Int) H1, n ∈ ns → EvT tt ((wipe σ vs).set j (some (.int n))) H1 (p n)) :
    ∀ H1, Ex H H1 → ∀ Q : VK, (∀ q ps H2, H1 q = none → Ex H1 H2 → H2 q = some (.lst (ps.map V.ref)) → PairsAt K H2 ps (ns.filter p) → Q (.ref q) H2) →
      tLc (iList K ta) (gName j) tt (tTup (tCons (tVar j) (tCons (tC (.int 0)) tNil))) vs σ H1 Q := fun H1 e Q q =>
  h H1 e _ fun H2 e2 => by
    refine ⟨a, rfl, ⟨_, ex_l (e.trans e2) hx⟩, fun Dl hD => ?_⟩
    refine ⟨fun n m H3 => m = ns.length - n ∧ n ≤ ns.length ∧ Ex H2 H3 ∧ ∃ ps, H3 Dl = some (.lst (ps.map V.ref)) ∧ ps.length ≤ n ∧ PairsAt K (hid H3 Dl) ps ((ns.take n).filter p),
      ⟨ns.length, by simp, Nat.zero_le _, Ex.new hD, [], upd_same, Nat.zero_le _, .nil⟩, ?_⟩
    rintro n m H3 ⟨rfl, hn, e3, ps, hL, hpl, hP⟩
    have sq : SqL K H3 a (ns.map V.int) := ex_l ((e.trans e2).trans e3) hx
    rcases Nat.lt_or_ge n ns.length with lt | ge
    · have g : (ns.map V.int)[n]? = some (.int ns[n]) := by rw [List.getElem?_map, List.getElem?_eq_getElem lt]; rfl
      refine .inr ⟨⟨_, _, sq, g⟩, fun H4 => Ex H2 H4 ∧ ∃ ps, H4 Dl = some (.lst (ps.map V.ref)) ∧ ps.length ≤ n + 1 ∧ PairsAt K (hid H4 Dl) ps ((ns.take (n + 1)).filter p), fun H4 p4 => ⟨ns.length - (n + 1), by omega, rfl, lt, p4⟩, ?_⟩
      rintro x H4 ⟨rfl, hy⟩
      have ex := hy _ sq
      rw [g] at ex
      have ex2 := Option.some.inj ex
      subst ex2
      have tk : ns.take (n + 1) = ns.take n ++ [ns[n]] := take_snoc (List.getElem?_eq_getElem lt)
      have look : ((wipe σ vs).set j (some (V.int ns[n])))[j]? = some (some (V.int ns[n])) := by
        rw [List.getElem?_set_self (by rw [wipe_length]; exact hj)]
      refine ⟨hw _, ht ns[n] _ (List.getElem_mem lt) _ (Ex.refl _) _ fun H5 e5 => ?_⟩
      cases hp : p ns[n] with
      | true =>
        refine Eq.mpr (if_pos rfl) ?_
        refine ⟨_, look, sz_of (by show 2 ≤ 100000; decide), fun t nt => ⟨_, Ex.new nt _ _ (e5 _ _ hL), ?_, (e3.trans (e5.trans (Ex.new nt))).mut hD, ps ++ [t], ?_, ?_, ?_⟩⟩
        · rw [List.length_map]; exact sz_lt (by omega)
        · rw [upd_same, List.map_append]; rfl
        · rw [List.length_append, List.length_singleton]; omega
        · have td : t ≠ Dl := by
            rintro rfl
            rw [e5 _ _ hL] at nt
            cases nt
          have f1 : [ns[n]].filter p = [ns[n]] := by rw [List.filter_cons, if_pos hp]; rfl
          rw [tk, List.filter_append, f1]
          unfold PairsAt zeroK
          rw [List.map_append]
          refine Paired.snoc (PairsAt.mono ?_ hP) (st_of ?_)
          · intro b o hb
            by_cases q : b = Dl
            · subst q
              rw [hid_same] at hb
              cases hb
            · rw [hid_ne q] at hb ⊢
              rw [upd_ne q]
              exact Ex.new nt _ _ (e5 _ _ hb)
          · rw [hid_ne td, upd_ne td, upd_same]
            rfl
      | false =>
        refine Eq.mpr (if_neg (by decide)) ?_
        have f1 : [ns[n]].filter p = [] := by rw [List.filter_cons, if_neg (by rw [hp]; decide)]; rfl
        refine ⟨e3.trans e5, ps, e5 _ _ hL, by omega, ?_⟩
        rw [tk, List.filter_append, f1, List.append_nil]
        exact hP.mono (hid_mono e5)
    · have en : n = ns.length := by omega
      subst en
      rw [List.take_length] at hP
      exact .inl ⟨⟨_, sq, by rw [List.length_map]; exact Nat.le_refl _⟩, q Dl ps H3 (free_of e2 hD) (e2.trans e3) hL (hP.mono hid_ex)⟩
/-- sorted(dict([(n, 0) for ..])) -/
theorem el_sortDict {ns : List Int} {a : Addr} {j : Nat} {tt : TT} {vs : List Nat} (p : Int → Bool) (h : Ev ta σ H (.ref a)) (hx : SqL K H a (ns.map V.int)) (hl : ns.length < 64) (nd : ns.Nodup) (hj : j < σ.length)
    (hw : ∀ x, wipe ((wipe σ vs).set j (some x)) vs = wipe σ vs) (ht : ∀ (n : Int) H1, n ∈ ns → EvT tt ((wipe σ vs).set j (some (.int n))) H1 (p n)) :
    EvL (tCB rSortDI (tCons (tCB (rDictP K) (tCons (tLc (iList K ta) (gName j) tt (tTup (tCons (tVar j) (tCons (tC (.int 0)) tNil))) vs) tNil)) tNil)) σ H ((isort (ns.filter p)).map V.int) := fun H1 e Q q => by
  have z := pairs_lc p h hx (by omega) hj hw ht H1 e (fun x H2 => rDictP K [x] H2 fun y H3 => rSortDI [y] H3 Q)
  refine z fun l ps H2 nl e2 hL hP => ⟨l, ps, zeroK (ns.filter p), rfl, sq_of hL, hP, fun d hd => by
    rw [zeroK_merge (nd.filter p)]
    refine ⟨d, _, ns.filter p, rfl, .inl upd_same, zeroK_keys _, ?_, fun ys u hm hpw hu => ?_⟩
    · have := List.length_filter_le p ns
      omega
    · rw [isort_is hm hpw]
      exact q u _ (free_of (e2.trans (Ex.new hd)) hu) ((e2.trans (Ex.new hd)).trans (Ex.new hu)) upd_same⟩
/-- k in xs, numbers -/
theorem inV_int (k : Int) : ∀ ns : List Int, inV (.int k) (ns.map V.int) = decide (k ∈ ns)
  | [] => rfl
  | n :: ns => by
    show ((n == k) || inV (.int k) (ns.map V.int)) = _
    rw [inV_int k ns, Bool.eq_iff_iff, Bool.or_eq_true, beq_iff_eq, decide_eq_true_eq, decide_eq_true_eq, List.mem_cons]
    exact ⟨fun h => h.imp (fun e => e.symm) fun e => e, fun h => h.imp (fun e => e.symm) fun e => e⟩
theorem ev_inInts {ns : List Int} {a : Addr} {k : Int} (ha : Ev ta σ H (.int k)) (hb : Ev tb σ H (.ref a)) (h : SqL K H a (ns.map V.int)) : Ev (tOp (rIn K false) ta tb) σ H (.bl (decide (k ∈ ns))) := by
  refine ev_is (ev_op ha hb (rv_isL h rfl (by
    rw [List.all_map]
    exact List.all_eq_true.mpr fun _ _ => rfl))) ?_
  rw [inV_int]
/-- over range(a, b), the elements by any means -/
theorem lc_rng2 {tas : TA} {tt : TT} {vs : List Nat} {j : Nat} {lo n : Int} {Q : VK} (h : EvA tas σ H [.int lo, .int n]) (hn : 0 ≤ lo ∧ lo ≤ n ∧ n ≤ 40000)
    (hw : ∀ x, wipe ((wipe σ vs).set j (some x)) vs = wipe σ vs) (Pv : Addr → Nat → Hp → Prop)
    (h0 : ∀ D H1, Ex H H1 → H1 D = none → Pv D 0 (upd H1 D (.lst [])))
    (hs : ∀ D (i : Nat) H2, lo + (i : Int) < n → Pv D i H2 → tt ((wipe σ vs).set j (some (.int (lo + (i : Int))))) H2 fun b H3 =>
      if b = true then te ((wipe σ vs).set j (some (.int (lo + (i : Int))))) H3 fun y H4 => ∃ acc2, H4 D = some (.lst acc2) ∧ acc2.length < sizeLine ∧ Pv D (i + 1) (upd H4 D (.lst (acc2 ++ [y])))
      else Pv D (i + 1) H3)
    (hd : ∀ D H2, Pv D (n - lo).toNat H2 → Q (.ref D) H2) : tLc (iRng2 tas) (gName j) tt te vs σ H Q :=
  h H (Ex.refl H) _ fun H1 e1 => ⟨lo, n, rfl, ⟨by omega, by omega, by omega, by omega⟩, fun D hD => by
    refine ⟨fun i m H2 => m = (n - lo).toNat - i ∧ i ≤ (n - lo).toNat ∧ Pv D i H2, ⟨(n - lo).toNat, by simp, Nat.zero_le _, h0 D H1 e1 hD⟩, ?_⟩
    rintro i m H2 ⟨rfl, hi, p⟩
    rcases Nat.lt_or_ge i (n - lo).toNat with lt | ge
    · refine .inr ⟨lt, fun H3 => Pv D (i + 1) H3, fun H3 p3 => ⟨(n - lo).toNat - (i + 1), by omega, rfl, lt, p3⟩, ?_⟩
      rintro x H3 ⟨rfl, rfl⟩
      exact ⟨hw _, hs D i H3 (by omega) p⟩
    · have en : i = (n - lo).toNat := by omega
      subst en
      exact .inl ⟨Nat.le_refl _, hd D H2 p⟩⟩
end
section
variable {K : PySem.W.Frag} {σ : L2.St} {H : Hp} {D : Ends} {tz : TS}
/-- a, b = t -/
theorem q_two {i a b : Nat} {t : Addr} {x y : V} (hi : σ[i]? = some (some (.ref t))) (h : H t = some (.tup [x, y])) (k : tz D ((σ.set a (some x)).set b (some y)) H) :
    tSeq (tAsg (tVar i) (gTup K 2 (gCons (gName a) (gCons (gName b) gNil)))) tz D σ H :=
  ⟨.ref t, hi, t, [x, y], rfl, st_of h, rfl, _, _, rfl, _, _, rfl, rfl, k⟩
end
section
variable {X : Cx} {K : PySem.W.Frag}
theorem k_ixt (h : X.K = K) : IxR X (rIxT K) := h ▸ ix_tup
end
/-! a list of things of one kind, in the heap as it is then -/
def EvP (ta : TA) (σ : L2.St) (H : Hp) (P : Hp → V → Prop) (n : Nat) : Prop := ∀ H1, Ex H H1 → ∀ Q : List V → Hp → Prop, (∀ vs H2, Ex H1 H2 → vs.length ≤ n → (∀ v ∈ vs, P H2 v) → Q vs H2) → ta σ H1 Q
def EvQ (te : TE) (σ : L2.St) (H : Hp) (P : Hp → V → Prop) : Prop := ∀ H1, Ex H H1 → ∀ Q : VK, (∀ v H2, Ex H1 H2 → P H2 v → Q v H2) → te σ H1 Q
section
variable {K : PySem.W.Frag} {σ : L2.St} {H : Hp} {te : TE} {ta : TA} {D : Ends} {tz tu : TS} {P : Hp → V → Prop} {n : Nat}
theorem ep_nil : EvP tNil σ H P n := fun H1 _ Q q => q [] H1 (Ex.refl _) (Nat.zero_le _) fun v hv => by cases hv
theorem ep_cons (hm : ∀ v H1 H2, Ex H1 H2 → P H1 v → P H2 v) (h : EvQ te σ H P) (hr : EvP ta σ H P n) : EvP (tCons te ta) σ H P (n + 1) := fun H1 e Q q =>
  h H1 e _ fun v H2 e2 hv => hr H2 (e.trans e2) _ fun vs H3 e3 hl hvs => q (v :: vs) H3 (e2.trans e3) (by rw [List.length_cons]; omega) fun u hu => by
    rcases List.mem_cons.mp hu with e | hu
    · exact e ▸ hm v H2 H3 e3 hv
    · exact hvs u hu
theorem eq_of {d : PyData} (h : EvD K te σ H d) (hp : ∀ v H1, Rp K H1 v d → P H1 v) : EvQ te σ H P := fun H1 e Q q => h H1 e Q fun v H2 e2 r => q v H2 e2 (hp v H2 r)
/-- for x in [a, b, ..], of any things of one kind -/
theorem q_forP {j : Nat} (hm : ∀ v H1 H2, Ex H1 H2 → P H1 v → P H2 v) (h : EvP ta σ H P n) (hn : n ≤ 1000) (y0 : Option V) (hy : σ = σ.set j y0)
    (hs : ∀ (N : L2.St → Hp → Prop) H1 x, (∀ H2, Ex H1 H2 → N (σ.set j (some x)) H2) → Ex H H1 → P H1 x → tu { D with nx := N, ct := N, bk := tz D } (σ.set j (some x)) H1)
    (hd : ∀ y H1, Ex H H1 → tz D (σ.set j y) H1) : tSeq (tFor (iList K (tLst ta)) (gName j) tu) tz D σ H :=
  h H (Ex.refl H) _ fun vs H1 e1 hl hv => ⟨sz_of (by omega), fun p np => ⟨p, rfl, ⟨vs, sq_of upd_same⟩,
    for_list (D := { D with nx := tz D }) (xs := vs) (fun _ σ2 H2 => (∃ y, σ2 = σ.set j y) ∧ Ex (upd H1 p (.lst vs)) H2) ⟨⟨y0, hy⟩, Ex.refl _⟩ (fun i σ2 H2 _ z => sq_of (z.2 _ _ upd_same))
      (fun i x σ2 H2 hi z => by
        obtain ⟨⟨y, rfl⟩, e2⟩ := z
        show tu _ ((σ.set j y).set j (some x)) H2
        rw [List.set_set]
        exact hs _ H2 x (fun H3 e3 => ⟨⟨some x, rfl⟩, e2.trans e3⟩) ((e1.trans (Ex.new np)).trans e2) (hm x H1 H2 ((Ex.new np).trans e2) (hv x (List.mem_of_getElem? hi))))
      (fun σ2 H2 z => by
        obtain ⟨⟨y, rfl⟩, e2⟩ := z
        exact hd y H2 ((e1.trans (Ex.new np)).trans e2))⟩⟩
end
end GS


set_option Elab.async false
set_option linter.all false
set_option maxRecDepth 100000
set_option maxHeartbeats 4000000
namespace GS
open PySem PySem.Spec PyProof.Rows L2 Evl
section
variable {X : Cx} {K : PySem.W.Frag}
theorem k_glst {es : List Expr} {k : Nat} {pos : Pos} {t : TGs} {n : Nat} (h : X.K = K) (hc : X.calm = true) (hs : PGs X es t)
    (hn : (assignEach es X.env).length = n := by rfl) (hst : (assignEach es X.env).findIdx? (·.1) = none := by rfl) : PG X (.Tuple es k pos) (gLst K n t) := h ▸ pg_lst hc hs hn hst
theorem k_revL {e : Expr} {te : TE} {k : Nat} {p1 p2 p3 pos : Pos} (h : X.K = K) (he : PE X e te) : PE X (.Subscript e (.Slice none none (some (.UnaryOp .USub (.Constant (.int 1) k p1) p2)) p3) pos) (tRevL K te) := h ▸ pe_revL he
end
/-! ### xs[:] = ys -/
theorem all_bounds (n : Nat) : sliceBounds none none none n = (0, (n : Int), 1) := rfl
section
variable {prog : Program} {w : World} {A : Around} {E : Value → Shared → Prop} {s : Shared}
/-- the new items alone -/
theorem put_all {l b sl : Addr} {old new : Array Value} {m k : Nat} {Q : Unit → Shared → Prop} (e : s.heap.get? l = some { cls := .type "list", data := .seq old m }) (f : s.heap.get? b = some { cls := .type "list", data := .seq new k })
    (ne : l ≠ b) (hs : s.heap.IsSliceOf sl .none .none .none) (hz : old.size + new.size ≤ sizeLine) (h : Q () { s with heap := s.heap.update l (Obj.mapSeq fun xs => xs.extract 0 0 ++ new ++ xs.extract old.size xs.size) }) :
    wpAny (model prog w) A (setItem (.ref l) (.ref sl) (.ref b)) Q E s := by
  have tl := (PySem.IsL.isList e).typeIs
  have tb := (PySem.IsL.isList f).typeIs
  obtain ⟨o, ho, hc, hd⟩ := id hs
  have ts : s.TypeIs (.ref sl) "slice" := ⟨o, ho, hc⟩
  have nb : Builtin.List.listSameRef (.ref l) (.ref b) = false := beq_eq_false_iff_ne.mpr ne
  have no : ¬ ((rawPart none == rawInt 0) = true) := Bool.false_ne_true
  have top : (max (0 : Int) (old.size : Int)).toNat = old.size := by omega
  unfold setItem
  try with_reducible refine wpAny_holding ?_
  refine wpAny_bind (wpAny_sequenceKey tl (by decide) ?_)
  refine wpAny_bind (wpAny_callSpecial?_slot (name := Str.ofString "__setitem__") tl slot_list_setitem (wpAny_call_entry slot_list_setitem tl entry_list_setitem ?_ (args_list_setitem _ _ _)))
  show wpAny _ _ (Builtin.List.listSubscript? (.ref sl) >>= _) _ _ s
  refine wpAny_bind ?_
  unfold Builtin.List.listSubscript?
  refine wpAny_bind (wpAny_specialOf ts slice_no_index ?_)
  rw [show (none : Option Value).isNone = true from rfl, if_pos rfl]
  refine wpAny_pure ?_
  show wpAny _ _ (typeOf (.ref sl) >>= _) _ _ s
  refine wpAny_bind (wpAny_typeOf ts ?_)
  refine PySem.W.KFB.if_not (by decide) ?_
  rw [listSliceParts_eq]
  -- its parts: none
  refine wpAny_bind (wpAny_bind (wpAny_field ho hd (i := 2) (x := .none) rfl (wpAny_bind (wpAny_listPart .none ?_))))
  rw [if_neg no]
  refine wpAny_bind (wpAny_field ho hd (i := 0) (x := .none) rfl (wpAny_bind (wpAny_listPart .none ?_)))
  refine wpAny_bind (wpAny_field ho hd (i := 1) (x := .none) rfl (wpAny_bind (wpAny_listPart .none (wpAny_pure ?_))))
  refine PySem.W.KFB.if_not nb ?_
  -- the new items, the old ones
  refine wpAny_bind (m := Builtin.List.listAllItems (.ref b) "must assign iterable to extended slice") ?_
  unfold Builtin.List.listAllItems Builtin.List.listItems
  refine wpAny_bind (wpAny_typeOf tb ?_)
  refine PySem.W.KFB.if_so (by decide) ?_
  refine wpAny_bind (wpAny_seqItems f rfl (wpAny_pure ?_))
  refine wpAny_bind (wpAny_bind (wpAny_seqItems e rfl (wpAny_pure ?_)))
  -- all of them
  refine wpAny_bind (wpAny_of_eq ((sliceIndices_raw none none none old.size (fun z => by cases z)).trans (congrArg (pure : Int × Int × Int → Sem (Int × Int × Int)) (all_bounds old.size))) ?_)
  refine PySem.W.KFB.if_so (by decide) ?_
  refine wpAny_bind (wpAny_rule ?_)
  refine PySem.W.KFB.if_not (notLongL hz) ?_
  show wpAny _ _ (updateSeq l (fun xs => xs.extract 0 0 ++ new ++ xs.extract (max (0 : Int) (old.size : Int)).toNat xs.size) >>= _) _ _ s
  rw [top]
  have small : ((fun xs : Array Value => xs.extract 0 0 ++ new ++ xs.extract old.size xs.size) old).size ≤ sizeLine + 1 := by
    simp only [Array.size_append, Array.size_extract]
    omega
  refine wpAny_bind (wpAny_updateSeq (hz := Nat.le_trans (Nat.le_add_right _ _) hz) (_hz' := small) e rfl ?_)
  refine wpAny_bind (wpAny_letGo ?_)
  first
    | exact wpAny_pure ⟨.none, rfl, wpAny_pure h⟩
    | exact wpAny_bind (wpAny_pure (wpAny_pure ⟨.none, rfl, wpAny_pure h⟩))
end
section
variable {X : Cx} {K : PySem.W.Frag}
def gAll (te : TE) : TG := fun v σ H Q => te σ H fun o H1 => ∃ (l b : Addr) (xs ys : List V), o = .ref l ∧ v = .ref b ∧ H1 l = some (.lst xs) ∧ H1 b = some (.lst ys) ∧ l ≠ b ∧ xs.length + ys.length ≤ sizeLine ∧ Q σ (upd H1 l (.lst ys))
theorem k_allL {e : Expr} {te : TE} {p2 pos : Pos} (_ : X.K = K) (he : PE X e te)
    (ha : ∀ v, assign (.Subscript e (.Slice none none none p2) pos) X.env v = (do
      let ov ← holding [v] (eval e X.env)
      let iv ← holding [v, ov] (eval (.Slice none none none p2) X.env)
      standAt pos
      holding [v, ov, iv] (setItem ov iv v)
      release [iv, v, ov] []) := by intro _; rfl) : PG X (.Subscript e (.Slice none none none p2) pos) (gAll te) := by
  refine ⟨fun pins s σ H v u Q I r h => ?_⟩
  rw [ha]
  refine wpAny_bind (wpAny_holding (thn (he.run pins s σ H _ I h) fun ov s1 ⟨x, H1, I1, r1, l, b, xs, ys, e1, e2, h1, h2, ne, hz, q⟩ => ?_))
  subst e1 e2
  cases r
  cases r1
  refine wpAny_bind (wpAny_holding (wpAny_Slice (evalPart_none_step (evalPart_none_step (evalPart_none_step ?_)))))
  have I2 : Inv X pins σ H1 { s1 with heap := s1.heap.push { cls := .type "slice", data := .fields #[.none, .none, .none] } } := I1.kept (t' := s1.toks) fun b ob q => Heap.get?_push_of_some _ q
  obtain ⟨z, its, n, rv, hl, e⟩ := I2.lstM h1
  obtain ⟨z2, its2, n2, rv2, hl2, f⟩ := I2.lstM h2
  refine wpAny_bind (wpAny_standAt (wpAny_bind (wpAny_holding ?_)))
  refine put_all e f ne (Heap.IsSliceOf.new ..) (by rw [List.size_toArray, List.size_toArray, ← rv.length, ← rv2.length]; exact hz) ?_
  refine wpAny_release ⟨σ, _, I2.lset (its' := its2) (t' := s1.toks) h1 e ?_ rv2 ?_, q⟩
  · have z := splice_eq its its2 0 its.length
    rw [List.take_zero, List.nil_append, List.drop_length, List.append_nil] at z
    exact z
  · have := rv2.length
    omega
end
end GS


set_option Elab.async false
set_option linter.all false
set_option maxRecDepth 100000
set_option maxHeartbeats 1000000
namespace GS
open PySem PySem.Spec PyProof.Rows L2 Evl
section
variable {K : PySem.W.Frag} {σ : L2.St} {H : Hp} {te : TE}
/-- over range(n), n below nothing too -/
theorem lc_rngN {tas : TA} {tt : TT} {vs : List Nat} {j : Nat} {n : Int} {Q : VK} (h : EvA tas σ H [.int n]) (hn : -100000 ≤ n ∧ n ≤ 40000)
    (hw : ∀ x, wipe ((wipe σ vs).set j (some x)) vs = wipe σ vs) (Pv : Addr → Nat → Hp → Prop)
    (h0 : ∀ D H1, Ex H H1 → H1 D = none → Pv D 0 (upd H1 D (.lst [])))
    (hs : ∀ D (i : Nat) H2, (i : Int) < n → Pv D i H2 → tt ((wipe σ vs).set j (some (.int (i : Int)))) H2 fun b H3 =>
      if b = true then te ((wipe σ vs).set j (some (.int (i : Int)))) H3 fun y H4 => ∃ acc, H4 D = some (.lst acc) ∧ acc.length < sizeLine ∧ Pv D (i + 1) (upd H4 D (.lst (acc ++ [y])))
      else Pv D (i + 1) H3)
    (hd : ∀ D H2, Pv D n.toNat H2 → Q (.ref D) H2) : tLc (iRng1 tas) (gName j) tt te vs σ H Q :=
  h H (Ex.refl H) _ fun H1 e1 => ⟨n, rfl, by omega, by omega, fun D hD => by
    refine ⟨fun i m H2 => m = n.toNat - i ∧ i ≤ n.toNat ∧ Pv D i H2, ⟨n.toNat, by simp, Nat.zero_le _, h0 D H1 e1 hD⟩, ?_⟩
    rintro i m H2 ⟨rfl, hi, p⟩
    rcases Nat.lt_or_ge i n.toNat with lt | ge
    · refine .inr ⟨lt, fun H3 => Pv D (i + 1) H3, fun H3 p3 => ⟨n.toNat - (i + 1), by omega, rfl, lt, p3⟩, ?_⟩
      rintro x H3 ⟨rfl, rfl⟩
      have e0 : (0 : Int) + (i : Int) = (i : Int) := Int.zero_add _
      rw [e0]
      exact ⟨hw _, hs D i H3 (by omega) p⟩
    · have en : i = n.toNat := by omega
      subst en
      exact .inl ⟨Nat.le_refl _, hd D H2 p⟩⟩
/-- [v(i) for i in range(n) if f(i)] -/
theorem el_lcRn {tas : TA} {tt : TT} {vs : List Nat} {j : Nat} {n : Int} (f : Nat → Bool) (v : Nat → V) (h : EvA tas σ H [.int n]) (hn : -100000 ≤ n ∧ n ≤ 40000) (hw : ∀ x, wipe ((wipe σ vs).set j (some x)) vs = wipe σ vs)
    (ht : ∀ (i : Nat) H1, Ex H H1 → (i : Int) < n → EvT tt ((wipe σ vs).set j (some (.int (i : Int)))) H1 (f i)) (he : ∀ (i : Nat) H1, Ex H H1 → (i : Int) < n → f i = true → Ev te ((wipe σ vs).set j (some (.int (i : Int)))) H1 (v i)) :
    EvL (tLc (iRng1 tas) (gName j) tt te vs) σ H (given n.toNat f v) := fun H1 e Q q => by
  refine lc_rngN (fun H2 e2 => h H2 (e.trans e2)) hn hw (fun D i H2 => H1 D = none ∧ Ex H1 H2 ∧ H2 D = some (.lst (given i f v)) ∧ (given i f v).length ≤ i) ?_ ?_ ?_
  · intro D H2 e2 hD
    exact ⟨free_of e2 hD, e2.trans (Ex.new hD), upd_same, Nat.zero_le _⟩
  · rintro D i H2 hi ⟨nD, e2, hD, hl⟩
    refine ht i H2 (e.trans e2) hi H2 (Ex.refl _) _ fun H3 e3 => ?_
    cases hf : f i with
    | true =>
      refine Eq.mpr (if_pos rfl) ?_
      refine he i H3 ((e.trans e2).trans e3) hi hf H3 (Ex.refl _) _ fun H4 e4 => ⟨given i f v, e4 _ _ (e3 _ _ hD), sz_lt (by omega), nD, ((e2.trans e3).trans e4).mut nD, ?_, ?_⟩
      · rw [upd_same, given_yes hf]
      · rw [given_yes hf, List.length_append, List.length_singleton]
        omega
    | false =>
      refine Eq.mpr (if_neg (by decide)) ?_
      refine ⟨nD, e2.trans e3, ?_, ?_⟩
      · rw [given_no hf]
        exact e3 _ _ hD
      · rw [given_no hf]
        omega
  · rintro D H2 ⟨nD, e2, hD, _⟩
    exact q D H2 nD e2 hD
end
end GS




set_option Elab.async false
set_option linter.all false
set_option maxRecDepth 100000
set_option maxHeartbeats 4000000
namespace K05
open PySem PySem.Spec PyProof.Rows L2 Evl GS
abbrev PW := PySem.Challenge.pw_gapswaps_k05_whole_deeds_of_orders_and_r
def topS (i : Nat) : Stmt := PW.main.body.getD i (.Pass ⟨0, 0, 0, 0⟩)
abbrev s_InvalidNumber_init : Stmt := inClass (topS 2) 0
abbrev N_InvalidNumber_init : List Str := ["self", "value"]
abbrev P_InvalidNumber_init : List Str := ["self", "value"]
theorem sc_InvalidNumber_init : FnScope N_InvalidNumber_init P_InvalidNumber_init (defScope s_InvalidNumber_init) := ⟨rfl, rfl, rfl, by decide +kernel, rfl, by decide +kernel, by decide +kernel⟩
theorem nd_InvalidNumber_init : N_InvalidNumber_init.Nodup := by decide +kernel
abbrev s_InvalidOrder_init : Stmt := inClass (topS 3) 0
abbrev N_InvalidOrder_init : List Str := ["self", "value"]
abbrev P_InvalidOrder_init : List Str := ["self", "value"]
theorem sc_InvalidOrder_init : FnScope N_InvalidOrder_init P_InvalidOrder_init (defScope s_InvalidOrder_init) := ⟨rfl, rfl, rfl, by decide +kernel, rfl, by decide +kernel, by decide +kernel⟩
theorem nd_InvalidOrder_init : N_InvalidOrder_init.Nodup := by decide +kernel
abbrev s_InvalidRow_init : Stmt := inClass (topS 4) 0
abbrev N_InvalidRow_init : List Str := ["self", "value"]
abbrev P_InvalidRow_init : List Str := ["self", "value"]
theorem sc_InvalidRow_init : FnScope N_InvalidRow_init P_InvalidRow_init (defScope s_InvalidRow_init) := ⟨rfl, rfl, rfl, by decide +kernel, rfl, by decide +kernel, by decide +kernel⟩
theorem nd_InvalidRow_init : N_InvalidRow_init.Nodup := by decide +kernel
abbrev s_InvalidLets_init : Stmt := inClass (topS 5) 0
abbrev N_InvalidLets_init : List Str := ["self", "value"]
abbrev P_InvalidLets_init : List Str := ["self", "value"]
theorem sc_InvalidLets_init : FnScope N_InvalidLets_init P_InvalidLets_init (defScope s_InvalidLets_init) := ⟨rfl, rfl, rfl, by decide +kernel, rfl, by decide +kernel, by decide +kernel⟩
theorem nd_InvalidLets_init : N_InvalidLets_init.Nodup := by decide +kernel
abbrev s_InvalidList_init : Stmt := inClass (topS 6) 0
abbrev N_InvalidList_init : List Str := ["self", "value"]
abbrev P_InvalidList_init : List Str := ["self", "value"]
theorem sc_InvalidList_init : FnScope N_InvalidList_init P_InvalidList_init (defScope s_InvalidList_init) := ⟨rfl, rfl, rfl, by decide +kernel, rfl, by decide +kernel, by decide +kernel⟩
theorem nd_InvalidList_init : N_InvalidList_init.Nodup := by decide +kernel
abbrev s_InvalidPlace_init : Stmt := inClass (topS 7) 0
abbrev N_InvalidPlace_init : List Str := ["self", "value"]
abbrev P_InvalidPlace_init : List Str := ["self", "value"]
theorem sc_InvalidPlace_init : FnScope N_InvalidPlace_init P_InvalidPlace_init (defScope s_InvalidPlace_init) := ⟨rfl, rfl, rfl, by decide +kernel, rfl, by decide +kernel, by decide +kernel⟩
theorem nd_InvalidPlace_init : N_InvalidPlace_init.Nodup := by decide +kernel
abbrev s_is_whole : Stmt := topS 10
abbrev N_is_whole : List Str := ["value"]
abbrev P_is_whole : List Str := ["value"]
theorem sc_is_whole : FnScope N_is_whole P_is_whole (defScope s_is_whole) := ⟨rfl, rfl, rfl, by decide +kernel, rfl, by decide +kernel, by decide +kernel⟩
theorem nd_is_whole : N_is_whole.Nodup := by decide +kernel
abbrev s_is_count : Stmt := topS 11
abbrev N_is_count : List Str := ["value"]
abbrev P_is_count : List Str := ["value"]
theorem sc_is_count : FnScope N_is_count P_is_count (defScope s_is_count) := ⟨rfl, rfl, rfl, by decide +kernel, rfl, by decide +kernel, by decide +kernel⟩
theorem nd_is_count : N_is_count.Nodup := by decide +kernel
abbrev s_is_row : Stmt := topS 12
abbrev N_is_row : List Str := ["value", "item"]
abbrev P_is_row : List Str := ["value"]
theorem sc_is_row : FnScope N_is_row P_is_row (defScope s_is_row) := ⟨rfl, rfl, rfl, by decide +kernel, rfl, by decide +kernel, by decide +kernel⟩
theorem nd_is_row : N_is_row.Nodup := by decide +kernel
abbrev s_is_order : Stmt := topS 13
abbrev N_is_order : List Str := ["value"]
abbrev P_is_order : List Str := ["value"]
theorem sc_is_order : FnScope N_is_order P_is_order (defScope s_is_order) := ⟨rfl, rfl, rfl, by decide +kernel, rfl, by decide +kernel, by decide +kernel⟩
theorem nd_is_order : N_is_order.Nodup := by decide +kernel
abbrev s_is_log : Stmt := topS 14
abbrev N_is_log : List Str := ["value", "at", "item"]
abbrev P_is_log : List Str := ["value"]
theorem sc_is_log : FnScope N_is_log P_is_log (defScope s_is_log) := ⟨rfl, rfl, rfl, by decide +kernel, rfl, by decide +kernel, by decide +kernel⟩
theorem nd_is_log : N_is_log.Nodup := by decide +kernel
abbrev s_need_order : Stmt := topS 15
abbrev N_need_order : List Str := ["order"]
abbrev P_need_order : List Str := ["order"]
theorem sc_need_order : FnScope N_need_order P_need_order (defScope s_need_order) := ⟨rfl, rfl, rfl, by decide +kernel, rfl, by decide +kernel, by decide +kernel⟩
theorem nd_need_order : N_need_order.Nodup := by decide +kernel
abbrev s_need_row : Stmt := topS 16
abbrev N_need_row : List Str := ["row"]
abbrev P_need_row : List Str := ["row"]
theorem sc_need_row : FnScope N_need_row P_need_row (defScope s_need_row) := ⟨rfl, rfl, rfl, by decide +kernel, rfl, by decide +kernel, by decide +kernel⟩
theorem nd_need_row : N_need_row.Nodup := by decide +kernel
abbrev s_log_of : Stmt := topS 17
abbrev N_log_of : List Str := ["order", "at", "item", "other"]
abbrev P_log_of : List Str := ["order"]
theorem sc_log_of : FnScope N_log_of P_log_of (defScope s_log_of) := ⟨rfl, rfl, rfl, by decide +kernel, rfl, by decide +kernel, by decide +kernel⟩
theorem nd_log_of : N_log_of.Nodup := by decide +kernel
abbrev s_order_of : Stmt := topS 18
abbrev N_order_of : List Str := ["log", "found", "item", "other"]
abbrev P_order_of : List Str := ["log"]
theorem sc_order_of : FnScope N_order_of P_order_of (defScope s_order_of) := ⟨rfl, rfl, rfl, by decide +kernel, rfl, by decide +kernel, by decide +kernel⟩
theorem nd_order_of : N_order_of.Nodup := by decide +kernel
abbrev s_left_count : Stmt := topS 19
abbrev N_left_count : List Str := ["order", "at", "low", "high", "item"]
abbrev P_left_count : List Str := ["order", "at"]
theorem sc_left_count : FnScope N_left_count P_left_count (defScope s_left_count) := ⟨rfl, rfl, rfl, by decide +kernel, rfl, by decide +kernel, by decide +kernel⟩
theorem nd_left_count : N_left_count.Nodup := by decide +kernel
abbrev s_exchanged : Stmt := topS 20
abbrev N_exchanged : List Str := ["order", "at"]
abbrev P_exchanged : List Str := ["order", "at"]
theorem sc_exchanged : FnScope N_exchanged P_exchanged (defScope s_exchanged) := ⟨rfl, rfl, rfl, by decide +kernel, rfl, by decide +kernel, by decide +kernel⟩
theorem nd_exchanged : N_exchanged.Nodup := by decide +kernel
abbrev s_may_be_told : Stmt := topS 24
abbrev N_may_be_told : List Str := ["value"]
abbrev P_may_be_told : List Str := ["value"]
theorem sc_may_be_told : FnScope N_may_be_told P_may_be_told (defScope s_may_be_told) := ⟨rfl, rfl, rfl, by decide +kernel, rfl, by decide +kernel, by decide +kernel⟩
theorem nd_may_be_told : N_may_be_told.Nodup := by decide +kernel
abbrev s_are_numbers : Stmt := topS 25
abbrev N_are_numbers : List Str := ["value", "item"]
abbrev P_are_numbers : List Str := ["value"]
theorem sc_are_numbers : FnScope N_are_numbers P_are_numbers (defScope s_are_numbers) := ⟨rfl, rfl, rfl, by decide +kernel, rfl, by decide +kernel, by decide +kernel⟩
theorem nd_are_numbers : N_are_numbers.Nodup := by decide +kernel
abbrev s_Lets_init : Stmt := inClass (topS 26) 0
abbrev N_Lets_init : List Str := ["self", "numbers", "start"]
abbrev P_Lets_init : List Str := ["self", "numbers", "start"]
theorem sc_Lets_init : FnScope N_Lets_init P_Lets_init (defScope s_Lets_init) := ⟨rfl, rfl, rfl, by decide +kernel, rfl, by decide +kernel, by decide +kernel⟩
theorem nd_Lets_init : N_Lets_init.Nodup := by decide +kernel
abbrev s_Letssettle : Stmt := inClass (topS 26) 1
abbrev N_Letssettle : List Str := ["self", "numbers", "start", "table", "least", "number"]
abbrev P_Letssettle : List Str := ["self", "numbers", "start"]
theorem sc_Letssettle : FnScope N_Letssettle P_Letssettle (defScope s_Letssettle) := ⟨rfl, rfl, rfl, by decide +kernel, rfl, by decide +kernel, by decide +kernel⟩
theorem nd_Letssettle : N_Letssettle.Nodup := by decide +kernel
abbrev s_Lets_numbers : Stmt := inClass (topS 26) 2
abbrev N_Lets_numbers : List Str := ["self"]
abbrev P_Lets_numbers : List Str := ["self"]
theorem sc_Lets_numbers : FnScope N_Lets_numbers P_Lets_numbers (defScope s_Lets_numbers) := ⟨rfl, rfl, rfl, by decide +kernel, rfl, by decide +kernel, by decide +kernel⟩
theorem nd_Lets_numbers : N_Lets_numbers.Nodup := by decide +kernel
abbrev s_Lets_start : Stmt := inClass (topS 26) 3
abbrev N_Lets_start : List Str := ["self"]
abbrev P_Lets_start : List Str := ["self"]
theorem sc_Lets_start : FnScope N_Lets_start P_Lets_start (defScope s_Lets_start) := ⟨rfl, rfl, rfl, by decide +kernel, rfl, by decide +kernel, by decide +kernel⟩
theorem nd_Lets_start : N_Lets_start.Nodup := by decide +kernel
abbrev s_Lets_contains : Stmt := inClass (topS 26) 4
abbrev N_Lets_contains : List Str := ["self", "x"]
abbrev P_Lets_contains : List Str := ["self", "x"]
theorem sc_Lets_contains : FnScope N_Lets_contains P_Lets_contains (defScope s_Lets_contains) := ⟨rfl, rfl, rfl, by decide +kernel, rfl, by decide +kernel, by decide +kernel⟩
theorem nd_Lets_contains : N_Lets_contains.Nodup := by decide +kernel
abbrev s_Lets_eq : Stmt := inClass (topS 26) 5
abbrev N_Lets_eq : List Str := ["self", "other"]
abbrev P_Lets_eq : List Str := ["self", "other"]
theorem sc_Lets_eq : FnScope N_Lets_eq P_Lets_eq (defScope s_Lets_eq) := ⟨rfl, rfl, rfl, by decide +kernel, rfl, by decide +kernel, by decide +kernel⟩
theorem nd_Lets_eq : N_Lets_eq.Nodup := by decide +kernel
abbrev s_need_lets : Stmt := topS 27
abbrev N_need_lets : List Str := ["lets"]
abbrev P_need_lets : List Str := ["lets"]
theorem sc_need_lets : FnScope N_need_lets P_need_lets (defScope s_need_lets) := ⟨rfl, rfl, rfl, by decide +kernel, rfl, by decide +kernel, by decide +kernel⟩
theorem nd_need_lets : N_need_lets.Nodup := by decide +kernel
abbrev s_need_place : Stmt := topS 29
abbrev N_need_place : List Str := ["order", "at"]
abbrev P_need_place : List Str := ["order", "at"]
theorem sc_need_place : FnScope N_need_place P_need_place (defScope s_need_place) := ⟨rfl, rfl, rfl, by decide +kernel, rfl, by decide +kernel, by decide +kernel⟩
theorem nd_need_place : N_need_place.Nodup := by decide +kernel
abbrev s_order_done : Stmt := topS 30
abbrev N_order_done : List Str := ["lets", "order", "at"]
abbrev P_order_done : List Str := ["lets", "order", "at"]
theorem sc_order_done : FnScope N_order_done P_order_done (defScope s_order_done) := ⟨rfl, rfl, rfl, by decide +kernel, rfl, by decide +kernel, by decide +kernel⟩
theorem nd_order_done : N_order_done.Nodup := by decide +kernel
abbrev s_done : Stmt := topS 31
abbrev N_done : List Str := ["lets", "row", "at", "one", "other"]
abbrev P_done : List Str := ["lets", "row", "at"]
theorem sc_done : FnScope N_done P_done (defScope s_done) := ⟨rfl, rfl, rfl, by decide +kernel, rfl, by decide +kernel, by decide +kernel⟩
theorem nd_done : N_done.Nodup := by decide +kernel
abbrev s_row_done : Stmt := topS 32
abbrev N_row_done : List Str := ["lets", "row", "at", "found"]
abbrev P_row_done : List Str := ["lets", "row", "at"]
theorem sc_row_done : FnScope N_row_done P_row_done (defScope s_row_done) := ⟨rfl, rfl, rfl, by decide +kernel, rfl, by decide +kernel, by decide +kernel⟩
theorem nd_row_done : N_row_done.Nodup := by decide +kernel
abbrev s_open_places : Stmt := topS 33
abbrev N_open_places : List Str := ["lets", "row", "at"]
abbrev P_open_places : List Str := ["lets", "row"]
theorem sc_open_places : FnScope N_open_places P_open_places (defScope s_open_places) := ⟨rfl, rfl, rfl, by decide +kernel, rfl, by decide +kernel, by decide +kernel⟩
theorem nd_open_places : N_open_places.Nodup := by decide +kernel
abbrev s_l_hash : Stmt := topS 35
abbrev N_l_hash : List Str := ["_law_seed", "_law_index", "_law_mixed"]
abbrev P_l_hash : List Str := ["_law_seed", "_law_index"]
theorem sc_l_hash : FnScope N_l_hash P_l_hash (defScope s_l_hash) := ⟨rfl, rfl, rfl, by decide +kernel, rfl, by decide +kernel, by decide +kernel⟩
theorem nd_l_hash : N_l_hash.Nodup := by decide +kernel
abbrev s_l_random : Stmt := topS 36
abbrev N_l_random : List Str := ["_law_generator_here", "_law_bound", "_law_drawn", "_law_turn"]
abbrev P_l_random : List Str := ["_law_generator_here", "_law_bound"]
theorem sc_l_random : FnScope N_l_random P_l_random (defScope s_l_random) := ⟨rfl, rfl, rfl, by decide +kernel, rfl, by decide +kernel, by decide +kernel⟩
theorem nd_l_random : N_l_random.Nodup := by decide +kernel
abbrev s_l_cell : Stmt := topS 37
abbrev N_l_cell : List Str := ["_law_script", "_law_index"]
abbrev P_l_cell : List Str := ["_law_script", "_law_index"]
theorem sc_l_cell : FnScope N_l_cell P_l_cell (defScope s_l_cell) := ⟨rfl, rfl, rfl, by decide +kernel, rfl, by decide +kernel, by decide +kernel⟩
theorem nd_l_cell : N_l_cell.Nodup := by decide +kernel
abbrev s_l_generator : Stmt := topS 38
abbrev N_l_generator : List Str := ["_law_script", "_law_index", "_law_seed"]
abbrev P_l_generator : List Str := ["_law_script", "_law_index"]
theorem sc_l_generator : FnScope N_l_generator P_l_generator (defScope s_l_generator) := ⟨rfl, rfl, rfl, by decide +kernel, rfl, by decide +kernel, by decide +kernel⟩
theorem nd_l_generator : N_l_generator.Nodup := by decide +kernel
abbrev s_l_order : Stmt := topS 39
abbrev N_l_order : List Str := ["_law_log_here", "_law_found", "_law_item", "_law_other"]
abbrev P_l_order : List Str := ["_law_log_here"]
theorem sc_l_order : FnScope N_l_order P_l_order (defScope s_l_order) := ⟨rfl, rfl, rfl, by decide +kernel, rfl, by decide +kernel, by decide +kernel⟩
theorem nd_l_order : N_l_order.Nodup := by decide +kernel
abbrev s_l_log : Stmt := topS 40
abbrev N_l_log : List Str := ["_law_order_here", "_law_at", "_law_other"]
abbrev P_l_log : List Str := ["_law_order_here"]
theorem sc_l_log : FnScope N_l_log P_l_log (defScope s_l_log) := ⟨rfl, rfl, rfl, by decide +kernel, rfl, by decide +kernel, by decide +kernel⟩
theorem nd_l_log : N_l_log.Nodup := by decide +kernel
abbrev s_l_drawn_log : Stmt := topS 41
abbrev N_l_drawn_log : List Str := ["_law_generator_here", "_law_length", "_law_at"]
abbrev P_l_drawn_log : List Str := ["_law_generator_here", "_law_length"]
theorem sc_l_drawn_log : FnScope N_l_drawn_log P_l_drawn_log (defScope s_l_drawn_log) := ⟨rfl, rfl, rfl, by decide +kernel, rfl, by decide +kernel, by decide +kernel⟩
theorem nd_l_drawn_log : N_l_drawn_log.Nodup := by decide +kernel
abbrev s_l_menu : Stmt := topS 42
abbrev N_l_menu : List Str := ["_law_found"]
abbrev P_l_menu : List Str := []
theorem sc_l_menu : FnScope N_l_menu P_l_menu (defScope s_l_menu) := ⟨rfl, rfl, rfl, by decide +kernel, rfl, by decide +kernel, by decide +kernel⟩
theorem nd_l_menu : N_l_menu.Nodup := by decide +kernel
abbrev s_l_let : Stmt := topS 43
abbrev N_l_let : List Str := ["_law_way", "_law_count"]
abbrev P_l_let : List Str := ["_law_way", "_law_count"]
theorem sc_l_let : FnScope N_l_let P_l_let (defScope s_l_let) := ⟨rfl, rfl, rfl, by decide +kernel, rfl, by decide +kernel, by decide +kernel⟩
theorem nd_l_let : N_l_let.Nodup := by decide +kernel
abbrev s_l_pair : Stmt := topS 44
abbrev N_l_pair : List Str := ["_law_way", "_law_first", "_law_second"]
abbrev P_l_pair : List Str := ["_law_way", "_law_first", "_law_second"]
theorem sc_l_pair : FnScope N_l_pair P_l_pair (defScope s_l_pair) := ⟨rfl, rfl, rfl, by decide +kernel, rfl, by decide +kernel, by decide +kernel⟩
theorem nd_l_pair : N_l_pair.Nodup := by decide +kernel
abbrev s_l_near : Stmt := topS 45
abbrev N_l_near : List Str := ["_law_way", "_law_row", "_law_found", "_law_at", "_law_pair_here"]
abbrev P_l_near : List Str := ["_law_way", "_law_row"]
theorem sc_l_near : FnScope N_l_near P_l_near (defScope s_l_near) := ⟨rfl, rfl, rfl, by decide +kernel, rfl, by decide +kernel, by decide +kernel⟩
theorem nd_l_near : N_l_near.Nodup := by decide +kernel
abbrev s_l_class : Stmt := topS 46
abbrev N_l_class : List Str := ["_law_way", "_law_row", "_law_most", "_law_found", "_law_known", "_law_at", "_law_place", "_law_other"]
abbrev P_l_class : List Str := ["_law_way", "_law_row", "_law_most"]
theorem sc_l_class : FnScope N_l_class P_l_class (defScope s_l_class) := ⟨rfl, rfl, rfl, by decide +kernel, rfl, by decide +kernel, by decide +kernel⟩
theorem nd_l_class : N_l_class.Nodup := by decide +kernel
abbrev s_l_lets : Stmt := topS 47
abbrev N_l_lets : List Str := ["_law_way", "_law_numbers"]
abbrev P_l_lets : List Str := ["_law_way"]
theorem sc_l_lets : FnScope N_l_lets P_l_lets (defScope s_l_lets) := ⟨rfl, rfl, rfl, by decide +kernel, rfl, by decide +kernel, by decide +kernel⟩
theorem nd_l_lets : N_l_lets.Nodup := by decide +kernel
abbrev s_l_left : Stmt := topS 48
abbrev N_l_left : List Str := ["_law_order_here", "_law_at", "_law_low", "_law_high", "_law_item"]
abbrev P_l_left : List Str := ["_law_order_here", "_law_at"]
theorem sc_l_left : FnScope N_l_left P_l_left (defScope s_l_left) := ⟨rfl, rfl, rfl, by decide +kernel, rfl, by decide +kernel, by decide +kernel⟩
theorem nd_l_left : N_l_left.Nodup := by decide +kernel
abbrev s_l_caught : Stmt := topS 49
abbrev N_l_caught : List Str := ["_law_which", "_law_lets_here", "_law_row", "_law_at", "_law_error", "e", "_law_kinds"]
abbrev P_l_caught : List Str := ["_law_which", "_law_lets_here", "_law_row", "_law_at"]
theorem sc_l_caught : FnScope N_l_caught P_l_caught (defScope s_l_caught) := ⟨rfl, rfl, rfl, by decide +kernel, rfl, by decide +kernel, by decide +kernel⟩
theorem nd_l_caught : N_l_caught.Nodup := by decide +kernel
abbrev s_l_only : Stmt := topS 50
abbrev N_l_only : List Str := ["_law_place", "_law_bad", "_law_at"]
abbrev P_l_only : List Str := ["_law_place", "_law_bad"]
theorem sc_l_only : FnScope N_l_only P_l_only (defScope s_l_only) := ⟨rfl, rfl, rfl, by decide +kernel, rfl, by decide +kernel, by decide +kernel⟩
theorem nd_l_only : N_l_only.Nodup := by decide +kernel
abbrev s_l_row_right : Stmt := topS 51
abbrev N_l_row_right : List Str := ["_law_way", "_law_lets_here", "_law_row", "_law_given", "_law_near_here", "_law_told", "_law_at", "_law_due", "_law_other", "_law_shut", "_law_pair_here"]
abbrev P_l_row_right : List Str := ["_law_way", "_law_lets_here", "_law_row"]
theorem sc_l_row_right : FnScope N_l_row_right P_l_row_right (defScope s_l_row_right) := ⟨rfl, rfl, rfl, by decide +kernel, rfl, by decide +kernel, by decide +kernel⟩
theorem nd_l_row_right : N_l_row_right.Nodup := by decide +kernel
abbrev s_l_order_right : Stmt := topS 52
abbrev N_l_order_right : List Str := ["_law_way", "_law_lets_here", "_law_order_here", "_law_log_here", "_law_at", "_law_due", "_law_other"]
abbrev P_l_order_right : List Str := ["_law_way", "_law_lets_here", "_law_order_here"]
theorem sc_l_order_right : FnScope N_l_order_right P_l_order_right (defScope s_l_order_right) := ⟨rfl, rfl, rfl, by decide +kernel, rfl, by decide +kernel, by decide +kernel⟩
theorem nd_l_order_right : N_l_order_right.Nodup := by decide +kernel
abbrev s_l_refused : Stmt := topS 53
abbrev N_l_refused : List Str := ["_law_lets_here", "_law_bad", "_law_which"]
abbrev P_l_refused : List Str := ["_law_lets_here"]
theorem sc_l_refused : FnScope N_l_refused P_l_refused (defScope s_l_refused) := ⟨rfl, rfl, rfl, by decide +kernel, rfl, by decide +kernel, by decide +kernel⟩
theorem nd_l_refused : N_l_refused.Nodup := by decide +kernel
abbrev s_law : Stmt := topS 54
abbrev N_law : List Str := ["_law_script", "_law_index", "_law_generator_here", "_law_way", "_law_lets_here", "_law_length", "_law_base", "_law_top", "_law_turn"]
abbrev P_law : List Str := ["_law_script"]
theorem sc_law : FnScope N_law P_law (defScope s_law) := ⟨rfl, rfl, rfl, by decide +kernel, rfl, by decide +kernel, by decide +kernel⟩
theorem nd_law : N_law.Nodup := by decide +kernel
structure Tx (K : PySem.W.Frag) (mg : Str → Option Value) where
  a_is_whole : Addr
  fd_is_whole : FuncData
  F_is_whole : Fun K "is_whole" "is_whole" s_is_whole a_is_whole fd_is_whole
  g_is_whole : mg "is_whole" = some (.ref a_is_whole)
  b_is_whole : Binds K fd_is_whole P_is_whole []
  a_is_count : Addr
  fd_is_count : FuncData
  F_is_count : Fun K "is_count" "is_count" s_is_count a_is_count fd_is_count
  g_is_count : mg "is_count" = some (.ref a_is_count)
  b_is_count : Binds K fd_is_count P_is_count []
  a_is_row : Addr
  fd_is_row : FuncData
  F_is_row : Fun K "is_row" "is_row" s_is_row a_is_row fd_is_row
  g_is_row : mg "is_row" = some (.ref a_is_row)
  b_is_row : Binds K fd_is_row P_is_row []
  a_is_order : Addr
  fd_is_order : FuncData
  F_is_order : Fun K "is_order" "is_order" s_is_order a_is_order fd_is_order
  g_is_order : mg "is_order" = some (.ref a_is_order)
  b_is_order : Binds K fd_is_order P_is_order []
  a_is_log : Addr
  fd_is_log : FuncData
  F_is_log : Fun K "is_log" "is_log" s_is_log a_is_log fd_is_log
  g_is_log : mg "is_log" = some (.ref a_is_log)
  b_is_log : Binds K fd_is_log P_is_log []
  a_need_order : Addr
  fd_need_order : FuncData
  F_need_order : Fun K "need_order" "need_order" s_need_order a_need_order fd_need_order
  g_need_order : mg "need_order" = some (.ref a_need_order)
  b_need_order : Binds K fd_need_order P_need_order []
  a_need_row : Addr
  fd_need_row : FuncData
  F_need_row : Fun K "need_row" "need_row" s_need_row a_need_row fd_need_row
  g_need_row : mg "need_row" = some (.ref a_need_row)
  b_need_row : Binds K fd_need_row P_need_row []
  a_log_of : Addr
  fd_log_of : FuncData
  F_log_of : Fun K "log_of" "log_of" s_log_of a_log_of fd_log_of
  g_log_of : mg "log_of" = some (.ref a_log_of)
  b_log_of : Binds K fd_log_of P_log_of []
  a_order_of : Addr
  fd_order_of : FuncData
  F_order_of : Fun K "order_of" "order_of" s_order_of a_order_of fd_order_of
  g_order_of : mg "order_of" = some (.ref a_order_of)
  b_order_of : Binds K fd_order_of P_order_of []
  a_left_count : Addr
  fd_left_count : FuncData
  F_left_count : Fun K "left_count" "left_count" s_left_count a_left_count fd_left_count
  g_left_count : mg "left_count" = some (.ref a_left_count)
  b_left_count : Binds K fd_left_count P_left_count []
  a_exchanged : Addr
  fd_exchanged : FuncData
  F_exchanged : Fun K "exchanged" "exchanged" s_exchanged a_exchanged fd_exchanged
  g_exchanged : mg "exchanged" = some (.ref a_exchanged)
  b_exchanged : Binds K fd_exchanged P_exchanged []
  a_may_be_told : Addr
  fd_may_be_told : FuncData
  F_may_be_told : Fun K "_may_be_told" "_may_be_told" s_may_be_told a_may_be_told fd_may_be_told
  g_may_be_told : mg "_may_be_told" = some (.ref a_may_be_told)
  b_may_be_told : Binds K fd_may_be_told P_may_be_told []
  a_are_numbers : Addr
  fd_are_numbers : FuncData
  F_are_numbers : Fun K "_are_numbers" "_are_numbers" s_are_numbers a_are_numbers fd_are_numbers
  g_are_numbers : mg "_are_numbers" = some (.ref a_are_numbers)
  b_are_numbers : Binds K fd_are_numbers P_are_numbers []
  a_need_lets : Addr
  fd_need_lets : FuncData
  F_need_lets : Fun K "need_lets" "need_lets" s_need_lets a_need_lets fd_need_lets
  g_need_lets : mg "need_lets" = some (.ref a_need_lets)
  b_need_lets : Binds K fd_need_lets P_need_lets []
  a_need_place : Addr
  fd_need_place : FuncData
  F_need_place : Fun K "_need_place" "_need_place" s_need_place a_need_place fd_need_place
  g_need_place : mg "_need_place" = some (.ref a_need_place)
  b_need_place : Binds K fd_need_place P_need_place []
  a_order_done : Addr
  fd_order_done : FuncData
  F_order_done : Fun K "order_done" "order_done" s_order_done a_order_done fd_order_done
  g_order_done : mg "order_done" = some (.ref a_order_done)
  b_order_done : Binds K fd_order_done P_order_done []
  a_done : Addr
  fd_done : FuncData
  F_done : Fun K "_done" "_done" s_done a_done fd_done
  g_done : mg "_done" = some (.ref a_done)
  b_done : Binds K fd_done P_done []
  a_row_done : Addr
  fd_row_done : FuncData
  F_row_done : Fun K "row_done" "row_done" s_row_done a_row_done fd_row_done
  g_row_done : mg "row_done" = some (.ref a_row_done)
  b_row_done : Binds K fd_row_done P_row_done []
  a_open_places : Addr
  fd_open_places : FuncData
  F_open_places : Fun K "open_places" "open_places" s_open_places a_open_places fd_open_places
  g_open_places : mg "open_places" = some (.ref a_open_places)
  b_open_places : Binds K fd_open_places P_open_places []
  a_l_hash : Addr
  fd_l_hash : FuncData
  F_l_hash : Fun K "_law_hash" "_law_hash" s_l_hash a_l_hash fd_l_hash
  g_l_hash : mg "_law_hash" = some (.ref a_l_hash)
  b_l_hash : Binds K fd_l_hash P_l_hash []
  a_l_random : Addr
  fd_l_random : FuncData
  F_l_random : Fun K "_law_random" "_law_random" s_l_random a_l_random fd_l_random
  g_l_random : mg "_law_random" = some (.ref a_l_random)
  b_l_random : Binds K fd_l_random P_l_random []
  a_l_cell : Addr
  fd_l_cell : FuncData
  F_l_cell : Fun K "_law_cell" "_law_cell" s_l_cell a_l_cell fd_l_cell
  g_l_cell : mg "_law_cell" = some (.ref a_l_cell)
  b_l_cell : Binds K fd_l_cell P_l_cell []
  a_l_generator : Addr
  fd_l_generator : FuncData
  F_l_generator : Fun K "_law_generator" "_law_generator" s_l_generator a_l_generator fd_l_generator
  g_l_generator : mg "_law_generator" = some (.ref a_l_generator)
  b_l_generator : Binds K fd_l_generator P_l_generator []
  a_l_order : Addr
  fd_l_order : FuncData
  F_l_order : Fun K "_law_order" "_law_order" s_l_order a_l_order fd_l_order
  g_l_order : mg "_law_order" = some (.ref a_l_order)
  b_l_order : Binds K fd_l_order P_l_order []
  a_l_log : Addr
  fd_l_log : FuncData
  F_l_log : Fun K "_law_log" "_law_log" s_l_log a_l_log fd_l_log
  g_l_log : mg "_law_log" = some (.ref a_l_log)
  b_l_log : Binds K fd_l_log P_l_log []
  a_l_drawn_log : Addr
  fd_l_drawn_log : FuncData
  F_l_drawn_log : Fun K "_law_drawn_log" "_law_drawn_log" s_l_drawn_log a_l_drawn_log fd_l_drawn_log
  g_l_drawn_log : mg "_law_drawn_log" = some (.ref a_l_drawn_log)
  b_l_drawn_log : Binds K fd_l_drawn_log P_l_drawn_log []
  a_l_menu : Addr
  fd_l_menu : FuncData
  F_l_menu : Fun K "_law_menu" "_law_menu" s_l_menu a_l_menu fd_l_menu
  g_l_menu : mg "_law_menu" = some (.ref a_l_menu)
  b_l_menu : Binds K fd_l_menu P_l_menu []
  a_l_let : Addr
  fd_l_let : FuncData
  F_l_let : Fun K "_law_let" "_law_let" s_l_let a_l_let fd_l_let
  g_l_let : mg "_law_let" = some (.ref a_l_let)
  b_l_let : Binds K fd_l_let P_l_let []
  a_l_pair : Addr
  fd_l_pair : FuncData
  F_l_pair : Fun K "_law_pair" "_law_pair" s_l_pair a_l_pair fd_l_pair
  g_l_pair : mg "_law_pair" = some (.ref a_l_pair)
  b_l_pair : Binds K fd_l_pair P_l_pair []
  a_l_near : Addr
  fd_l_near : FuncData
  F_l_near : Fun K "_law_near" "_law_near" s_l_near a_l_near fd_l_near
  g_l_near : mg "_law_near" = some (.ref a_l_near)
  b_l_near : Binds K fd_l_near P_l_near []
  a_l_lets : Addr
  fd_l_lets : FuncData
  F_l_lets : Fun K "_law_lets" "_law_lets" s_l_lets a_l_lets fd_l_lets
  g_l_lets : mg "_law_lets" = some (.ref a_l_lets)
  b_l_lets : Binds K fd_l_lets P_l_lets []
  a_l_left : Addr
  fd_l_left : FuncData
  F_l_left : Fun K "_law_left" "_law_left" s_l_left a_l_left fd_l_left
  g_l_left : mg "_law_left" = some (.ref a_l_left)
  b_l_left : Binds K fd_l_left P_l_left []
  a_l_caught : Addr
  fd_l_caught : FuncData
  F_l_caught : Fun K "_law_caught" "_law_caught" s_l_caught a_l_caught fd_l_caught
  g_l_caught : mg "_law_caught" = some (.ref a_l_caught)
  b_l_caught : Binds K fd_l_caught P_l_caught []
  a_l_only : Addr
  fd_l_only : FuncData
  F_l_only : Fun K "_law_only" "_law_only" s_l_only a_l_only fd_l_only
  g_l_only : mg "_law_only" = some (.ref a_l_only)
  b_l_only : Binds K fd_l_only P_l_only []
  a_l_row_right : Addr
  fd_l_row_right : FuncData
  F_l_row_right : Fun K "_law_row_right" "_law_row_right" s_l_row_right a_l_row_right fd_l_row_right
  g_l_row_right : mg "_law_row_right" = some (.ref a_l_row_right)
  b_l_row_right : Binds K fd_l_row_right P_l_row_right []
  a_l_order_right : Addr
  fd_l_order_right : FuncData
  F_l_order_right : Fun K "_law_order_right" "_law_order_right" s_l_order_right a_l_order_right fd_l_order_right
  g_l_order_right : mg "_law_order_right" = some (.ref a_l_order_right)
  b_l_order_right : Binds K fd_l_order_right P_l_order_right []
  a_l_refused : Addr
  fd_l_refused : FuncData
  F_l_refused : Fun K "_law_refused" "_law_refused" s_l_refused a_l_refused fd_l_refused
  g_l_refused : mg "_law_refused" = some (.ref a_l_refused)
  b_l_refused : Binds K fd_l_refused P_l_refused []
  a_law : Addr
  fd_law : FuncData
  F_law : Fun K "law" "law" s_law a_law fd_law
  g_law : mg "law" = some (.ref a_law)
  b_law : Binds K fd_law P_law []
  a_GapError : Addr
  a_InvalidNumber : Addr
  a_InvalidOrder : Addr
  a_InvalidRow : Addr
  a_InvalidLets : Addr
  a_InvalidList : Addr
  a_InvalidPlace : Addr
  a_Lets : Addr
  g_GapError : mg "GapError" = some (.ref a_GapError)
  g_InvalidNumber : mg "InvalidNumber" = some (.ref a_InvalidNumber)
  e_InvalidNumber : ErrC K a_InvalidNumber
  x_InvalidNumber : OexC K a_InvalidNumber
  ai_InvalidNumber : Addr
  fdi_InvalidNumber : FuncData
  i_InvalidNumber : PySem.W.findIn K (.ref a_InvalidNumber) "__init__" = some (some (.ref ai_InvalidNumber))
  t_InvalidNumber : PySem.W.typeIn K (.ref ai_InvalidNumber) = some (.type "function")
  Fi_InvalidNumber : FunV K "__init__" "InvalidNumber.__init__" s_InvalidNumber_init ai_InvalidNumber fdi_InvalidNumber
  bi_InvalidNumber : Binds K fdi_InvalidNumber P_InvalidNumber_init []
  nv_InvalidNumber : PySem.W.findIn K (.ref a_InvalidNumber) "value" = some none
  m_InvalidNumber_GapError : PySem.W.exmOne K (.ref a_InvalidNumber) (.ref a_GapError) = some true
  k_InvalidNumber_InvalidNumber : PySem.W.kitOne K (.ref a_InvalidNumber) (.ref a_InvalidNumber) = some true
  k_InvalidNumber_InvalidOrder : PySem.W.kitOne K (.ref a_InvalidNumber) (.ref a_InvalidOrder) = some false
  k_InvalidNumber_InvalidRow : PySem.W.kitOne K (.ref a_InvalidNumber) (.ref a_InvalidRow) = some false
  k_InvalidNumber_InvalidLets : PySem.W.kitOne K (.ref a_InvalidNumber) (.ref a_InvalidLets) = some false
  k_InvalidNumber_InvalidList : PySem.W.kitOne K (.ref a_InvalidNumber) (.ref a_InvalidList) = some false
  k_InvalidNumber_InvalidPlace : PySem.W.kitOne K (.ref a_InvalidNumber) (.ref a_InvalidPlace) = some false
  kn_InvalidNumber : PySem.W.kitOne K (.type "NoneType") (.ref a_InvalidNumber) = some false
  g_InvalidOrder : mg "InvalidOrder" = some (.ref a_InvalidOrder)
  e_InvalidOrder : ErrC K a_InvalidOrder
  x_InvalidOrder : OexC K a_InvalidOrder
  ai_InvalidOrder : Addr
  fdi_InvalidOrder : FuncData
  i_InvalidOrder : PySem.W.findIn K (.ref a_InvalidOrder) "__init__" = some (some (.ref ai_InvalidOrder))
  t_InvalidOrder : PySem.W.typeIn K (.ref ai_InvalidOrder) = some (.type "function")
  Fi_InvalidOrder : FunV K "__init__" "InvalidOrder.__init__" s_InvalidOrder_init ai_InvalidOrder fdi_InvalidOrder
  bi_InvalidOrder : Binds K fdi_InvalidOrder P_InvalidOrder_init []
  nv_InvalidOrder : PySem.W.findIn K (.ref a_InvalidOrder) "value" = some none
  m_InvalidOrder_GapError : PySem.W.exmOne K (.ref a_InvalidOrder) (.ref a_GapError) = some true
  k_InvalidOrder_InvalidNumber : PySem.W.kitOne K (.ref a_InvalidOrder) (.ref a_InvalidNumber) = some false
  k_InvalidOrder_InvalidOrder : PySem.W.kitOne K (.ref a_InvalidOrder) (.ref a_InvalidOrder) = some true
  k_InvalidOrder_InvalidRow : PySem.W.kitOne K (.ref a_InvalidOrder) (.ref a_InvalidRow) = some false
  k_InvalidOrder_InvalidLets : PySem.W.kitOne K (.ref a_InvalidOrder) (.ref a_InvalidLets) = some false
  k_InvalidOrder_InvalidList : PySem.W.kitOne K (.ref a_InvalidOrder) (.ref a_InvalidList) = some false
  k_InvalidOrder_InvalidPlace : PySem.W.kitOne K (.ref a_InvalidOrder) (.ref a_InvalidPlace) = some false
  kn_InvalidOrder : PySem.W.kitOne K (.type "NoneType") (.ref a_InvalidOrder) = some false
  g_InvalidRow : mg "InvalidRow" = some (.ref a_InvalidRow)
  e_InvalidRow : ErrC K a_InvalidRow
  x_InvalidRow : OexC K a_InvalidRow
  ai_InvalidRow : Addr
  fdi_InvalidRow : FuncData
  i_InvalidRow : PySem.W.findIn K (.ref a_InvalidRow) "__init__" = some (some (.ref ai_InvalidRow))
  t_InvalidRow : PySem.W.typeIn K (.ref ai_InvalidRow) = some (.type "function")
  Fi_InvalidRow : FunV K "__init__" "InvalidRow.__init__" s_InvalidRow_init ai_InvalidRow fdi_InvalidRow
  bi_InvalidRow : Binds K fdi_InvalidRow P_InvalidRow_init []
  nv_InvalidRow : PySem.W.findIn K (.ref a_InvalidRow) "value" = some none
  m_InvalidRow_GapError : PySem.W.exmOne K (.ref a_InvalidRow) (.ref a_GapError) = some true
  k_InvalidRow_InvalidNumber : PySem.W.kitOne K (.ref a_InvalidRow) (.ref a_InvalidNumber) = some false
  k_InvalidRow_InvalidOrder : PySem.W.kitOne K (.ref a_InvalidRow) (.ref a_InvalidOrder) = some false
  k_InvalidRow_InvalidRow : PySem.W.kitOne K (.ref a_InvalidRow) (.ref a_InvalidRow) = some true
  k_InvalidRow_InvalidLets : PySem.W.kitOne K (.ref a_InvalidRow) (.ref a_InvalidLets) = some false
  k_InvalidRow_InvalidList : PySem.W.kitOne K (.ref a_InvalidRow) (.ref a_InvalidList) = some false
  k_InvalidRow_InvalidPlace : PySem.W.kitOne K (.ref a_InvalidRow) (.ref a_InvalidPlace) = some false
  kn_InvalidRow : PySem.W.kitOne K (.type "NoneType") (.ref a_InvalidRow) = some false
  g_InvalidLets : mg "InvalidLets" = some (.ref a_InvalidLets)
  e_InvalidLets : ErrC K a_InvalidLets
  x_InvalidLets : OexC K a_InvalidLets
  ai_InvalidLets : Addr
  fdi_InvalidLets : FuncData
  i_InvalidLets : PySem.W.findIn K (.ref a_InvalidLets) "__init__" = some (some (.ref ai_InvalidLets))
  t_InvalidLets : PySem.W.typeIn K (.ref ai_InvalidLets) = some (.type "function")
  Fi_InvalidLets : FunV K "__init__" "InvalidLets.__init__" s_InvalidLets_init ai_InvalidLets fdi_InvalidLets
  bi_InvalidLets : Binds K fdi_InvalidLets P_InvalidLets_init []
  nv_InvalidLets : PySem.W.findIn K (.ref a_InvalidLets) "value" = some none
  m_InvalidLets_GapError : PySem.W.exmOne K (.ref a_InvalidLets) (.ref a_GapError) = some true
  k_InvalidLets_InvalidNumber : PySem.W.kitOne K (.ref a_InvalidLets) (.ref a_InvalidNumber) = some false
  k_InvalidLets_InvalidOrder : PySem.W.kitOne K (.ref a_InvalidLets) (.ref a_InvalidOrder) = some false
  k_InvalidLets_InvalidRow : PySem.W.kitOne K (.ref a_InvalidLets) (.ref a_InvalidRow) = some false
  k_InvalidLets_InvalidLets : PySem.W.kitOne K (.ref a_InvalidLets) (.ref a_InvalidLets) = some true
  k_InvalidLets_InvalidList : PySem.W.kitOne K (.ref a_InvalidLets) (.ref a_InvalidList) = some false
  k_InvalidLets_InvalidPlace : PySem.W.kitOne K (.ref a_InvalidLets) (.ref a_InvalidPlace) = some false
  kn_InvalidLets : PySem.W.kitOne K (.type "NoneType") (.ref a_InvalidLets) = some false
  g_InvalidList : mg "InvalidList" = some (.ref a_InvalidList)
  e_InvalidList : ErrC K a_InvalidList
  x_InvalidList : OexC K a_InvalidList
  ai_InvalidList : Addr
  fdi_InvalidList : FuncData
  i_InvalidList : PySem.W.findIn K (.ref a_InvalidList) "__init__" = some (some (.ref ai_InvalidList))
  t_InvalidList : PySem.W.typeIn K (.ref ai_InvalidList) = some (.type "function")
  Fi_InvalidList : FunV K "__init__" "InvalidList.__init__" s_InvalidList_init ai_InvalidList fdi_InvalidList
  bi_InvalidList : Binds K fdi_InvalidList P_InvalidList_init []
  nv_InvalidList : PySem.W.findIn K (.ref a_InvalidList) "value" = some none
  m_InvalidList_GapError : PySem.W.exmOne K (.ref a_InvalidList) (.ref a_GapError) = some true
  k_InvalidList_InvalidNumber : PySem.W.kitOne K (.ref a_InvalidList) (.ref a_InvalidNumber) = some false
  k_InvalidList_InvalidOrder : PySem.W.kitOne K (.ref a_InvalidList) (.ref a_InvalidOrder) = some false
  k_InvalidList_InvalidRow : PySem.W.kitOne K (.ref a_InvalidList) (.ref a_InvalidRow) = some false
  k_InvalidList_InvalidLets : PySem.W.kitOne K (.ref a_InvalidList) (.ref a_InvalidLets) = some false
  k_InvalidList_InvalidList : PySem.W.kitOne K (.ref a_InvalidList) (.ref a_InvalidList) = some true
  k_InvalidList_InvalidPlace : PySem.W.kitOne K (.ref a_InvalidList) (.ref a_InvalidPlace) = some false
  kn_InvalidList : PySem.W.kitOne K (.type "NoneType") (.ref a_InvalidList) = some false
  g_InvalidPlace : mg "InvalidPlace" = some (.ref a_InvalidPlace)
  e_InvalidPlace : ErrC K a_InvalidPlace
  x_InvalidPlace : OexC K a_InvalidPlace
  ai_InvalidPlace : Addr
  fdi_InvalidPlace : FuncData
  i_InvalidPlace : PySem.W.findIn K (.ref a_InvalidPlace) "__init__" = some (some (.ref ai_InvalidPlace))
  t_InvalidPlace : PySem.W.typeIn K (.ref ai_InvalidPlace) = some (.type "function")
  Fi_InvalidPlace : FunV K "__init__" "InvalidPlace.__init__" s_InvalidPlace_init ai_InvalidPlace fdi_InvalidPlace
  bi_InvalidPlace : Binds K fdi_InvalidPlace P_InvalidPlace_init []
  nv_InvalidPlace : PySem.W.findIn K (.ref a_InvalidPlace) "value" = some none
  m_InvalidPlace_GapError : PySem.W.exmOne K (.ref a_InvalidPlace) (.ref a_GapError) = some true
  k_InvalidPlace_InvalidNumber : PySem.W.kitOne K (.ref a_InvalidPlace) (.ref a_InvalidNumber) = some false
  k_InvalidPlace_InvalidOrder : PySem.W.kitOne K (.ref a_InvalidPlace) (.ref a_InvalidOrder) = some false
  k_InvalidPlace_InvalidRow : PySem.W.kitOne K (.ref a_InvalidPlace) (.ref a_InvalidRow) = some false
  k_InvalidPlace_InvalidLets : PySem.W.kitOne K (.ref a_InvalidPlace) (.ref a_InvalidLets) = some false
  k_InvalidPlace_InvalidList : PySem.W.kitOne K (.ref a_InvalidPlace) (.ref a_InvalidList) = some false
  k_InvalidPlace_InvalidPlace : PySem.W.kitOne K (.ref a_InvalidPlace) (.ref a_InvalidPlace) = some true
  kn_InvalidPlace : PySem.W.kitOne K (.type "NoneType") (.ref a_InvalidPlace) = some false
  g_Lets : mg "Lets" = some (.ref a_Lets)
  cl_Lets : Cls K a_Lets
  ins_Lets : C8.InsC K a_Lets
  na_Lets__start : NoAttr K a_Lets "_start"
  na_Lets__numbers : NoAttr K a_Lets "_numbers"
  na_Lets__table : NoAttr K a_Lets "_table"
  am_Lets_init : Addr
  fd_Lets_init : FuncData
  F_Lets_init : FunV K "__init__" "Lets.__init__" s_Lets_init am_Lets_init fd_Lets_init
  b_Lets_init : Binds K fd_Lets_init P_Lets_init []
  M_Lets : Mk K a_Lets am_Lets_init
  bd_Lets_init : Binds K fd_Lets_init P_Lets_init [.none]
  am_Letssettle : Addr
  fd_Letssettle : FuncData
  F_Letssettle : FunV K "_settle" "Lets._settle" s_Letssettle am_Letssettle fd_Letssettle
  b_Letssettle : Binds K fd_Letssettle P_Letssettle []
  me_Letssettle : Meth K a_Lets "_settle" am_Letssettle
  am_Lets_numbers : Addr
  fd_Lets_numbers : FuncData
  F_Lets_numbers : FunV K "numbers" "Lets.numbers" s_Lets_numbers am_Lets_numbers fd_Lets_numbers
  b_Lets_numbers : Binds K fd_Lets_numbers P_Lets_numbers []
  me_Lets_numbers : Meth K a_Lets "numbers" am_Lets_numbers
  am_Lets_start : Addr
  fd_Lets_start : FuncData
  F_Lets_start : FunV K "start" "Lets.start" s_Lets_start am_Lets_start fd_Lets_start
  b_Lets_start : Binds K fd_Lets_start P_Lets_start []
  me_Lets_start : Meth K a_Lets "start" am_Lets_start
  am_Lets_contains : Addr
  fd_Lets_contains : FuncData
  F_Lets_contains : FunV K "__contains__" "Lets.__contains__" s_Lets_contains am_Lets_contains fd_Lets_contains
  b_Lets_contains : Binds K fd_Lets_contains P_Lets_contains []
  me_Lets_contains : Meth K a_Lets "__contains__" am_Lets_contains
  am_Lets_eq : Addr
  fd_Lets_eq : FuncData
  F_Lets_eq : FunV K "__eq__" "Lets.__eq__" s_Lets_eq am_Lets_eq fd_Lets_eq
  b_Lets_eq : Binds K fd_Lets_eq P_Lets_eq []
  me_Lets_eq : Meth K a_Lets "__eq__" am_Lets_eq
  kt_Lets_NoneType : PySem.W.kitOne K (.type "NoneType") (.ref a_Lets) = some false
  ns_Lets_NoneType : PySem.W.subIn K (.type "NoneType") (.ref a_Lets) = some false
  kt_Lets_bool : PySem.W.kitOne K (.type "bool") (.ref a_Lets) = some false
  ns_Lets_bool : PySem.W.subIn K (.type "bool") (.ref a_Lets) = some false
  kt_Lets_int : PySem.W.kitOne K (.type "int") (.ref a_Lets) = some false
  ns_Lets_int : PySem.W.subIn K (.type "int") (.ref a_Lets) = some false
  kt_Lets_str : PySem.W.kitOne K (.type "str") (.ref a_Lets) = some false
  ns_Lets_str : PySem.W.subIn K (.type "str") (.ref a_Lets) = some false
  kt_Lets_list : PySem.W.kitOne K (.type "list") (.ref a_Lets) = some false
  ns_Lets_list : PySem.W.subIn K (.type "list") (.ref a_Lets) = some false
  kt_Lets_tuple : PySem.W.kitOne K (.type "tuple") (.ref a_Lets) = some false
  ns_Lets_tuple : PySem.W.subIn K (.type "tuple") (.ref a_Lets) = some false
  kt_Lets_dict : PySem.W.kitOne K (.type "dict") (.ref a_Lets) = some false
  ns_Lets_dict : PySem.W.subIn K (.type "dict") (.ref a_Lets) = some false
  kb_Lets_int : PySem.W.kitOne K (.ref a_Lets) (.type "int") = some false
  kb_Lets_bool : PySem.W.kitOne K (.ref a_Lets) (.type "bool") = some false
  kb_Lets_list : PySem.W.kitOne K (.ref a_Lets) (.type "list") = some false
  g_LONGEST : ∃ tk, mg "LONGEST" = some (.int 200 tk)
  g_MOST_NUMBERS : ∃ tk, mg "MOST_NUMBERS" = some (.int 200 tk)
  g_GREATEST : ∃ tk, mg "GREATEST" = some (.int 1000 tk)
  m_all : mg "all" = none
  m_bool : mg "bool" = none
  m_enumerate : mg "enumerate" = none
  m_int : mg "int" = none
  m_isinstance : mg "isinstance" = none
  m_len : mg "len" = none
  m_list : mg "list" = none
  m_max : mg "max" = none
  m_range : mg "range" = none
  m_repr : mg "repr" = none
  m_sorted : mg "sorted" = none
  m_sum : mg "sum" = none
  m_tuple : mg "tuple" = none
end K05




set_option Elab.async false
set_option linter.all false
set_option maxRecDepth 100000
set_option maxHeartbeats 4000000
namespace K05
open PySem PySem.Spec PyProof.Rows L2 Evl GS
local macro_rules | `(tactic| walk_at "bits") => `(tactic| first | (refine bits64 ?_; omega) | (apply bitsM; (focus walk_at "bits"); (focus walk_at "bits")))
local macro_rules | `(tactic| walk_at "side") => `(tactic| first
  | (apply CMulX.of; (focus walk_at "bits"); (focus walk_at "bits"); decide)
  | (dsimp only; omega) | assumption | decide)
local macro_rules | `(tactic| walk_at "rv") => `(tactic| first | exact rv_I0 | (apply rv_I; walk_at "side"))
local macro_rules | `(tactic| walk_at "ev") => `(tactic| first
  | exact ev_c
  | exact ev_var rfl
  | (apply ev_op; (focus walk_at "ev"); (focus walk_at "ev"); (focus walk_at "rv"))
  | (apply ev_int1; walk_at "ev")
  | (apply ev_max2; (focus walk_at "ev"); (focus walk_at "ev"))
  | (apply ev_bits; walk_at "ev"))
/-! ### the draws -/
def hashI (a b : Int) : Int :=
  ((((a * 1140671 + 27644437 * b * b + 131 * b + 19) % 2147483629) * ((a * 1140671 + 27644437 * b * b + 131 * b + 19) % 2147483629) + 62089 * b + 32416187) % 2147483587 * 48271) % 2147483647
theorem hashI_0 (a b : Int) : 0 ≤ hashI a b := Int.emod_nonneg _ (by decide)
theorem hashI_1 (a b : Int) : hashI a b < 2147483647 := Int.emod_lt_of_pos _ (by decide)
/-- the generator's list: its three numbers, the third at most m -/
def Gn (H : Hp) (g : Addr) (m : Int) : Prop := ∃ a b c : Int, H g = some (.lst [.int a, .int b, .int c]) ∧ 0 ≤ a ∧ a < 10 ^ 600 ∧ 0 ≤ b ∧ b < 2147483647 ∧ 0 ≤ c ∧ c ≤ m
/-- all but the generator is as it was -/
def Off (g : Addr) (H H2 : Hp) : Prop := ∀ x o, x ≠ g → H x = some o → H2 x = some o
theorem Off.refl (g : Addr) (H : Hp) : Off g H H := fun _ _ _ h => h
theorem Off.trans {g : Addr} {H H1 H2 : Hp} (a : Off g H H1) (b : Off g H1 H2) : Off g H H2 := fun x o n h => b x o n (a x o n h)
theorem Off.ex {g : Addr} {H H1 H2 : Hp} (a : Off g H H1) (b : Ex H1 H2) : Off g H H2 := fun x o n h => b x o (a x o n h)
theorem Off.upd {g : Addr} {H H1 : Hp} {o : HO} (a : Off g H H1) : Off g H (upd H1 g o) := fun x u n h => by
  rw [upd_ne n]; exact a x u n h
theorem Off.of {g : Addr} {H H1 : Hp} (a : Ex H H1) : Off g H H1 := fun x o _ h => a x o h
theorem Gn.up {H : Hp} {g : Addr} {m n : Int} (h : Gn H g m) (e : m ≤ n) : Gn H g n := by
  obtain ⟨a, b, c, h1, h2, h3, h4, h5, h6, h7⟩ := h
  exact ⟨a, b, c, h1, h2, h3, h4, h5, h6, by omega⟩
theorem Gn.ex {H H2 : Hp} {g : Addr} {m : Int} (h : Gn H g m) (e : Ex H H2) : Gn H2 g m := by
  obtain ⟨a, b, c, h1, h2⟩ := h
  exact ⟨a, b, c, e _ _ h1, h2⟩
/-- a call of hash gives hashI; what a draw leaves -/
def spHash : Sp := fun vs H Q _ => ∃ a b : Int, vs = [.int a, .int b] ∧ 0 ≤ a ∧ a < 2147483647 ∧ 0 ≤ b ∧ b < 2 ^ 60 ∧
  ∀ H2, Ex H H2 → Q (.int (hashI a b)) H2
def spRand : Sp := fun vs H Q _ => ∃ (g : Addr) (n m : Int), vs = [.ref g, .int n] ∧ Gn H g m ∧ m < 2 ^ 59 ∧ 0 < n ∧ n < 2 ^ 300 ∧
  ∀ r H2, 0 ≤ r → r < n → Off g H H2 → Gn H2 g (m + 11) → Q (.int r) H2
section
variable {P : Program} {w : World} {K : PySem.W.Frag} {mg : Str → Option Value} {base : Heap}
theorem ok_hash (T : Tx K mg) : FnOk P w K mg base CX0 1 T.a_l_hash T.fd_l_hash P_l_hash spHash := by
  refine T.F_l_hash.ok sc_l_hash (fun vs H Q E h => ?_) (fun cdv A outer s H vs Q E hr h => ?_)
  · obtain ⟨a, b, rfl, _⟩ := h
    rfl
  · obtain ⟨a, b, rfl, a0, a1, b0, b1, q⟩ := h
    refine ⟨_, (pss_cons (ps_set (i := 2) nd_l_hash rfl (.inl rfl) (pe_op op_mod (pe_callTy c_int (by rfl) T.m_int (by decide +kernel) (pa_cons (pe_op op_add (pe_op op_add (pe_op op_add (pe_op op_mulX (pv 0) pe_int) (pe_op op_mulX (pe_op op_mulX pe_int (pv 1)) (pv 1))) (pe_op op_mulX pe_int (pv 1))) pe_int) pa_nil)) pe_int))
      (pss_cons (ps_set (i := 2) nd_l_hash rfl (.inl rfl) (pe_op op_mod (pe_callTy c_int (by rfl) T.m_int (by decide +kernel) (pa_cons (pe_op op_add (pe_op op_add (pe_op op_mulX (pv 2) (pv 2)) (pe_op op_mulX pe_int (pv 1))) pe_int) pa_nil)) pe_int))
      (pss_one (ps_ret (pe_op op_mod (pe_callTy c_int (by rfl) T.m_int (by decide +kernel) (pa_cons (pe_op op_mulX (pv 2) pe_int) pa_nil)) pe_int))))), ?_⟩
    unfold hashI at q
    apply q_asg; (focus walk_at "ev")
    intro H1 e1
    have m0 := Int.emod_nonneg (a * 1140671 + 27644437 * b * b + 131 * b + 19) (show (2147483629 : Int) ≠ 0 by decide)
    have m1 := Int.emod_lt_of_pos (a * 1140671 + 27644437 * b * b + 131 * b + 19) (show (0 : Int) < 2147483629 by decide)
    generalize (a * 1140671 + 27644437 * b * b + 131 * b + 19) % 2147483629 = m at m0 m1 q ⊢
    apply q_asg; (focus walk_at "ev")
    intro H2 e2
    have k0 := Int.emod_nonneg (m * m + 62089 * b + 32416187) (show (2147483587 : Int) ≠ 0 by decide)
    have k1 := Int.emod_lt_of_pos (m * m + 62089 * b + 32416187) (show (0 : Int) < 2147483587 by decide)
    generalize (m * m + 62089 * b + 32416187) % 2147483587 = k at k0 k1 q ⊢
    apply s_ret; (focus walk_at "ev")
    intro H3 e3
    exact q H3 ((e1.trans e2).trans e3)
theorem bits_turn {d h : Int} {i : Nat} (hd : Builtin.Int.intBits d ≤ 40 * i) (h0 : 0 ≤ h) (h1 : h < 2147483647) :
    Builtin.Int.intBits (d * 2147483587 + h) ≤ 40 * (i + 1) := by
  have a := PySem.intBits_mul_le hd (bits64 (i := 2147483587) (by omega))
  have b : Builtin.Int.intBits 2147483587 ≤ 31 := PySem.intBits_le_iff.mpr (by decide)
  have c := PySem.intBits_mul_le hd b
  have e : Builtin.Int.intBits h ≤ 31 := PySem.intBits_le_iff.mpr (by omega)
  have f := PySem.intBits_add_le c e
  omega
theorem ok_rand (T : Tx K mg) : FnOk P w K mg base CX0 2 T.a_l_random T.fd_l_random P_l_random spRand := by
  have c_l_hash := ok_hash (P := P) (w := w) (base := base) T
  refine T.F_l_random.ok sc_l_random (fun vs H Q E h => ?_) (fun cdv A outer s H vs Q E hr h => ?_)
  · obtain ⟨g, n, m, rfl, _⟩ := h
    rfl
  · obtain ⟨g, n, m, rfl, ⟨a, b, c, hg, a0, a1, b0, b1, c0, c1⟩, hm, n0, n1, q⟩ := h
    have lg : n.natAbs.log2 < 9000 := by
      rcases Nat.lt_or_ge n.natAbs 1 with z | z
      · omega
      · have : n.natAbs.log2 < 300 := (Nat.log2_lt (by omega)).mpr (by omega)
        omega
    have nb : Builtin.Int.intBits n ≤ 300 := PySem.intBits_le_iff.mpr (by omega)
    refine ⟨_, (pss_cons (ps_if (pt_cmpR op_gt (pe_ix (k_ixl (K := K) rfl) (pv 0) pe_int (fun _ _ => rfl)) pe_int (nomark _)) (pss_cons (ps_set (i := 2) nd_l_random rfl (.inl rfl) (pe_op op_mod (pe_callTy c_int (by rfl) T.m_int (by decide +kernel) (pa_cons (pe_ix (k_ixl (K := K) rfl) (pv 0) pe_int (fun _ _ => rfl)) pa_nil)) (pv 1)))
      (pss_cons (ps_asg (pe_op op_fdivW (pe_ix (k_ixl (K := K) rfl) (pv 0) pe_int (fun _ _ => rfl)) (pv 1)) (pg_sub (pv 0) pe_int set_list))
      (pss_one (ps_ret (pv 2))))) pss_nil)
      (pss_cons (ps_set (i := 2) nd_l_random rfl (.inl rfl) pe_int)
      (pss_cons (ps_for PassesOwn.never rfl (pi_range1 (by rfl) T.m_range (pa_cons (pe_op op_add pe_int (pe_op op_fdivW (pe_bits (pv 1)) pe_int)) pa_nil)) (pg_name (i := 3) nd_l_random rfl (.inl rfl)) (pss_cons (ps_asg (pe_op op_add (pe_ix (k_ixl (K := K) rfl) (pv 0) pe_int (fun _ _ => rfl)) pe_int) (pg_sub (pv 0) pe_int set_list))
      (pss_one (ps_set (i := 2) nd_l_random rfl (.inl rfl) (pe_op op_add (pe_op op_mulX (pv 2) pe_int) (pe_call c_l_hash (hr.mono (by decide)) (by rfl) T.g_l_hash T.F_l_hash.kp T.b_l_hash .nil pass0 (pa_cons (pe_ix (k_ixl (K := K) rfl) (pv 0) pe_int (fun _ _ => rfl)) (pa_cons (pe_ix (k_ixl (K := K) rfl) (pv 0) pe_int (fun _ _ => rfl)) pa_nil))))))))
      (pss_one (ps_ret (pe_op op_mod (pe_callTy c_int (by rfl) T.m_int (by decide +kernel) (pa_cons (pv 2) pa_nil)) (pv 1))))))), ?_⟩
    have g0 : ∀ {H1 : Hp} {x y z : V}, H1 g = some (.lst [x, y, z]) → SqL K H1 g [x, y, z] := fun h => sq_of h
    apply q_when (b := decide (0 < a))
    · apply et_test
      apply ev_op
      (focus (apply ev_ixL (ev_var rfl) ev_c (g0 hg) (atI_nat (j := 0) rfl)))
      (focus exact ev_c)
      (focus exact rv_I0)
    · intro hb H1 e1
      have ha := of_decide_eq_true hb
      have hg1 := e1 _ _ hg
      apply q_asg
      · apply ev_op
        · apply ev_int1
          exact ev_ixL (ev_var rfl) ev_c (g0 hg1) (atI_nat (j := 0) rfl)
        · exact ev_var rfl
        · exact rv_I n0
      intro H2 e2
      have hg2 := e2 _ _ hg1
      apply q_setL (j := 0) hg2
      · apply ev_op
        · exact ev_ixL (ev_var rfl) ev_c (g0 hg2) (atI_nat (j := 0) rfl)
        · exact ev_var rfl
        · exact rv_I ⟨n0, lg⟩
      · exact ev_var rfl
      · exact ev_c
      · show 0 < 3
        decide
      intro H3 e3
      apply s_ret
      · exact ev_var rfl
      intro H4 e4
      refine q _ H4 (Int.emod_nonneg _ (by omega)) (Int.emod_lt_of_pos _ n0) ?_ ?_
      · exact ((Off.of ((e1.trans e2).trans e3)).upd).ex e4
      · refine ⟨a / n, b, c, e4 _ _ upd_same, Int.ediv_nonneg a0 (by omega), ?_, b0, b1, c0, by omega⟩
        exact Int.lt_of_le_of_lt (Int.ediv_le_self n a0) a1
    · intro hb H1 e1
      have hg1 := e1 _ _ hg
      apply q_asg
      · exact ev_c
      intro H2 e2
      have hg2 := e2 _ _ hg1
      have tb : (Builtin.Int.intBits n : Int) / 30 ≤ 10 := by omega
      have tb0 : 0 ≤ (Builtin.Int.intBits n : Int) / 30 := by omega
      apply q_forR1 (n := 1 + (Builtin.Int.intBits n : Int) / 30)
      · apply ea_cons
        · apply ev_op
          · exact ev_c
          · apply ev_op
            · exact ev_bits (ev_var rfl)
            · exact ev_c
            · exact rv_I ⟨by decide, by decide⟩
          · exact rv_I0
        · exact ea_nil
      · omega
      rotate_left 3
      · exact fun i σ H3 => ∃ (d : Int) (y : Option V) (c3 : Int), σ = [some (.ref g), some (.int n), some (.int d), y] ∧ Builtin.Int.intBits d ≤ 40 * i ∧
          Off g H H3 ∧ H3 g = some (.lst [.int a, .int b, .int c3]) ∧ 0 ≤ c3 ∧ c3 ≤ c + i
      · intro H3 e3
        refine ⟨0, none, c, rfl, by decide, Off.of ((e1.trans e2).trans e3), e3 _ _ hg2, c0, by omega⟩
      · rintro i σ3 H3 hi ⟨d, y, c3, rfl, hd, of, hg3, c30, c31⟩
        apply q_setL (j := 2) hg3
        · apply ev_op
          · exact ev_ixL (ev_var rfl) ev_c (g0 hg3) (atI_nat (j := 2) rfl)
          · exact ev_c
          · exact rv_I0
        · exact ev_var rfl
        · exact ev_c
        · show 2 < 3
          decide
        intro H4 e4
        have hg4 : (upd H4 g (.lst [.int a, .int b, .int (c3 + 1)])) g = some (.lst [.int a, .int b, .int (c3 + 1)]) := upd_same
        apply s_asg (v := .int (d * 2147483587 + hashI b (c3 + 1)))
        · apply ev_op
          · apply ev_op
            · exact ev_var rfl
            · exact ev_c
            · apply rv_I
              exact CMulX.of hd (bits64 (by omega)) (by omega)
          · apply ev_own
            · apply ea_cons
              · exact ev_ixL (ev_var rfl) ev_c (g0 hg4) (atI_nat (j := 1) rfl)
              apply ea_cons
              · exact ev_ixL (ev_var rfl) ev_c (g0 hg4) (atI_nat (j := 2) rfl)
              exact ea_nil
            · intro H5 e5 Q2 q2
              exact ⟨b, c3 + 1, rfl, b0, b1, by omega, by omega, q2⟩
          · exact rv_I0
        intro H5 e5
        refine ⟨_, _, c3 + 1, rfl, bits_turn hd (hashI_0 _ _) (hashI_1 _ _), ?_, e5 _ _ hg4, by omega, by omega⟩
        exact ((of.ex e4).upd).ex e5
      · rintro σ3 H3 ⟨d, y, c3, rfl, hd, of, hg3, c30, c31⟩
        apply s_ret
        · apply ev_op
          · apply ev_int1
            exact ev_var rfl
          · exact ev_var rfl
          · exact rv_I n0
        intro H4 e4
        refine q _ H4 (Int.emod_nonneg _ (by omega)) (Int.emod_lt_of_pos _ n0) (of.ex e4) ⟨a, b, c3, e4 _ _ hg3, a0, a1, b0, b1, c30, ?_⟩
        omega
end
end K05




set_option Elab.async false
set_option linter.all false
set_option maxRecDepth 100000
set_option maxHeartbeats 4000000
namespace K05
open PySem PySem.Spec PyProof.Rows L2 Evl GS
local macro_rules | `(tactic| walk_at "bits") => `(tactic| first | (refine bits64 ?_; omega) | (apply bitsM; (focus walk_at "bits"); (focus walk_at "bits")))
local macro_rules | `(tactic| walk_at "side") => `(tactic| first
  | (apply CMulX.of; (focus walk_at "bits"); (focus walk_at "bits"); decide)
  | (dsimp only; omega) | assumption | decide)
local macro_rules | `(tactic| walk_at "rv") => `(tactic| first | exact rv_I0 | (apply rv_I; walk_at "side"))
local macro_rules | `(tactic| walk_at "ev") => `(tactic| first
  | exact ev_c
  | exact ev_var rfl
  | (apply ev_op; (focus walk_at "ev"); (focus walk_at "ev"); (focus walk_at "rv"))
  | (apply ev_int1; walk_at "ev")
  | (apply ev_max2; (focus walk_at "ev"); (focus walk_at "ev"))
  | (apply ev_bits; walk_at "ev"))

/-- what the law's order of a log is -/
def lift (x : Int) (o : Int) : Int := if o ≥ x then o + 1 else o
def ordOf : List Int → List Int := fun ns => ns.foldl (fun f x => f.map (lift x) ++ [x]) []
theorem ordOf_snoc (ns : List Int) (x : Int) : ordOf (ns ++ [x]) = (ordOf ns).map (lift x) ++ [x] := by
  unfold ordOf
  rw [List.foldl_append]
  rfl
theorem ordOf_len (ns : List Int) : (ordOf ns).length = ns.length := by
  have key : ∀ (l : List Int) (f : List Int), (l.foldl (fun f x => f.map (lift x) ++ [x]) f).length = f.length + l.length := by
    intro l
    induction l with
    | nil => intro f; rfl
    | cons x l ih =>
      intro f
      rw [List.foldl_cons, ih, List.length_append, List.length_map, List.length_singleton, List.length_cons]
      omega
  have := key ns []
  simpa [ordOf] using this
def logOf (ns : List Int) : List Int := (List.range ns.length).map fun i => (((ns.take i).filter fun o => decide (o < ns.getD i 0)).length : Int)
def spCell (K : PySem.W.Frag) : Sp := fun vs H Q _ => ∃ (a : Addr) (ns : List Int) (i : Nat), vs = [.ref a, .int i] ∧ SqL K H a (ns.map V.int) ∧
  ∀ (r : Int) H2, Ex H H2 → Q (.int r) H2
def spGen (K : PySem.W.Frag) : Sp := fun vs H Q _ => ∃ (a : Addr) (ns : List Int) (i : Nat), vs = [.ref a, .int i] ∧ SqL K H a (ns.map V.int) ∧ i < 1000 ∧
  ∀ p H2, H p = none → Ex H H2 → Gn H2 p (1000 * i) → Q (.ref p) H2
def spOrd (K : PySem.W.Frag) : Sp := fun vs H Q _ => ∃ (a : Addr) (ns : List Int), vs = [.ref a] ∧ SqL K H a (ns.map V.int) ∧ ns.length ≤ 1000 ∧
  RetL ((ordOf ns).map V.int) H Q
def spLog (K : PySem.W.Frag) : Sp := fun vs H Q _ => ∃ (a : Addr) (ns : List Int), vs = [.ref a] ∧ SqL K H a (ns.map V.int) ∧ ns.length ≤ 1000 ∧
  RetL ((logOf ns).map V.int) H Q
/-- logs that are drawn -/
def IsLog (ns : List Int) : Prop := ∀ (i : Nat) (k : Int), ns[i]? = some k → 0 ≤ k ∧ k ≤ i
def spDrawn : Sp := fun vs H Q _ => ∃ (g : Addr) (m : Int) (n : Nat), vs = [.ref g, .int n] ∧ Gn H g m ∧ n ≤ 1000 ∧ m + 11 * n < 2 ^ 59 ∧
  ∀ p ns H2, H p = none → Off g H H2 → Gn H2 g (m + 11 * n) → H2 p = some (.lst (ns.map V.int)) → ns.length = n → IsLog ns → Q (.ref p) H2
section
variable {P : Program} {w : World} {K : PySem.W.Frag} {mg : Str → Option Value} {base : Heap}
theorem ok_cell (T : Tx K mg) : FnOk P w K mg base CX0 1 T.a_l_cell T.fd_l_cell P_l_cell (spCell K) := by
  refine T.F_l_cell.ok sc_l_cell (fun vs H Q E h => ?_) (fun cdv A outer s H vs Q E hr h => ?_)
  · obtain ⟨a, ns, i, rfl, _⟩ := h
    rfl
  · obtain ⟨a, ns, i, rfl, hs, q⟩ := h
    refine ⟨_, (pss_cons (ps_if (pt_cmpR op_lt (pv 1) (pe_callB (k_len (K := K) rfl) (by rfl) T.m_len (by decide +kernel) (pa_cons (pv 0) pa_nil)) (nomark _)) (pss_one (ps_ret (pe_ix (k_ixl (K := K) rfl) (pv 0) (pv 1) (fun _ _ => rfl)))) pss_nil)
      (pss_one (ps_ret (pe_op op_mod (pe_callB (k_sum (K := K) rfl rfl) (by rfl) T.m_sum (by decide +kernel) (pa_cons (pe_slice (k_sll (K := K) rfl) (pv 0) po_none (po_some pe_int)) pa_nil)) pe_int)))), ?_⟩
    apply q_when (b := decide ((i : Int) < (ns.map V.int).length))
    · apply et_test
      apply ev_op
      · exact ev_var rfl
      · exact ev_len (ev_var rfl) hs
      · exact rv_I0
    · intro hb H1 e1
      have hl := of_decide_eq_true hb
      rw [List.length_map] at hl
      have hi : i < ns.length := by omega
      apply s_ret
      · exact ev_ixL (ev_var rfl) (ev_var rfl) (ex_l e1 hs) (atI_int (List.getElem?_eq_getElem hi))
      · intro H2 e2
        exact q _ H2 (e1.trans e2)
    · intro hb H1 e1
      apply s_ret
      · apply ev_op
        · refine ev_sumN (ns := (ns.drop (HT.sIx (ns.map V.int).length 0 none)).take (HT.sIx (ns.map V.int).length (ns.map V.int).length (some 1) - HT.sIx (ns.map V.int).length 0 none)) ?_
          rw [List.map_take, List.map_drop]
          exact el_sl (ev_var rfl) eo_none (eo_some ev_c) (ex_l e1 hs)
        · exact ev_c
        · exact rv_I (by decide)
      · intro H2 e2
        exact q _ H2 (e1.trans e2)
theorem ok_gen (T : Tx K mg) : FnOk P w K mg base CX0 2 T.a_l_generator T.fd_l_generator P_l_generator (spGen K) := by
  have c_l_cell := ok_cell (P := P) (w := w) (base := base) T
  refine T.F_l_generator.ok sc_l_generator (fun vs H Q E h => ?_) (fun cdv A outer s H vs Q E hr h => ?_)
  · obtain ⟨a, ns, i, rfl, _⟩ := h
    rfl
  · obtain ⟨a, ns, i, rfl, hs, hi, q⟩ := h
    refine ⟨_, (pss_cons (ps_set (i := 2) nd_l_generator rfl (.inl rfl) (pe_call c_l_cell (hr.mono (by decide)) (by rfl) T.g_l_cell T.F_l_cell.kp T.b_l_cell .nil pass0 (pa_cons (pv 0) (pa_cons (pv 1) pa_nil))))
      (pss_one (ps_ret (pe_lst (pa_cons (pe_op op_mod (pe_callTy c_int (by rfl) T.m_int (by decide +kernel) (pa_cons (pe_callB (c_max2 rfl) (by rfl) T.m_max (by decide +kernel) (pa_cons (pe_op op_sub (pv 2) (pe_op op_powX pe_int pe_int)) (pa_cons pe_int pa_nil))) pa_nil)) (pe_op op_powX (pe_op op_powX pe_int pe_int) pe_int)) (pa_cons (pe_op op_mod (pe_callTy c_int (by rfl) T.m_int (by decide +kernel) (pa_cons (pv 2) pa_nil)) pe_int) (pa_cons (pe_op op_mulX pe_int (pv 1)) pa_nil))))))), ?_⟩
    apply q_set
    refine ⟨.ref a, rfl, .int i, rfl, a, ns, i, rfl, hs, fun r H1 e1 => ?_⟩
    have p0 : (0 : Int) < ((10 : Int) ^ Int.toNat 60) ^ Int.toNat 10 := by decide +kernel
    have pe : ((10 : Int) ^ Int.toNat 60) ^ Int.toNat 10 = 10 ^ 600 := by decide +kernel
    apply s_retL
    · apply el_lst
      · apply ea_cons
        · apply ev_op
          · apply ev_int1
            apply ev_max2
            · apply ev_op
              · exact ev_var rfl
              · apply ev_op
                · exact ev_c
                · exact ev_c
                · exact rv_I ⟨by decide, by decide +kernel⟩
              · exact rv_I0
            · exact ev_c
          · apply ev_op
            · apply ev_op
              · exact ev_c
              · exact ev_c
              · exact rv_I ⟨by decide, by decide +kernel⟩
            · exact ev_c
            · exact rv_I ⟨by decide, by decide +kernel⟩
          · exact rv_I p0
        apply ea_cons
        · apply ev_op
          · apply ev_int1
            exact ev_var rfl
          · exact ev_c
          · exact rv_I (by decide)
        apply ea_cons
        · apply ev_op
          · exact ev_c
          · exact ev_var rfl
          · apply rv_I
            exact CMulX.of (bits64 (by omega)) (bits64 (by omega)) (by decide)
        exact ea_nil
      · show 3 ≤ 100000
        decide
    intro p H2 np e2 hp
    refine q p H2 (free_of e1 np) (e1.trans e2) ⟨_, _, _, hp, Int.emod_nonneg _ (by rw [pe]; decide), ?_, Int.emod_nonneg _ (by decide), Int.emod_lt_of_pos _ (by decide), by omega, Int.le_refl _⟩
    rw [← pe]
    exact Int.emod_lt_of_pos _ p0
theorem ok_ord (T : Tx K mg) : FnOk P w K mg base CX0 1 T.a_l_order T.fd_l_order P_l_order (spOrd K) := by
  refine T.F_l_order.ok sc_l_order (fun vs H Q E h => ?_) (fun cdv A outer s H vs Q E hr h => ?_)
  · obtain ⟨a, ns, rfl, _⟩ := h
    rfl
  · obtain ⟨a, ns, rfl, hs, hl, q⟩ := h
    refine ⟨_, (pss_cons (ps_set (i := 1) nd_l_order rfl (.inl rfl) (pe_lst pa_nil))
      (pss_cons (ps_for PassesOwn.never rfl (k_pil (K := K) rfl (pv 0)) (pg_name (i := 2) nd_l_order rfl (.inr rfl)) (pss_one (ps_set (i := 1) nd_l_order rfl (.inl rfl) (pe_op op_cat (pe_lc (own := [("_law_other", 3)]) rfl nd_l_order (k_pil (K := K) rfl (pv 1)) (blkOk_by (N := N_l_order) (sc := (defScope s_l_order)) (by decide +kernel)) (fun _ _ _ _ _ => pg_name (i := 3) nd_l_order rfl (.inl rfl)) (fun _ _ _ _ _ => pts_nil) (fun _ _ _ _ _ => (pe_ifExp (pt_cmpR op_ge (pv 3) (pv 2) (nomark _)) (pe_op op_add (pv 3) pe_int) (pv 3)))) (pe_lst (pa_cons (pv 2) pa_nil))))))
      (pss_one (ps_ret (pv 1))))), ?_⟩
    apply q_asgL
    · exact el_lst ea_nil (by decide)
    intro o H1 no e1 ho
    apply q_forLn (ev_var rfl) (ex_l e1 hs)
    rotate_left 4
    · exact fun i σ H2 => ∃ (o : Addr) (y z : Option V), σ = [some (.ref a), some (.ref o), y, z] ∧ H o = none ∧ Ex H H2 ∧ H2 o = some (.lst ((ordOf (ns.take i)).map V.int))
    · intro H2 e2
      exact ⟨o, _, _, rfl, no, e1.trans e2, e2 _ _ ho⟩
    · rintro i σ H2 hi ⟨o, y, z, rfl, no, e2, ho⟩
      exact ex_l e2 hs
    · rintro i x σ H2 hx ⟨o, y, z, rfl, no, e2, ho⟩
      obtain ⟨k, hk, rfl⟩ := getI hx
      have hlen : (ordOf (ns.take i)).length ≤ 1000 := by
        rw [ordOf_len, List.length_take]; omega
      have hr : given ((ordOf (ns.take i)).map V.int).length (fun _ => true) (fun j => .int (lift k ((ordOf (ns.take i)).getD j 0))) = ((ordOf (ns.take i)).map (lift k)).map V.int := by
        rw [given_all, List.length_map, range_getD (ordOf (ns.take i)) 0 (fun z => V.int (lift k z)), List.map_map]
        rfl
      apply s_asgL (xs := (ordOf (ns.take (i + 1))).map V.int)
      · rw [take_snoc hk, ordOf_snoc, List.map_append]
        apply el_cat
        · rw [← hr]
          apply el_lcL (xs := (ordOf (ns.take i)).map V.int) (a := o)
          · exact ev_var rfl
          · exact sq_of ho
          · rw [List.length_map]; omega
          · intro x; rfl
          · intro j x H3 e3 hj
            exact fun H4 e4 Q4 q4 => q4 H4 (Ex.refl _)
          · intro j x H3 e3 hj _
            obtain ⟨c, hc, rfl⟩ := getI hj
            rw [getD_of hc]
            apply ev_if (b := decide (k ≤ c))
            · apply et_test
              apply ev_op
              · exact ev_var rfl
              · exact ev_var rfl
              · exact rv_I0
            · intro hb
              have := of_decide_eq_true hb
              rw [show lift k c = c + 1 from if_pos this]
              apply ev_op
              · exact ev_var rfl
              · exact ev_c
              · exact rv_I0
            · intro hb
              have := of_decide_eq_false hb
              rw [show lift k c = c from if_neg this]
              exact ev_var rfl
        · apply el_lst
          · exact ea_cons (ev_var rfl) ea_nil
          · show 1 ≤ 100000
            decide
        · simp only [List.length_map, List.length_singleton, ordOf_len, List.length_cons, List.length_nil]
          rw [List.length_take]
          omega
      intro p H3 np e3 hp
      exact ⟨p, _, _, rfl, free_of e2 np, e2.trans e3, hp⟩
    · rintro σ H2 ⟨o, y, z, rfl, no, e2, ho⟩
      rw [List.length_map, List.take_length] at ho
      apply s_ret
      · exact ev_var rfl
      intro H3 e3
      exact q o H3 no (e2.trans e3) (e3 _ _ ho)
end
end K05




set_option Elab.async false
set_option linter.all false
set_option maxRecDepth 100000
set_option maxHeartbeats 4000000
namespace K05
open PySem PySem.Spec PyProof.Rows L2 Evl GS
local macro_rules | `(tactic| walk_at "bits") => `(tactic| first | (refine bits64 ?_; omega) | (apply bitsM; (focus walk_at "bits"); (focus walk_at "bits")))
local macro_rules | `(tactic| walk_at "side") => `(tactic| first
  | (apply CMulX.of; (focus walk_at "bits"); (focus walk_at "bits"); decide)
  | (dsimp only; omega) | assumption | decide)
local macro_rules | `(tactic| walk_at "rv") => `(tactic| first | exact rv_I0 | (apply rv_I; walk_at "side"))
local macro_rules | `(tactic| walk_at "ev") => `(tactic| first
  | exact ev_c
  | exact ev_var rfl
  | (apply ev_op; (focus walk_at "ev"); (focus walk_at "ev"); (focus walk_at "rv"))
  | (apply ev_int1; walk_at "ev")
  | (apply ev_max2; (focus walk_at "ev"); (focus walk_at "ev"))
  | (apply ev_bits; walk_at "ev"))

theorem cut_to (xs : List V) (i : Nat) : cutV xs none (some (i : Int)) = xs.take i := by
  unfold cutV
  rw [HT.sIx_none, HT.sIx_nat, Nat.sub_zero, List.drop_zero]
  rcases Nat.le_total i xs.length with h | h
  · rw [Nat.min_eq_left h]
  · rw [Nat.min_eq_right h, List.take_of_length_le h, List.take_length]
theorem given_filter (l : List Int) (p : Int → Bool) : given l.length (fun j => p (l.getD j 0)) (fun j => V.int (l.getD j 0)) = (l.filter p).map V.int := by
  have e : ∀ n, n ≤ l.length → given n (fun j => p (l.getD j 0)) (fun j => V.int (l.getD j 0)) = ((l.take n).filter p).map V.int := by
    intro n
    induction n with
    | zero => intro _; rfl
    | succ n ih =>
      intro hn
      have hg : l[n]? = some (l.getD n 0) := by
        rw [List.getD_eq_getElem?_getD, List.getElem?_eq_getElem (by omega)]
        rfl
      rw [take_snoc hg, List.filter_append, List.map_append, ← ih (by omega)]
      cases hp : p (l.getD n 0) with
      | true =>
        rw [given_yes hp, List.filter_cons, if_pos hp]
        rfl
      | false =>
        rw [given_no hp, List.filter_cons, if_neg (by rw [hp]; decide)]
        simp
  rw [e l.length (Nat.le_refl _), List.take_length]
section
variable {P : Program} {w : World} {K : PySem.W.Frag} {mg : Str → Option Value} {base : Heap}
/-- len([o for o in xs[:i] if o < k]), over the items ahead -/
theorem ev_count {σ : L2.St} {H : Hp} {ta tb ti : TE} {j : Nat} {a : Addr} {ns : List Int} {i : Nat} {k : Int} (h : Ev ta σ H (.ref a)) (hi : Ev ti σ H (.int i)) (hs : SqL K H a (ns.map V.int))
    (hl : ns.length ≤ 1000) (hj : j < σ.length) (hb : ∀ (x : V) H1, Ex H H1 → Ev tb ((wipe σ [j]).set j (some x)) H1 (.int k)) :
    Ev (tCB (rLenS K) (tCons (tLc (iList K (tSl (rSlL K) ta tNoPart (tPart ti))) (gName j) (tTest (tOp (rI0 fun x y => .bl (decide (x < y))) (tVar j) tb)) (tVar j) [j]) tNil)) σ H
      (.int ((((ns.take i).filter fun o => decide (o < k)).length : Nat) : Int)) := by
  have e := given_filter (ns.take i) (fun o => decide (o < k))
  have e2 : (((ns.take i).filter fun o => decide (o < k)).length) = (((ns.take i).filter fun o => decide (o < k)).map V.int).length := by rw [List.length_map]
  rw [e2, ← e]
  apply ev_lenN
  have c : (cutV (ns.map V.int) none (some (i : Int))).length = (ns.take i).length := by rw [cut_to, ← List.map_take, List.length_map]
  rw [← c]
  have look : ∀ (x : V), ((wipe σ [j]).set j (some x))[j]? = some (some x) := fun x => by
    rw [List.getElem?_set_self (by rw [wipe_length]; exact hj)]
  apply el_lcNL
  · exact el_sl h eo_none (eo_some hi) hs
  · rw [c, List.length_take]; omega
  · intro x
    show ((σ.set j none).set j (some x)).set j none = σ.set j none
    rw [List.set_set, List.set_set]
  · intro n x H1 e1 hx
    rw [cut_to, ← List.map_take] at hx
    obtain ⟨z, hz, rfl⟩ := getI hx
    rw [getD_of hz]
    apply et_test
    apply ev_op
    · exact ev_var (look _)
    · exact hb _ H1 e1
    · exact rv_I0
  · intro n x H1 e1 hx _
    rw [cut_to, ← List.map_take] at hx
    obtain ⟨z, hz, rfl⟩ := getI hx
    rw [getD_of hz]
    exact ev_var (look _)
theorem ok_drawn (T : Tx K mg) : FnOk P w K mg base CX0 3 T.a_l_drawn_log T.fd_l_drawn_log P_l_drawn_log spDrawn := by
  have c_l_random := ok_rand (P := P) (w := w) (base := base) T
  refine T.F_l_drawn_log.ok sc_l_drawn_log (fun vs H Q E h => ?_) (fun cdv A outer s H vs Q E hr h => ?_)
  · obtain ⟨g, m, n, rfl, _⟩ := h
    rfl
  · obtain ⟨g, m, n, rfl, hg, hn, hm, q⟩ := h
    refine ⟨_, (pss_one (ps_ret (pe_lc (own := [("_law_at", 2)]) rfl nd_l_drawn_log (pi_range1 (by rfl) T.m_range (pa_cons (pv 1) pa_nil)) (blkOk_by (N := N_l_drawn_log) (sc := (defScope s_l_drawn_log)) (by decide +kernel)) (fun _ _ _ _ _ => pg_name (i := 2) nd_l_drawn_log rfl (.inl rfl)) (fun _ _ _ _ _ => pts_nil) (fun _ _ _ _ _ => (pe_call c_l_random (hr.mono (by decide)) (by rfl) T.g_l_random T.F_l_random.kp T.b_l_random .nil pass0 (pa_cons (pv 0) (pa_cons (pe_op op_add (pv 2) pe_int) pa_nil))))))), ?_⟩
    have gl : ∀ {H1 : Hp} {D : Addr} {m : Int}, Gn H1 g m → H1 D = none → D ≠ g := by
      rintro H1 D m ⟨a, b, c, h1, _⟩ h2 rfl
      rw [h1] at h2
      cases h2
    refine lc_rng (n := n) ?_ ?_ ?_ (fun D i acc H2 => ∃ ns : List Int, acc = ns.map V.int ∧ H2 D = some (.lst acc) ∧ ns.length = i ∧ IsLog ns ∧ Off g H H2 ∧ H D = none ∧ D ≠ g ∧ Gn H2 g (m + 11 * i)) ?_ ?_ ?_
    · exact ea_cons (ev_var rfl) ea_nil
    · omega
    · intro x; rfl
    · intro D H1 e1 hD
      have nD := gl (hg.ex e1) hD
      refine ⟨[], rfl, upd_same, rfl, fun i k h => by simp at h, ?_, free_of e1 hD, nD, ?_⟩
      · exact Off.of (e1.trans (Ex.new hD))
      · exact ((hg.ex e1).ex (Ex.new hD)).up (by omega)
    · rintro D i acc H2 hi ⟨ns, rfl, hD, hl, il, of, nD, Dg, g2⟩
      unfold tYes
      refine iteT ?_
      refine ⟨.ref g, rfl, .int i, rfl, i, 1, rfl, rfl, g, (i : Int) + 1, m + 11 * i, rfl, g2, by omega, by omega, by omega, ?_⟩
      intro r H3 r0 r1 of3 g3
      have hD3 := of3 D _ Dg hD
      refine ⟨ns.map V.int, hD3, ?_, _, ns ++ [r], rfl, ?_, ?_, ?_, ?_, nD, Dg, ?_⟩
      · rw [List.length_map]; exact small1000 (by omega)
      · rw [upd_same, List.map_append]; rfl
      · rw [List.length_append, List.length_singleton, hl]
      · intro j k hj
        rcases Nat.lt_or_ge j ns.length with lt | ge
        · rw [List.getElem?_append_left lt] at hj
          exact il j k hj
        · rw [List.getElem?_append_right ge] at hj
          have e0 : j - ns.length = 0 := by
            rcases Nat.eq_zero_or_pos (j - ns.length) with z | z
            · exact z
            · rw [List.getElem?_eq_none (by rw [List.length_singleton]; exact z)] at hj
              cases hj
          rw [e0] at hj
          have e1 : r = k := Option.some.inj hj
          subst e1
          omega
      · intro x o nx hx
        have z := of3 x o nx (of x o nx hx)
        rw [upd_ne (ne_of_none hx nD)]
        exact z
      · obtain ⟨a, b, c, h1, h2, h3, h4, h5, h6, h7⟩ := g3
        refine ⟨a, b, c, by rw [upd_ne (Ne.symm Dg)]; exact h1, h2, h3, h4, h5, h6, ?_⟩
        push_cast
        omega
    · rintro D acc H2 ⟨ns, rfl, hD, hl, il, of, nD, Dg, g2⟩
      exact q D ns H2 nD of (g2.up (by omega)) hD (by omega) il
end
end K05




set_option Elab.async false
set_option linter.all false
set_option maxRecDepth 100000
set_option maxHeartbeats 4000000
namespace K05
open PySem PySem.Spec PyProof.Rows L2 Evl GS
local macro_rules | `(tactic| walk_at "bits") => `(tactic| first | (refine bits64 ?_; omega) | (apply bitsM; (focus walk_at "bits"); (focus walk_at "bits")))
local macro_rules | `(tactic| walk_at "side") => `(tactic| first
  | (apply CMulX.of; (focus walk_at "bits"); (focus walk_at "bits"); decide)
  | (dsimp only; omega) | assumption | decide)
local macro_rules | `(tactic| walk_at "rv") => `(tactic| first | exact rv_I0 | (apply rv_I; walk_at "side"))
local macro_rules | `(tactic| walk_at "ev") => `(tactic| first
  | exact ev_c
  | exact ev_var rfl
  | (apply ev_op; (focus walk_at "ev"); (focus walk_at "ev"); (focus walk_at "rv"))
  | (apply ev_int1; walk_at "ev")
  | (apply ev_max2; (focus walk_at "ev"); (focus walk_at "ev"))
  | (apply ev_bits; walk_at "ev"))

/-! ### what may be told -/
def isWhole : PyData → Bool
  | .int _ => true
  | _ => false
def intD : PyData → Int
  | .int i => i
  | _ => 0
def intsD (ds : List PyData) : List Int := ds.map intD
def mayD (d : PyData) : Bool := isWhole d && (decide (1 ≤ intD d) && decide (intD d ≤ 1000))
def areD : PyData → Bool
  | .list ds => decide (ds.length ≤ 200) && ds.all mayD
  | _ => false
def isCount : PyData → Bool
  | .int i => decide (0 ≤ i)
  | _ => false
def isRow : PyData → Bool
  | .list ds => decide (ds.length ≤ 200) && ds.all isCount
  | _ => false
def isOrder : PyData → Bool
  | .list ds => isRow (.list ds) && decide (isort (intsD ds) = rangeI ds.length)
  | _ => false
def isLog : PyData → Bool
  | .list ds => isRow (.list ds) && (List.range ds.length).all fun i => decide (intD (ds.getD i .none) ≤ i)
  | _ => false
theorem isRow_ints {ds : List PyData} (h : isRow (.list ds) = true) : ds = (intsD ds).map PyData.int ∧ ds.length ≤ 200 := by
  obtain ⟨h1, h2⟩ := Bool.and_eq_true_iff.mp h
  refine ⟨?_, of_decide_eq_true h1⟩
  unfold intsD
  rw [List.map_map]
  have e : ds.map id = ds.map (PyData.int ∘ intD) := by
    apply List.map_congr_left
    intro d hd
    have c := List.all_eq_true.mp h2 d hd
    cases d with
    | int i => rfl
    | _ => cases c
  simpa using e
theorem rp_ints {K : PySem.W.Frag} {H : Hp} : ∀ {ns : List Int} {xs : List V}, RpAll K H xs (ns.map PyData.int) → xs = ns.map V.int
  | [], [], _ => rfl
  | [], _ :: _, h => by cases h
  | n :: ns, [], h => by cases h
  | n :: ns, x :: xs, h => by
    cases h with
    | cons h hs =>
      cases h
      rw [rp_ints hs]
      rfl
/-- of one datum: a truth value -/
def spTell (K : PySem.W.Frag) (f : PyData → Bool) : Sp := fun vs H Q _ => ∃ v d, vs = [v] ∧ Rp K H v d ∧ RetV (.bl (f d)) H Q
def mW : PyData → Bool
  | .int _ => true
  | .bool _ => true
  | _ => false
def mB : PyData → Bool
  | .bool _ => true
  | _ => false
def mL : PyData → Bool
  | .list _ => true
  | _ => false
theorem kWhole (d : PyData) : kitB (tyD d) "int" = some (mW d) := by
  cases d with
  | none => exact (by decide +kernel : kitB "NoneType" "int" = some false)
  | bool b => exact (by decide +kernel : kitB "bool" "int" = some true)
  | int b => exact (by decide +kernel : kitB "int" "int" = some true)
  | str b => exact (by decide +kernel : kitB "str" "int" = some false)
  | list b => exact (by decide +kernel : kitB "list" "int" = some false)
  | tuple b => exact (by decide +kernel : kitB "tuple" "int" = some false)
  | dict b => exact (by decide +kernel : kitB "dict" "int" = some false)
theorem kBool (d : PyData) : kitB (tyD d) "bool" = some (mB d) := by
  cases d with
  | none => exact (by decide +kernel : kitB "NoneType" "bool" = some false)
  | bool b => exact (by decide +kernel : kitB "bool" "bool" = some true)
  | int b => exact (by decide +kernel : kitB "int" "bool" = some false)
  | str b => exact (by decide +kernel : kitB "str" "bool" = some false)
  | list b => exact (by decide +kernel : kitB "list" "bool" = some false)
  | tuple b => exact (by decide +kernel : kitB "tuple" "bool" = some false)
  | dict b => exact (by decide +kernel : kitB "dict" "bool" = some false)
theorem kList (d : PyData) : kitB (tyD d) "list" = some (mL d) := by
  cases d with
  | none => exact (by decide +kernel : kitB "NoneType" "list" = some false)
  | bool b => exact (by decide +kernel : kitB "bool" "list" = some false)
  | int b => exact (by decide +kernel : kitB "int" "list" = some false)
  | str b => exact (by decide +kernel : kitB "str" "list" = some false)
  | list b => exact (by decide +kernel : kitB "list" "list" = some true)
  | tuple b => exact (by decide +kernel : kitB "tuple" "list" = some false)
  | dict b => exact (by decide +kernel : kitB "dict" "list" = some false)
section
variable {K : PySem.W.Frag} {σ : L2.St} {H : Hp} {te : TE}
/-- isinstance of a value whose type is known -/
theorem ev_isTy {T : String} {v : V} {t : Value} {b : Bool} (h : Ev te σ H v) (ty : ∀ H1, Ex H H1 → TyX K H1 v t) (hk : PySem.W.kitOne K t (.type T) = some b) : Ev (tCB (rIsAny K) (tCons te (tCons (tC (.ty T)) tNil))) σ H (.bl b) := fun H1 e Q q =>
  h H1 e _ fun H2 e2 => .inl ⟨v, .ty T, _, _, b, rfl, .ty T, ty H2 (e.trans e2), hk, q H2 e2⟩
end
/-- a value of a known type: whether it is a whole number -/
def spWhole (K : PySem.W.Frag) : Sp := fun vs H Q _ => ∃ (v : V) (t : Value) (a b : Bool), vs = [v] ∧ (∀ H1, Ex H H1 → TyX K H1 v t) ∧ PySem.W.kitOne K t (.type "int") = some a ∧ PySem.W.kitOne K t (.type "bool") = some b ∧ RetV (.bl (a && !b)) H Q
section
variable {P : Program} {w : World} {K : PySem.W.Frag} {mg : Str → Option Value} {base : Heap}
theorem ok_whole (T : Tx K mg) : FnOk P w K mg base CX0 1 T.a_is_whole T.fd_is_whole P_is_whole (spWhole K) := by
  refine T.F_is_whole.ok sc_is_whole (fun vs H Q E h => ?_) (fun cdv A outer s H vs Q E hr h => ?_)
  · obtain ⟨v, t, a, b, rfl, _⟩ := h
    rfl
  · obtain ⟨v, t, a, b, rfl, ty, k1, k2, q⟩ := h
    refine ⟨_, (pss_one (ps_ret (pe_and (pe_callB (k_isi (K := K) rfl) (by rfl) T.m_isinstance (by decide +kernel) (pa_cons (pv 0) (pa_cons (pe_bltn (v := .ty "int") (by rfl) T.m_int (by decide +kernel) rfl) pa_nil))) (pe_one (pe_not (pe_callB (k_isi (K := K) rfl) (by rfl) T.m_isinstance (by decide +kernel) (pa_cons (pv 0) (pa_cons (pe_bltn (v := .ty "bool") (by rfl) T.m_bool (by decide +kernel) rfl) pa_nil)))))))), ?_⟩
    apply s_ret (v := .bl (a && !b))
    · apply ev_andV
      · exact ev_isTy (ev_var rfl) ty k1
      · intro _
        apply ev_notV
        exact ev_isTy (ev_var rfl) ty k2
    · exact fun H2 e2 => q H2 e2
/-- of a datum -/
theorem go_whole {v : V} {d : PyData} {H : Hp} {Q : VK} {E : XK} (h : Rp K H v d) (q : RetV (.bl (isWhole d)) H Q) : spWhole K [v] H Q E := by
  refine ⟨v, _, mW d, mB d, rfl, fun H1 e => (h.to e).ty, kit_ty (kWhole d), kit_ty (kBool d), ?_⟩
  have e : isWhole d = (mW d && !mB d) := by
    cases d <;> rfl
  rw [← e]
  exact q
theorem ok_may (T : Tx K mg) : FnOk P w K mg base CX0 2 T.a_may_be_told T.fd_may_be_told P_may_be_told (spTell K mayD) := by
  have c_is_whole := ok_whole (P := P) (w := w) (base := base) T
  refine T.F_may_be_told.ok sc_may_be_told (fun vs H Q E h => ?_) (fun cdv A outer s H vs Q E hr h => ?_)
  · obtain ⟨v, d, rfl, _⟩ := h
    rfl
  · obtain ⟨v, d, rfl, hd, q⟩ := h
    refine ⟨_, (pss_one (ps_ret (pe_and (pe_call c_is_whole (hr.mono (by decide)) (by rfl) T.g_is_whole T.F_is_whole.kp T.b_is_whole .nil pass0 (pa_cons (pv 0) pa_nil)) (pe_one (pe_chain op_le op_le pe_int (pv 0) (pe_const (by rfl) T.g_GREATEST)))))), ?_⟩
    apply s_ret (v := .bl (mayD d))
    · unfold mayD
      apply ev_andV
      · refine ev_own (ea_cons (ev_var rfl) ea_nil) fun H1 e1 Q2 q2 => go_whole (hd.to e1) q2
      · intro hw
        cases d with
        | int i =>
          cases hd
          exact ev_chain (x := .int 1) (y := .int i) (z := .int 1000) ev_c (ev_var rfl) ev_c rv_I0 fun _ => rv_I0
        | _ => cases hw
    · exact fun H2 e2 => q H2 e2
theorem ok_count (T : Tx K mg) : FnOk P w K mg base CX0 2 T.a_is_count T.fd_is_count P_is_count (spTell K isCount) := by
  have c_is_whole := ok_whole (P := P) (w := w) (base := base) T
  refine T.F_is_count.ok sc_is_count (fun vs H Q E h => ?_) (fun cdv A outer s H vs Q E hr h => ?_)
  · obtain ⟨v, d, rfl, _⟩ := h
    rfl
  · obtain ⟨v, d, rfl, hd, q⟩ := h
    refine ⟨_, (pss_one (ps_ret (pe_and (pe_call c_is_whole (hr.mono (by decide)) (by rfl) T.g_is_whole T.F_is_whole.kp T.b_is_whole .nil pass0 (pa_cons (pv 0) pa_nil)) (pe_one (pe_cmpR op_ge (pv 0) pe_int (nomark _)))))), ?_⟩
    have e : isCount d = (isWhole d && decide (0 ≤ intD d)) := by
      cases d <;> rfl
    rw [e] at q
    apply s_ret (v := .bl (isWhole d && decide (0 ≤ intD d)))
    · apply ev_andV
      · refine ev_own (ea_cons (ev_var rfl) ea_nil) fun H1 e1 Q2 q2 => go_whole (hd.to e1) q2
      · intro hw
        cases d with
        | int i =>
          cases hd
          apply ev_op
          · exact ev_var rfl
          · exact ev_c
          · exact rv_I0
        | _ => cases hw
    · exact fun H2 e2 => q H2 e2
theorem ok_row (T : Tx K mg) : FnOk P w K mg base CX0 3 T.a_is_row T.fd_is_row P_is_row (spTell K isRow) := by
  have c_is_count := ok_count (P := P) (w := w) (base := base) T
  refine T.F_is_row.ok sc_is_row (fun vs H Q E h => ?_) (fun cdv A outer s H vs Q E hr h => ?_)
  · obtain ⟨v, d, rfl, _⟩ := h
    rfl
  · obtain ⟨v, d, rfl, hd, q⟩ := h
    refine ⟨_, (pss_cons (ps_if (PW.pt (pw_or (pt_not (pt_val (pe_callB (k_isi (K := K) rfl) (by rfl) T.m_isinstance (by decide +kernel) (pa_cons (pv 0) (pa_cons (pe_bltn (v := .ty "list") (by rfl) T.m_list (by decide +kernel) rfl) pa_nil))))) (pw_or1 (pt_cmpR op_gt (pe_callB (k_len (K := K) rfl) (by rfl) T.m_len (by decide +kernel) (pa_cons (pv 0) pa_nil)) (pe_const (by rfl) T.g_LONGEST) (nomark _))))) (pss_one (ps_ret pe_bl)) pss_nil)
      (pss_one (ps_ret (pe_callB (k_all (K := K) rfl rfl) (by rfl) T.m_all (by decide +kernel) (pa_cons (pe_lc (own := [("item", 1)]) rfl nd_is_row (k_pil (K := K) rfl (pv 0)) (blkOk_by (N := N_is_row) (sc := (defScope s_is_row)) (by decide +kernel)) (fun _ _ _ _ _ => pg_name (i := 1) nd_is_row rfl (.inl rfl)) (fun _ _ _ _ _ => pts_nil) (fun _ _ _ _ _ => (pe_call c_is_count (hr.mono (by decide)) (by rfl) T.g_is_count T.F_is_count.kp T.b_is_count .nil pass0 (pa_cons (pv 1) pa_nil)))) pa_nil))))), ?_⟩
    cases d with
    | list ds =>
      cases hd with
      | @lst a xs ds hx hs =>
        have hl := hs.length
        apply q_when (b := decide (200 < (xs.length : Int)))
        · have z : EvT (tNot (tB (tCB (rIsAny K) (tCons (tVar 0) (tCons (tC (.ty "list")) tNil))))) (L2.start N_is_row [.ref a]) H false := by
            exact et_is (et_not (et_B (ev_isT (ed_var rfl (.lst hx hs)) (kList _)))) rfl
          refine et_is (a := false || decide (200 < (xs.length : Int))) (et_or z fun _ => et_test ?_) rfl
          apply ev_op
          · exact ev_len (ev_var rfl) hx
          · exact ev_c
          · exact rv_I0
        · intro hb H1 e1
          have h2 := of_decide_eq_true hb
          apply s_ret
          · exact ev_c
          · intro H2 e2
            have e : isRow (.list ds) = false := by
              show (decide (ds.length ≤ 200) && ds.all isCount) = false
              rw [decide_eq_false (by omega), Bool.false_and]
            rw [e] at q
            exact q H2 (e1.trans e2)
        · intro hb H1 e1
          have h2 := of_decide_eq_false hb
          apply s_ret (v := .bl (isRow (.list ds)))
          · have e : isRow (.list ds) = ((List.range ds.length).map fun i => isCount (ds.getD i .none)).all id := by
              show (decide (ds.length ≤ 200) && ds.all isCount) = _
              rw [decide_eq_true (by omega), Bool.true_and, range_getD ds .none isCount, List.all_map]
              rfl
            rw [e]
            apply ev_all
            have e3 : ((List.range ds.length).map fun i => isCount (ds.getD i .none)).map V.bl = given xs.length (fun _ => true) (fun i => .bl (isCount (ds.getD i .none))) := by
              rw [given_all, hl, List.map_map]
              rfl
            rw [e3]
            apply el_lcL (a := a)
            · exact ev_var rfl
            · exact ex_l e1 hx
            · omega
            · intro x; rfl
            · intro j x H3 e3 hj H4 e4 Q4 q4
              exact q4 H4 (Ex.refl _)
            · intro j x H3 e3 hj _
              obtain ⟨d, hdj, hr⟩ := (hs.to (e1.trans e3)).get hj
              have e5 : ds.getD j .none = d := by
                rw [List.getD_eq_getElem?_getD, hdj]; rfl
              rw [e5]
              apply ev_ownD (eda_cons (ed_var rfl hr) eda_nil)
              rintro vs H5 e5 hv Q2 q2
              cases hv with
              | cons hv hn =>
                cases hn
                exact ⟨_, d, rfl, hv, q2⟩
          · exact fun H2 e2 => q H2 (e1.trans e2)
    | _ =>
      apply q_when (b := true)
      · have z := et_not (et_B (ev_isT (K := K) (ed_var (σ := L2.start N_is_row [v]) (i := 0) rfl hd) (kList _)))
        refine et_is (a := true || true) (et_or z fun h => by cases h) rfl
      · intro _ H1 e1
        apply s_ret
        · exact ev_c
        · exact fun H2 e2 => q H2 (e1.trans e2)
      · intro h
        cases h
end
end K05




set_option Elab.async false
set_option linter.all false
set_option maxRecDepth 100000
set_option maxHeartbeats 4000000
namespace K05
open PySem PySem.Spec PyProof.Rows L2 Evl GS
local macro_rules | `(tactic| walk_at "bits") => `(tactic| first | (refine bits64 ?_; omega) | (apply bitsM; (focus walk_at "bits"); (focus walk_at "bits")))
local macro_rules | `(tactic| walk_at "side") => `(tactic| first
  | (apply CMulX.of; (focus walk_at "bits"); (focus walk_at "bits"); decide)
  | (dsimp only; omega) | assumption | decide)
local macro_rules | `(tactic| walk_at "rv") => `(tactic| first | exact rv_I0 | (apply rv_I; walk_at "side"))
local macro_rules | `(tactic| walk_at "ev") => `(tactic| first
  | exact ev_c
  | exact ev_var rfl
  | (apply ev_op; (focus walk_at "ev"); (focus walk_at "ev"); (focus walk_at "rv"))
  | (apply ev_int1; walk_at "ev")
  | (apply ev_max2; (focus walk_at "ev"); (focus walk_at "ev"))
  | (apply ev_bits; walk_at "ev"))

theorem eqvAll_ints : ∀ (a b : List Int), PyData.eqvAll (a.map .int) (b.map .int) = decide (a = b)
  | [], [] => rfl
  | [], _ :: _ => rfl
  | _ :: _, [] => rfl
  | x :: a, y :: b => by
    show ((x == y) && PyData.eqvAll (a.map .int) (b.map .int)) = _
    rw [eqvAll_ints a b]
    by_cases h : x = y
    · subst h
      by_cases h2 : a = b
      · subst h2; simp
      · simp [h2]
    · simp [h]
theorem eqv_ints (a b : List Int) : PyData.eqv (.list (a.map .int)) (.list (b.map .int)) = decide (a = b) := eqvAll_ints a b
theorem lay_ints : ∀ a : List Int, PyData.canLayAll0 (a.map .int) = true
  | [] => rfl
  | x :: a => by
    show (true && PyData.canLayAll0 (a.map .int)) = true
    rw [lay_ints a]; rfl
theorem depth_ints : ∀ a : List Int, PyData.depthAll (a.map .int) = 0
  | [] => rfl
  | x :: a => by
    show max 0 (PyData.depthAll (a.map .int)) = 0
    rw [depth_ints a]; rfl
theorem shaped_ints (a : List Int) : SeqAt.shaped (.list (a.map .int)) = true := by
  show (PyData.canLayAll0 (a.map .int) && decide (PyData.depthAll (a.map .int) + 1 ≤ 64)) = true
  rw [lay_ints, depth_ints]; rfl
theorem nodict_ints' : ∀ a : List Int, PyData.hasDictAll (a.map .int) = false
  | [] => rfl
  | x :: a => by
    show (false || PyData.hasDictAll (a.map .int)) = false
    rw [nodict_ints' a]; rfl
theorem nodict_ints (a : List Int) : (PyData.list (a.map .int)).hasDict = false := nodict_ints' a
/-- an error leaves, with its value -/
def RaisesV (C : Addr) (v : V) (H : Hp) (E : XK) : Prop := ∀ dd H2, H dd = none → Ex H H2 → H2 dd = some (.xd [("value", v)]) → E (.ref C) (some dd) H2
def spInit (C : Addr) : Sp := fun vs H Q _ => ∃ (a : Addr) (v : V), vs = [.ref a, v] ∧ H a = some (exo a C none) ∧
  ∀ dx, H dx = none → dx ≠ a → Q .non (upd (upd H dx (exd dx [("value", v)])) a (exo a C (some dx)))
/-- a check: nothing, or the error with the argument -/
def spNeed (K : PySem.W.Frag) (C : Addr) (f : PyData → Bool) : Sp := fun vs H Q E => ∃ v d, vs = [v] ∧ Rp K H v d ∧
  (f d = true → RetV .non H Q) ∧ (f d = false → RaisesV C v H E)
theorem tMkO_of {C : Addr} {ta : TA} {σ : L2.St} {H : Hp} {v : V} {Q : XK} (ha : EvA ta σ H [v])
    (q : RaisesV C v H Q) : tMkO C (spInit C) [] ta σ H Q := by
  refine ha H (Ex.refl H) _ fun H1 e1 => ⟨by show 1 ≤ 1000; decide, fun a na => ⟨a, v, rfl, upd_same, fun dx hdx nd => ⟨rfl, dx, [("value", v)], upd_same, ?_, ?_, ?_⟩⟩⟩
  · rw [upd_ne nd, upd_same]
  · rw [upd_ne nd] at hdx
    exact hdx
  · rw [upd_ne nd] at hdx
    refine q dx _ (free_of e1 hdx) (fun x o hx => ?_) upd_same
    have h1 := e1 x o hx
    have xa : x ≠ a := ne_of_none h1 na
    have xd : x ≠ dx := ne_of_none h1 hdx
    rw [upd_ne xd, del_ne xa, upd_ne xa, upd_ne xd, upd_ne xa]
    exact h1
section
variable {P : Program} {w : World} {K : PySem.W.Frag} {mg : Str → Option Value} {base : Heap}
theorem ok_initO (T : Tx K mg) : FnOk P w K mg base CX0 1 T.ai_InvalidOrder T.fdi_InvalidOrder P_InvalidOrder_init (spInit T.a_InvalidOrder) := by
  refine fun_v T.Fi_InvalidOrder sc_InvalidOrder_init (fun vs H Q E h => ?_) (fun cdv A outer s H vs Q E hr h => ?_)
  · obtain ⟨a, v, rfl, _⟩ := h
    rfl
  · obtain ⟨a, v, rfl, hs, q⟩ := h
    refine ⟨_, (pss_one (ps_ost (pv 0) (pv 1))), ?_⟩
    exact ⟨v, rfl, .ref a, rfl, a, _, rfl, T.x_InvalidOrder, T.nv_InvalidOrder, .inl ⟨hs, fun dx h1 h2 => q dx h1 h2⟩⟩
theorem ok_initN (T : Tx K mg) : FnOk P w K mg base CX0 1 T.ai_InvalidNumber T.fdi_InvalidNumber P_InvalidNumber_init (spInit T.a_InvalidNumber) := by
  refine fun_v T.Fi_InvalidNumber sc_InvalidNumber_init (fun vs H Q E h => ?_) (fun cdv A outer s H vs Q E hr h => ?_)
  · obtain ⟨a, v, rfl, _⟩ := h
    rfl
  · obtain ⟨a, v, rfl, hs, q⟩ := h
    refine ⟨_, (pss_one (ps_ost (pv 0) (pv 1))), ?_⟩
    exact ⟨v, rfl, .ref a, rfl, a, _, rfl, T.x_InvalidNumber, T.nv_InvalidNumber, .inl ⟨hs, fun dx h1 h2 => q dx h1 h2⟩⟩
theorem ok_initL (T : Tx K mg) : FnOk P w K mg base CX0 1 T.ai_InvalidList T.fdi_InvalidList P_InvalidList_init (spInit T.a_InvalidList) := by
  refine fun_v T.Fi_InvalidList sc_InvalidList_init (fun vs H Q E h => ?_) (fun cdv A outer s H vs Q E hr h => ?_)
  · obtain ⟨a, v, rfl, _⟩ := h
    rfl
  · obtain ⟨a, v, rfl, hs, q⟩ := h
    refine ⟨_, (pss_one (ps_ost (pv 0) (pv 1))), ?_⟩
    exact ⟨v, rfl, .ref a, rfl, a, _, rfl, T.x_InvalidList, T.nv_InvalidList, .inl ⟨hs, fun dx h1 h2 => q dx h1 h2⟩⟩
theorem ok_initR (T : Tx K mg) : FnOk P w K mg base CX0 1 T.ai_InvalidRow T.fdi_InvalidRow P_InvalidRow_init (spInit T.a_InvalidRow) := by
  refine fun_v T.Fi_InvalidRow sc_InvalidRow_init (fun vs H Q E h => ?_) (fun cdv A outer s H vs Q E hr h => ?_)
  · obtain ⟨a, v, rfl, _⟩ := h
    rfl
  · obtain ⟨a, v, rfl, hs, q⟩ := h
    refine ⟨_, (pss_one (ps_ost (pv 0) (pv 1))), ?_⟩
    exact ⟨v, rfl, .ref a, rfl, a, _, rfl, T.x_InvalidRow, T.nv_InvalidRow, .inl ⟨hs, fun dx h1 h2 => q dx h1 h2⟩⟩
theorem ok_initP (T : Tx K mg) : FnOk P w K mg base CX0 1 T.ai_InvalidPlace T.fdi_InvalidPlace P_InvalidPlace_init (spInit T.a_InvalidPlace) := by
  refine fun_v T.Fi_InvalidPlace sc_InvalidPlace_init (fun vs H Q E h => ?_) (fun cdv A outer s H vs Q E hr h => ?_)
  · obtain ⟨a, v, rfl, _⟩ := h
    rfl
  · obtain ⟨a, v, rfl, hs, q⟩ := h
    refine ⟨_, (pss_one (ps_ost (pv 0) (pv 1))), ?_⟩
    exact ⟨v, rfl, .ref a, rfl, a, _, rfl, T.x_InvalidPlace, T.nv_InvalidPlace, .inl ⟨hs, fun dx h1 h2 => q dx h1 h2⟩⟩
theorem ok_initS (T : Tx K mg) : FnOk P w K mg base CX0 1 T.ai_InvalidLets T.fdi_InvalidLets P_InvalidLets_init (spInit T.a_InvalidLets) := by
  refine fun_v T.Fi_InvalidLets sc_InvalidLets_init (fun vs H Q E h => ?_) (fun cdv A outer s H vs Q E hr h => ?_)
  · obtain ⟨a, v, rfl, _⟩ := h
    rfl
  · obtain ⟨a, v, rfl, hs, q⟩ := h
    refine ⟨_, (pss_one (ps_ost (pv 0) (pv 1))), ?_⟩
    exact ⟨v, rfl, .ref a, rfl, a, _, rfl, T.x_InvalidLets, T.nv_InvalidLets, .inl ⟨hs, fun dx h1 h2 => q dx h1 h2⟩⟩
/-- a call that tells of one datum -/
theorem ev_tell {σ : L2.St} {H : Hp} {te : TE} {f : PyData → Bool} {d : PyData} {E : XK} (h : EvD K te σ H d) : Ev (tCall (spTell K f) [] E (tCons te tNil)) σ H (.bl (f d)) := by
  apply ev_ownD (eda_cons h eda_nil)
  rintro vs H1 e1 hv Q2 q2
  cases hv with
  | cons hv hn =>
    cases hn
    exact ⟨_, d, rfl, hv, q2⟩
theorem ok_order (T : Tx K mg) : FnOk P w K mg base CX0 4 T.a_is_order T.fd_is_order P_is_order (spTell K isOrder) := by
  have c_is_row := ok_row (P := P) (w := w) (base := base) T
  refine T.F_is_order.ok sc_is_order (fun vs H Q E h => ?_) (fun cdv A outer s H vs Q E hr h => ?_)
  · obtain ⟨v, d, rfl, _⟩ := h
    rfl
  · obtain ⟨v, d, rfl, hd, q⟩ := h
    refine ⟨_, (pss_one (ps_ret (pe_and (pe_call c_is_row (hr.mono (by decide)) (by rfl) T.g_is_row T.F_is_row.kp T.b_is_row .nil pass0 (pa_cons (pv 0) pa_nil)) (pe_one (pe_cmpR (k_eq (K := K) rfl hr.units) (pe_callB (k_sorted (K := K) rfl) (by rfl) T.m_sorted (by decide +kernel) (pa_cons (pv 0) pa_nil)) (pe_listRg rfl (by rfl) T.m_list (prg_1 (by rfl) T.m_range (pe_callB (k_len (K := K) rfl) (by rfl) T.m_len (by decide +kernel) (pa_cons (pv 0) pa_nil)))) (nomark _)))))), ?_⟩
    have e : isOrder d = (isRow d && (match d with | .list ds => decide (isort (intsD ds) = rangeI ds.length) | _ => true)) := by
      cases d <;> rfl
    cases d with
    | list ds =>
      apply s_ret (v := .bl (isRow (.list ds) && decide (isort (intsD ds) = rangeI ds.length)))
      · apply ev_andV
        · exact ev_tell (ed_var rfl hd)
        · intro hw
          obtain ⟨hi, hl⟩ := isRow_ints hw
          cases hd with
          | @lst a xs ds hx hs =>
            have hl2 := hs.length
            rw [hi] at hs
            have hv := rp_ints hs
            subst hv
            rw [List.length_map] at hl2
            apply ev_one
            have ev := ev_eqD (K := K) (σ := L2.start N_is_order [.ref a]) (H := H) (d := .list ((isort (intsD ds)).map .int)) (e := .list ((rangeI ds.length).map .int))
              (ed_new (EvL.ld (el_sort (ta := tVar 0) (ev_var rfl) hx) fun _ => rpInts _))
              (ed_new (EvL.ld (el_range (n := ds.length) (ta := tCB (rLenS K) (tCons (tVar 0) tNil)) (ev_is (ev_len (ev_var rfl) hx) (by rw [List.length_map, hl2])) (by omega)) fun _ => rpInts _))
              (nodict_ints _) (nodict_ints _) (shaped_ints _) (shaped_ints _)
            rw [eqv_ints] at ev
            exact ev
      · exact fun H2 e2 => q H2 e2
    | _ =>
      apply s_ret (v := .bl (false && true))
      · apply ev_andV
        · exact ev_tell (ed_var rfl hd)
        · intro h; cases h
      · exact fun H2 e2 => q H2 e2
theorem ok_islog (T : Tx K mg) : FnOk P w K mg base CX0 4 T.a_is_log T.fd_is_log P_is_log (spTell K isLog) := by
  have c_is_row := ok_row (P := P) (w := w) (base := base) T
  refine T.F_is_log.ok sc_is_log (fun vs H Q E h => ?_) (fun cdv A outer s H vs Q E hr h => ?_)
  · obtain ⟨v, d, rfl, _⟩ := h
    rfl
  · obtain ⟨v, d, rfl, hd, q⟩ := h
    refine ⟨_, (pss_one (ps_ret (pe_and (pe_call c_is_row (hr.mono (by decide)) (by rfl) T.g_is_row T.F_is_row.kp T.b_is_row .nil pass0 (pa_cons (pv 0) pa_nil)) (pe_one (pe_callB (k_all (K := K) rfl rfl) (by rfl) T.m_all (by decide +kernel) (pa_cons (pe_lc (own := [("at", 1), ("item", 2)]) rfl nd_is_log (k_enum (K := K) rfl (by rfl) T.m_enumerate (pa_cons (pv 0) pa_nil)) (blkOk_by (N := N_is_log) (sc := (defScope s_is_log)) (by decide +kernel)) (fun _ _ _ _ _ => k_gtup (K := K) (n := 2) rfl rfl (pgs_cons (pg_name (i := 1) nd_is_log rfl (.inl rfl)) (pgs_cons (pg_name (i := 2) nd_is_log rfl (.inl rfl)) pgs_nil))) (fun _ _ _ _ _ => pts_nil) (fun _ _ _ _ _ => (pe_cmpR op_le (pv 2) (pv 1) (nomark _)))) pa_nil)))))), ?_⟩
    cases d with
    | list ds =>
      apply s_ret (v := .bl (isRow (.list ds) && ((List.range ds.length).map fun i => decide (intD (ds.getD i .none) ≤ i)).all id))
      · apply ev_andV
        · exact ev_tell (ed_var rfl hd)
        · intro hw
          obtain ⟨hi, hl⟩ := isRow_ints hw
          cases hd with
          | @lst a xs ds hx hs =>
            have hl2 := hs.length
            apply ev_one
            apply ev_all
            have e3 : ((List.range ds.length).map fun i => decide (intD (ds.getD i .none) ≤ i)).map V.bl = given xs.length (fun _ => true) (fun i => .bl (decide (intD (ds.getD i .none) ≤ i))) := by
              rw [given_all, hl2, List.map_map]
              rfl
            rw [e3]
            apply el_lcE (a := a)
            · exact ea_cons (ev_var rfl) ea_nil
            · exact hx
            · omega
            · intro x y; rfl
            · intro n x H1 e1 hn H4 e4 Q4 q4
              exact q4 H4 (Ex.refl _)
            · intro n x H1 e1 hn _
              obtain ⟨d, hdj, hr⟩ := hs.get hn
              have e5 : ds.getD n .none = d := by
                rw [List.getD_eq_getElem?_getD, hdj]; rfl
              rw [e5]
              have hm : d ∈ (intsD ds).map PyData.int := by rw [← hi]; exact List.mem_of_getElem? hdj
              obtain ⟨k, _, rfl⟩ := List.mem_map.mp hm
              cases hr
              apply ev_op
              · exact ev_var rfl
              · exact ev_var rfl
              · exact rv_I0
      · rw [List.all_map]
        exact fun H2 e2 => q H2 e2
    | _ =>
      apply s_ret (v := .bl (false && true))
      · apply ev_andV
        · exact ev_tell (ed_var rfl hd)
        · intro h; cases h
      · exact fun H2 e2 => q H2 e2
theorem ok_need (T : Tx K mg) : FnOk P w K mg base (L2.CX P w) 5 T.a_need_order T.fd_need_order P_need_order (spNeed K T.a_InvalidOrder isOrder) := by
  have c_is_order := ok_order (P := P) (w := w) (base := base) T
  have c_InvalidOrder_init := ok_initO (P := P) (w := w) (base := base) T
  refine T.F_need_order.okX sc_need_order (fun vs H Q E h => ?_) (fun cdv A outer s H vs Q E hr h => ?_)
  · obtain ⟨v, d, rfl, _⟩ := h
    rfl
  · obtain ⟨v, d, rfl, hd, q, r⟩ := h
    refine ⟨_, (pss_one (ps_if (pt_not (pt_val (pe_call c_is_order (hr.mono (by decide)) (by rfl) T.g_is_order T.F_is_order.kp T.b_is_order .nil pass0 (pa_cons (pv 0) pa_nil)))) (pss_one (ps_raise rfl (takes_of rfl rfl rfl rfl) (pmk_oex T.x_InvalidOrder T.i_InvalidOrder T.t_InvalidOrder c_InvalidOrder_init (hr.mono (by decide)) T.bi_InvalidOrder .nil pass0 (by rfl) T.g_InvalidOrder (pa_cons (pv 0) pa_nil)))) pss_nil)), ?_⟩
    apply s_when (b := !isOrder d)
    · exact et_not (et_B (ev_tell (ed_var rfl hd)))
    · intro hb H1 e1
      have hb2 : isOrder d = false := by cases h : isOrder d with | true => rw [h] at hb; cases hb | false => rfl
      refine tMkO_of (v := v) (ea_cons (ev_var rfl) ea_nil) ?_
      intro dd H2 n e2 h2
      exact r hb2 dd H2 (free_of e1 n) (e1.trans e2) h2
    · intro hb H1 e1
      have hb2 : isOrder d = true := by cases h : isOrder d with | true => rfl | false => rw [h] at hb; cases hb
      exact q hb2 H1 e1
theorem ok_are (T : Tx K mg) : FnOk P w K mg base CX0 3 T.a_are_numbers T.fd_are_numbers P_are_numbers (spTell K areD) := by
  have c_may_be_told := ok_may (P := P) (w := w) (base := base) T
  refine T.F_are_numbers.ok sc_are_numbers (fun vs H Q E h => ?_) (fun cdv A outer s H vs Q E hr h => ?_)
  · obtain ⟨v, d, rfl, _⟩ := h
    rfl
  · obtain ⟨v, d, rfl, hd, q⟩ := h
    refine ⟨_, (pss_cons (ps_if (PW.pt (pw_or (pt_not (pt_val (pe_callB (k_isi (K := K) rfl) (by rfl) T.m_isinstance (by decide +kernel) (pa_cons (pv 0) (pa_cons (pe_bltn (v := .ty "list") (by rfl) T.m_list (by decide +kernel) rfl) pa_nil))))) (pw_or1 (pt_cmpR op_gt (pe_callB (k_len (K := K) rfl) (by rfl) T.m_len (by decide +kernel) (pa_cons (pv 0) pa_nil)) (pe_const (by rfl) T.g_MOST_NUMBERS) (nomark _))))) (pss_one (ps_ret pe_bl)) pss_nil)
      (pss_one (ps_ret (pe_callB (k_all (K := K) rfl rfl) (by rfl) T.m_all (by decide +kernel) (pa_cons (pe_lc (own := [("item", 1)]) rfl nd_are_numbers (k_pil (K := K) rfl (pv 0)) (blkOk_by (N := N_are_numbers) (sc := (defScope s_are_numbers)) (by decide +kernel)) (fun _ _ _ _ _ => pg_name (i := 1) nd_are_numbers rfl (.inl rfl)) (fun _ _ _ _ _ => pts_nil) (fun _ _ _ _ _ => (pe_call c_may_be_told (hr.mono (by decide)) (by rfl) T.g_may_be_told T.F_may_be_told.kp T.b_may_be_told .nil pass0 (pa_cons (pv 1) pa_nil)))) pa_nil))))), ?_⟩
    cases d with
    | list ds =>
      cases hd with
      | @lst a xs ds hx hs =>
        have hl := hs.length
        apply q_when (b := decide (200 < (xs.length : Int)))
        · have z : EvT (tNot (tB (tCB (rIsAny K) (tCons (tVar 0) (tCons (tC (.ty "list")) tNil))))) (L2.start N_are_numbers [.ref a]) H false := by
            exact et_is (et_not (et_B (ev_isT (ed_var rfl (.lst hx hs)) (kList _)))) rfl
          refine et_is (a := false || decide (200 < (xs.length : Int))) (et_or z fun _ => et_test ?_) rfl
          apply ev_op
          · exact ev_len (ev_var rfl) hx
          · exact ev_c
          · exact rv_I0
        · intro hb H1 e1
          have h2 := of_decide_eq_true hb
          apply s_ret
          · exact ev_c
          · intro H2 e2
            have e : areD (.list ds) = false := by
              show (decide (ds.length ≤ 200) && ds.all mayD) = false
              rw [decide_eq_false (by omega), Bool.false_and]
            rw [e] at q
            exact q H2 (e1.trans e2)
        · intro hb H1 e1
          have h2 := of_decide_eq_false hb
          apply s_ret (v := .bl (areD (.list ds)))
          · have e : areD (.list ds) = ((List.range ds.length).map fun i => mayD (ds.getD i .none)).all id := by
              show (decide (ds.length ≤ 200) && ds.all mayD) = _
              rw [decide_eq_true (by omega), Bool.true_and, range_getD ds .none mayD, List.all_map]
              rfl
            rw [e]
            apply ev_all
            have e3 : ((List.range ds.length).map fun i => mayD (ds.getD i .none)).map V.bl = given xs.length (fun _ => true) (fun i => .bl (mayD (ds.getD i .none))) := by
              rw [given_all, hl, List.map_map]
              rfl
            rw [e3]
            apply el_lcL (a := a)
            · exact ev_var rfl
            · exact ex_l e1 hx
            · omega
            · intro x; rfl
            · intro j x H3 e3 hj H4 e4 Q4 q4
              exact q4 H4 (Ex.refl _)
            · intro j x H3 e3 hj _
              obtain ⟨d, hdj, hr⟩ := (hs.to (e1.trans e3)).get hj
              have e5 : ds.getD j .none = d := by
                rw [List.getD_eq_getElem?_getD, hdj]; rfl
              rw [e5]
              apply ev_ownD (eda_cons (ed_var rfl hr) eda_nil)
              rintro vs H5 e5 hv Q2 q2
              cases hv with
              | cons hv hn =>
                cases hn
                exact ⟨_, d, rfl, hv, q2⟩
          · exact fun H2 e2 => q H2 (e1.trans e2)
    | _ =>
      apply q_when (b := true)
      · have z := et_not (et_B (ev_isT (K := K) (ed_var (σ := L2.start N_are_numbers [v]) (i := 0) rfl hd) (kList _)))
        refine et_is (a := true || true) (et_or z fun h => by cases h) rfl
      · intro _ H1 e1
        apply s_ret
        · exact ev_c
        · exact fun H2 e2 => q H2 (e1.trans e2)
      · intro h
        cases h
end
end K05




set_option Elab.async false
set_option linter.all false
set_option maxRecDepth 100000
set_option maxHeartbeats 4000000
namespace K05
open PySem PySem.Spec PyProof.Rows L2 Evl GS
local macro_rules | `(tactic| walk_at "bits") => `(tactic| first | (refine bits64 ?_; omega) | (apply bitsM; (focus walk_at "bits"); (focus walk_at "bits")))
local macro_rules | `(tactic| walk_at "side") => `(tactic| first
  | (apply CMulX.of; (focus walk_at "bits"); (focus walk_at "bits"); decide)
  | (dsimp only; omega) | assumption | decide)
local macro_rules | `(tactic| walk_at "rv") => `(tactic| first | exact rv_I0 | (apply rv_I; walk_at "side"))
local macro_rules | `(tactic| walk_at "ev") => `(tactic| first
  | exact ev_c
  | exact ev_var rfl
  | (apply ev_op; (focus walk_at "ev"); (focus walk_at "ev"); (focus walk_at "rv"))
  | (apply ev_int1; walk_at "ev")
  | (apply ev_max2; (focus walk_at "ev"); (focus walk_at "ev"))
  | (apply ev_bits; walk_at "ev"))

theorem isOrder_ints {d : PyData} (h : isOrder d = true) : ∃ ns : List Int, d = .list (ns.map .int) ∧ ns.length ≤ 200 ∧ isort ns = rangeI ns.length := by
  cases d with
  | list ds =>
    obtain ⟨h1, h2⟩ := Bool.and_eq_true_iff.mp h
    obtain ⟨h3, h4⟩ := isRow_ints h1
    refine ⟨intsD ds, by rw [← h3], ?_, ?_⟩
    · show (ds.map intD).length ≤ 200
      rw [List.length_map]; exact h4
    · have := of_decide_eq_true h2
      rw [this]
      show _ = rangeI (ds.map intD).length
      rw [List.length_map]
  | _ => cases h
theorem isLog_ints {d : PyData} (h : isLog d = true) : ∃ ns : List Int, d = .list (ns.map .int) ∧ ns.length ≤ 200 := by
  cases d with
  | list ds =>
    obtain ⟨h1, h2⟩ := Bool.and_eq_true_iff.mp h
    obtain ⟨h3, h4⟩ := isRow_ints h1
    refine ⟨intsD ds, by rw [← h3], ?_⟩
    show (ds.map intD).length ≤ 200
    rw [List.length_map]; exact h4
  | _ => cases h
/-- a function of an order (of a log): the error, or a new list -/
def spMade (K : PySem.W.Frag) (C : Addr) (f : PyData → Bool) (g : List Int → List Int) : Sp := fun vs H Q E => ∃ v d, vs = [v] ∧ Rp K H v d ∧
  (∀ ns : List Int, d = .list (ns.map .int) → f d = true → RetL ((g ns).map V.int) H Q) ∧ (f d = false → RaisesV C v H E)
theorem ps_nox {X : Cx} {st : Stmt} {t : TS} (h : PS X.nox st t) : PS X st t :=
  ⟨fun pins s σ H D I z => wpAny_mono (h.run pins s σ H D (I.wish _) z) (fun _ _ q => SP.unwish q) fun _ _ z => z.elim⟩
theorem q_do {σ : L2.St} {H : Hp} {te : TE} {D : Ends} {tz : TS} (k : te σ H fun _ H1 => tz D σ H1) : tSeq (tDrop te) tz D σ H := k
theorem not_true {b : Bool} (h : (!b) = true) : b = false := by cases b with | true => cases h | false => rfl
theorem not_false' {b : Bool} (h : (!b) = false) : b = true := by cases b with | true => rfl | false => cases h
section
variable {P : Program} {w : World} {K : PySem.W.Frag} {mg : Str → Option Value} {base : Heap}
theorem kb_order_of_0_log (T : Tx K mg) : KBinds K T.fd_order_of P_order_of ["log"] (fun us ws => us ++ ws) (fun vs zs => vs ++ zs) := by
  obtain ⟨oc, od, kV, doc, pm, an, cdv, ct, osl, e, lk, hcd⟩ := T.F_order_of.ex
  refine ⟨fun s us ws _ hl => ?_, fun r rz => r.append rz⟩
  rw [e]
  match us, ws, hl with
  | [], [_], _ => exact .of_eq rfl
  | [_], [], _ => exact .of_eq rfl
theorem kb_log_of_0_order (T : Tx K mg) : KBinds K T.fd_log_of P_log_of ["order"] (fun us ws => us ++ ws) (fun vs zs => vs ++ zs) := by
  obtain ⟨oc, od, kV, doc, pm, an, cdv, ct, osl, e, lk, hcd⟩ := T.F_log_of.ex
  refine ⟨fun s us ws _ hl => ?_, fun r rz => r.append rz⟩
  rw [e]
  match us, ws, hl with
  | [], [_], _ => exact .of_eq rfl
  | [_], [], _ => exact .of_eq rfl
theorem ok_logof (T : Tx K mg) : FnOk P w K mg base (L2.CX P w) 6 T.a_log_of T.fd_log_of P_log_of (spMade K T.a_InvalidOrder isOrder logOf) := by
  have c_need_order := ok_need (P := P) (w := w) (base := base) T
  refine T.F_log_of.okX sc_log_of (fun vs H Q E h => ?_) (fun cdv A outer s H vs Q E hr h => ?_)
  · obtain ⟨v, d, rfl, _⟩ := h
    rfl
  · obtain ⟨v, d, rfl, hd, q, r⟩ := h
    refine ⟨_, (pss_cons (ps_expr (pe_call c_need_order (hr.mono (by decide)) (by rfl) T.g_need_order T.F_need_order.kp T.b_need_order .nil (passes_call (takes_of rfl rfl rfl rfl) (fun _ _ _ _ h => h)) (pa_cons (pv 0) pa_nil)))
      (pss_one (ps_ret (pe_lc (own := [("at", 1), ("item", 2)]) rfl nd_log_of (k_enum (K := K) rfl (by rfl) T.m_enumerate (pa_cons (pv 0) pa_nil)) (blkOk_by (N := N_log_of) (sc := (defScope s_log_of)) (by decide +kernel)) (fun _ _ _ _ _ => k_gtup (K := K) (n := 2) rfl rfl (pgs_cons (pg_name (i := 1) nd_log_of rfl (.inl rfl)) (pgs_cons (pg_name (i := 2) nd_log_of rfl (.inr rfl)) pgs_nil))) (fun _ _ _ _ _ => pts_nil) (fun _ _ _ _ _ => (pe_callB (k_len (K := K) rfl) (by rfl) T.m_len (by decide +kernel) (pa_cons (pe_lc (own := [("other", 3)]) rfl nd_log_of (k_pil (K := K) rfl (pe_slice (k_sll (K := K) rfl) (pv 0) po_none (po_some (pv 1)))) (blkOk_by (N := N_log_of) (sc := ({ kind := .function, names := [(PySem.Str.ofString ".0", .local), (PySem.Str.ofString "at", .local), (PySem.Str.ofString "item", .cell), (PySem.Str.ofString "len", .globalImplicit), (PySem.Str.ofString "order", .cell)], isGenerator := false, isCoroutine := false } : Scope)) (by decide +kernel)) (fun _ _ _ _ _ => pg_name (i := 3) nd_log_of rfl (.inl rfl)) (fun _ _ _ _ _ => pts_one (pt_cmpR op_lt (pv 3) (pv 2) (nomark _))) (fun _ _ _ _ _ => (pv 3))) pa_nil))))))), ?_⟩
    apply q_do
    refine ⟨v, rfl, v, d, rfl, hd, fun ht => ?_, fun hf => ?_⟩
    · intro H1 e1
      obtain ⟨ns, rfl, hl, hp⟩ := isOrder_ints ht
      cases hd with
      | @lst a xs ds hx hs =>
        have hv := rp_ints hs
        subst hv
        have hx1 := ex_l e1 hx
        apply s_retL (xs := (logOf ns).map V.int)
        · have e : (logOf ns).map V.int = given (ns.map V.int).length (fun _ => true) (fun i => V.int ((((ns.take i).filter fun o => decide (o < ns.getD i 0)).length : Nat) : Int)) := by
            rw [given_all, List.length_map]
            unfold logOf
            rw [List.map_map]
            rfl
          rw [e]
          apply el_lcE (a := a)
          · exact ea_cons (ev_var rfl) ea_nil
          · exact hx1
          · rw [List.length_map]; omega
          · intro x y; rfl
          · intro n x H1 e1 hn H4 e4 Q4 q4
            exact q4 H4 (Ex.refl _)
          · intro n x H2 e2 hn _
            obtain ⟨k, hk, rfl⟩ := getI hn
            apply ev_count (a := a) (ns := ns)
            · exact ev_var rfl
            · exact ev_var rfl
            · exact ex_l e2 hx1
            · omega
            · show 3 < 4
              decide
            · intro x H3 e3
              rw [getD_of hk]
              exact ev_var rfl
        · intro p H2 np e2 hp
          exact q ns rfl ht p H2 (free_of e1 np) (e1.trans e2) hp
    · exact r hf
theorem ok_orderof (T : Tx K mg) : FnOk P w K mg base (L2.CX P w) 5 T.a_order_of T.fd_order_of P_order_of (spMade K T.a_InvalidRow isLog ordOf) := by
  have c_is_log := ok_islog (P := P) (w := w) (base := base) T
  have c_InvalidRow_init := ok_initR (P := P) (w := w) (base := base) T
  refine T.F_order_of.okX sc_order_of (fun vs H Q E h => ?_) (fun cdv A outer s H vs Q E hr h => ?_)
  · obtain ⟨v, d, rfl, _⟩ := h
    rfl
  · obtain ⟨v, d, rfl, hd, q, r⟩ := h
    refine ⟨_, (pss_cons (ps_if (pt_not (pt_val (pe_call c_is_log (hr.mono (by decide)) (by rfl) T.g_is_log T.F_is_log.kp T.b_is_log .nil pass0 (pa_cons (pv 0) pa_nil)))) (pss_one (ps_raise rfl (takes_of rfl rfl rfl rfl) (pmk_oex T.x_InvalidRow T.i_InvalidRow T.t_InvalidRow c_InvalidRow_init (hr.mono (by decide)) T.bi_InvalidRow .nil pass0 (by rfl) T.g_InvalidRow (pa_cons (pv 0) pa_nil)))) pss_nil)
      (pss_cons (ps_set (i := 1) nd_order_of rfl (.inl rfl) (pe_lst pa_nil))
      (pss_cons (ps_nox (ps_for PassesOwn.never rfl (k_pil (K := K) rfl (pv 0)) (pg_name (i := 2) nd_order_of rfl (.inr rfl)) (pss_cons (ps_setLc (own := [("other", 3)]) (i := 1) rfl nd_order_of rfl rfl (sw_true rfl rfl rfl (by decide +kernel)) (k_pil (K := K) rfl (pv 1)) (blkOk_by (N := N_order_of) (sc := (defScope s_order_of)) (by decide +kernel)) (fun _ _ _ _ _ => pg_name (i := 3) nd_order_of rfl (.inl rfl)) (fun _ _ _ _ _ => pts_nil) (fun _ _ _ _ _ => (pe_ifExp (pt_cmpR op_ge (pv 3) (pv 2) (nomark _)) (pe_op op_add (pv 3) pe_int) (pv 3))))
      (pss_one (ps_expr (pe_bm PySem.F.plainAttrs_list PySem.F.slot_list_append PySem.F.type_list_append mt_append (pv 1) (pa_cons (pv 2) pa_nil)))))))
      (pss_one (ps_ret (pv 1)))))), ?_⟩
    apply q_when (b := !isLog d)
    · exact et_not (et_B (ev_tell (ed_var rfl hd)))
    · intro hb H1 e1
      refine tMkO_of (v := v) (ea_cons (ev_var rfl) ea_nil) ?_
      intro dd H2 n e2 h2
      exact r (not_true hb) dd H2 (free_of e1 n) (e1.trans e2) h2
    · intro hb H1 e1
      have ht := not_false' hb
      obtain ⟨ns, rfl, hl⟩ := isLog_ints ht
      cases hd with
      | @lst a xs ds hx hs =>
        have hv := rp_ints hs
        subst hv
        apply q_asgL
        · exact el_lst ea_nil (by decide)
        intro o H2 no e2 ho
        have hx1 := ex_l (e1.trans e2) hx
        apply q_forLn (ev_var rfl) hx1
        rotate_left 4
        · exact fun i σ H3 => ∃ (o : Addr) (y z : Option V), σ = [some (.ref a), some (.ref o), y, z] ∧ H o = none ∧ Ex H H3 ∧ H3 o = some (.lst ((ordOf (ns.take i)).map V.int))
        · intro H3 e3
          exact ⟨o, _, _, rfl, free_of e1 no, (e1.trans e2).trans e3, e3 _ _ ho⟩
        · rintro i σ H3 hi ⟨o, y, z, rfl, no, e3, ho⟩
          exact ex_l e3 hx
        · rintro i x σ H3 hi ⟨o, y, z, rfl, no, e3, ho⟩
          obtain ⟨k, hk, rfl⟩ := getI hi
          have hlen : (ordOf (ns.take i)).length ≤ 1000 := by
            rw [ordOf_len, List.length_take]; omega
          have hr2 : given ((ordOf (ns.take i)).map V.int).length (fun _ => true) (fun j => .int (lift k ((ordOf (ns.take i)).getD j 0))) = ((ordOf (ns.take i)).map (lift k)).map V.int := by
            rw [given_all, List.length_map, range_getD (ordOf (ns.take i)) 0 (fun z => V.int (lift k z)), List.map_map]
            rfl
          apply q_asgL (xs := ((ordOf (ns.take i)).map (lift k)).map V.int)
          · rw [← hr2]
            apply el_lcL (xs := (ordOf (ns.take i)).map V.int) (a := o)
            · exact ev_var rfl
            · exact sq_of ho
            · rw [List.length_map]; omega
            · intro x; rfl
            · intro j x H3 e3 hj H4 e4 Q4 q4
              exact q4 H4 (Ex.refl _)
            · intro j x H3 e3 hj _
              obtain ⟨c, hc, rfl⟩ := getI hj
              rw [getD_of hc]
              apply ev_if (b := decide (k ≤ c))
              · apply et_test
                apply ev_op
                · exact ev_var rfl
                · exact ev_var rfl
                · exact rv_I0
              · intro hb
                have := of_decide_eq_true hb
                rw [show lift k c = c + 1 from if_pos this]
                apply ev_op
                · exact ev_var rfl
                · exact ev_c
                · exact rv_I0
              · intro hb
                have := of_decide_eq_false hb
                rw [show lift k c = c from if_neg this]
                exact ev_var rfl
          intro p H4 np e4 hp
          apply s_app hp
          · exact ev_var rfl
          · exact ev_var rfl
          · simp only [List.length_map, ordOf_len]; rw [List.length_take]; omega
          intro H5 e5
          have nH : H p = none := free_of e3 np
          refine ⟨p, _, _, rfl, nH, (e3.trans (e4.trans e5)).mut nH, ?_⟩
          rw [take_snoc hk, ordOf_snoc, List.map_append, upd_same]
          rfl
        · rintro σ H3 ⟨o, y, z, rfl, no, e3, ho⟩
          rw [List.length_map, List.take_length] at ho
          apply s_ret
          · exact ev_var rfl
          intro H4 e4
          exact q ns rfl ht o H4 no (e3.trans e4) (e4 _ _ ho)
end
end K05




set_option Elab.async false
set_option linter.all false
set_option maxRecDepth 100000
set_option maxHeartbeats 4000000
namespace K05
open PySem PySem.Spec PyProof.Rows L2 Evl GS
local macro_rules | `(tactic| walk_at "bits") => `(tactic| first | (refine bits64 ?_; omega) | (apply bitsM; (focus walk_at "bits"); (focus walk_at "bits")))
local macro_rules | `(tactic| walk_at "side") => `(tactic| first
  | (apply CMulX.of; (focus walk_at "bits"); (focus walk_at "bits"); decide)
  | (dsimp only; omega) | assumption | decide)
local macro_rules | `(tactic| walk_at "rv") => `(tactic| first | exact rv_I0 | (apply rv_I; walk_at "side"))
local macro_rules | `(tactic| walk_at "ev") => `(tactic| first
  | exact ev_c
  | exact ev_var rfl
  | (apply ev_op; (focus walk_at "ev"); (focus walk_at "ev"); (focus walk_at "rv"))
  | (apply ev_int1; walk_at "ev")
  | (apply ev_max2; (focus walk_at "ev"); (focus walk_at "ev"))
  | (apply ev_bits; walk_at "ev"))

/-! ### a set of counts in the heap -/
def stV : Option Int → V
  | none => .non
  | some s => .int s
def stD : Option Int → PyData
  | none => .none
  | some s => .int s
theorem stRp {K : PySem.W.Frag} {H : Hp} (st : Option Int) : Rp K H (stV st) (stD st) := by
  cases st with
  | none => exact .non
  | some s => exact .int s
def kS : Str := "_start"
def kN : Str := "_numbers"
def kT : Str := "_table"
def lf (st : Option Int) (nn tt : Addr) : List (Str × V) := [(kS, stV st), (kN, .ref nn), (kT, .ref tt)]
theorem kSN : ¬ kS = kN := by decide +kernel
theorem kST : ¬ kS = kT := by decide +kernel
theorem kNT : ¬ kN = kT := by decide +kernel
theorem pf2 (u v : V) : putF kN v [(kS, u)] = [(kS, u), (kN, v)] := by
  unfold putF
  rw [if_neg kSN]
  rfl
theorem pf3 (u v x : V) : putF kT x [(kS, u), (kN, v)] = [(kS, u), (kN, v), (kT, x)] := by
  unfold putF
  rw [if_neg kST]
  unfold putF
  rw [if_neg kNT]
  rfl
theorem lk_ne {k g : Str} (h : ¬ g = k) (v : V) (r : List (Str × V)) : ((g, v) :: r).lookup k = r.lookup k := by
  have e : (k == g) = false := by
    rw [beq_eq_false_iff_ne]
    exact fun z => h z.symm
  rw [List.lookup_cons, e]
theorem lk_eq {k : Str} (v : V) (r : List (Str × V)) : ((k, v) :: r).lookup k = some v := List.lookup_cons_self
theorem lf_st (st : Option Int) (nn tt : Addr) : (lf st nn tt).lookup kS = some (stV st) := lk_eq _ _
theorem lf_nn (st : Option Int) (nn tt : Addr) : (lf st nn tt).lookup kN = some (.ref nn) := by
  unfold lf
  rw [lk_ne kSN, lk_eq]
theorem lf_tt (st : Option Int) (nn tt : Addr) : (lf st nn tt).lookup kT = some (.ref tt) := by
  unfold lf
  rw [lk_ne kST, lk_ne kNT, lk_eq]
/-- no method's name is a field's -/
theorem lf_no {m : Str} (h1 : ¬ kS = m) (h2 : ¬ kN = m) (h3 : ¬ kT = m) (st : Option Int) (nn tt : Addr) : (lf st nn tt).lookup m = none := by
  unfold lf
  rw [lk_ne h1, lk_ne h2, lk_ne h3]
  rfl
def LetsAt (C : Addr) (H : Hp) (p : Addr) (ns : List Int) (st : Option Int) : Prop := ∃ dx nn tt, H p = some (.ins C dx (lf st nn tt)) ∧ H nn = some (.lst (ns.map V.int)) ∧ H tt = some (.dK (trueK ns))
theorem LetsAt.mono {C : Addr} {H H2 : Hp} {p : Addr} {ns : List Int} {st : Option Int} (e : Ex H H2) (h : LetsAt C H p ns st) : LetsAt C H2 p ns st := by
  obtain ⟨dx, nn, tt, h1, h2, h3⟩ := h
  exact ⟨dx, nn, tt, e _ _ h1, e _ _ h2, e _ _ h3⟩
/-- the same, its list and its dict not there in H0 -/
def LetsN (C : Addr) (H0 H : Hp) (p : Addr) (ns : List Int) (st : Option Int) : Prop := ∃ dx nn tt, H p = some (.ins C dx (lf st nn tt)) ∧ H nn = some (.lst (ns.map V.int)) ∧ H tt = some (.dK (trueK ns)) ∧ H0 nn = none ∧ H0 tt = none
theorem LetsN.at {C : Addr} {H0 H : Hp} {p : Addr} {ns : List Int} {st : Option Int} (h : LetsN C H0 H p ns st) : LetsAt C H p ns st := by
  obtain ⟨dx, nn, tt, h1, h2, h3, _⟩ := h
  exact ⟨dx, nn, tt, h1, h2, h3⟩
theorem LetsN.less {C : Addr} {H0 H1 H : Hp} {p : Addr} {ns : List Int} {st : Option Int} (e : Ex H0 H1) (h : LetsN C H1 H p ns st) : LetsN C H0 H p ns st := by
  obtain ⟨dx, nn, tt, h1, h2, h3, h4, h5⟩ := h
  exact ⟨dx, nn, tt, h1, h2, h3, fresh_back e h4, fresh_back e h5⟩
theorem LetsN.mono {C : Addr} {H0 H H2 : Hp} {p : Addr} {ns : List Int} {st : Option Int} (e : Ex H H2) (h : LetsN C H0 H p ns st) : LetsN C H0 H2 p ns st := by
  obtain ⟨dx, nn, tt, h1, h2, h3, h4⟩ := h
  exact ⟨dx, nn, tt, e _ _ h1, e _ _ h2, e _ _ h3, h4⟩
/-- what H0 had may change -/
theorem LetsN.put {C : Addr} {H0 H : Hp} {p q : Addr} {ns : List Int} {st : Option Int} {o u : HO} (h : LetsN C H0 H p ns st) (n : H0 p = none) (hq : H0 q = some u) : LetsN C H0 (upd H q o) p ns st := by
  obtain ⟨dx, nn, tt, h1, h2, h3, h4, h5⟩ := h
  have n1 := ne_of_none hq n
  have n2 := ne_of_none hq h4
  have n3 := ne_of_none hq h5
  exact ⟨dx, nn, tt, by rw [upd_ne (Ne.symm n1)]; exact h1, by rw [upd_ne (Ne.symm n2)]; exact h2, by rw [upd_ne (Ne.symm n3)]; exact h3, h4, h5⟩
/-- what it is made of -/
structure Told (ns : List Int) (st : Option Int) : Prop where
  len : ns.length ≤ 200
  pos : ∀ x ∈ ns, 1 ≤ x ∧ x ≤ 1000
  st1 : ∀ s, st = some s → 1 ≤ s ∧ s ≤ 1000
def MadeAt (C : Addr) (H : Hp) (p : Addr) (ns : List Int) (st : Option Int) (Q : VK) : Prop := ∀ H2, Ex (hid H p) H2 → LetsN C (hid H p) H2 p (formN ns st) (formS ns st) → Q .non H2
def spSettle (K : PySem.W.Frag) (C : Addr) : Sp := fun vs H Q _ => ∃ (p a dx : Addr) (ns : List Int) (st : Option Int), vs = [.ref p, .ref a, stV st] ∧ H p = some (.ins C dx []) ∧ SqL K H a (ns.map V.int) ∧ Told ns st ∧ MadeAt C H p ns st Q
def spNums (C : Addr) : Sp := fun vs H Q _ => ∃ (p : Addr) (ns : List Int) (st : Option Int), vs = [.ref p] ∧ LetsAt C H p ns st ∧ RetL (ns.map V.int) H Q
def spStart (C : Addr) : Sp := fun vs H Q _ => ∃ (p : Addr) (ns : List Int) (st : Option Int), vs = [.ref p] ∧ LetsAt C H p ns st ∧ RetV (stV st) H Q
def spIn (K : PySem.W.Frag) (C : Addr) : Sp := fun vs H Q _ => ∃ (p : Addr) (ns : List Int) (st : Option Int) (v : V), vs = [.ref p, v] ∧ LetsAt C H p ns st ∧
  ((∃ x : Int, v = .int x ∧ RetV (.bl (memB ns st x)) H Q) ∨
    ∃ (t : Value) (a b : Bool), (∀ H1, Ex H H1 → TyX K H1 v t) ∧ PySem.W.kitOne K t (.type "int") = some a ∧ PySem.W.kitOne K t (.type "bool") = some b ∧ (a && !b) = false ∧ RetV (.bl false) H Q)
def spEq (K : PySem.W.Frag) (C : Addr) : Sp := fun vs H Q _ => ∃ (p : Addr) (ns : List Int) (st : Option Int) (v : V), vs = [.ref p, v] ∧ LetsAt C H p ns st ∧
  ((∃ (p2 : Addr) (ms : List Int) (su : Option Int), v = .ref p2 ∧ LetsAt C H p2 ms su ∧ RetV (.bl (decide (ns = ms) && decide (st = su))) H Q) ∨
    ∃ t : Value, (∀ H1, Ex H H1 → TyX K H1 v t) ∧ PySem.W.kitOne K t (.ref C) = some false ∧ RetV (.bl false) H Q)
theorem sq_hid {K : PySem.W.Frag} {H : Hp} {p a C dx : Addr} {fs : List (Str × V)} {xs : List V} (h : SqL K H a xs) (hp : H p = some (.ins C dx fs)) : SqL K (hid H p) a xs := by
  rcases h with (h | ⟨o, h⟩) | h
  · have n : a ≠ p := ne_of h hp (by intro z; cases z)
    exact .inl (.inl (by rw [hid_ne n]; exact h))
  · have n : a ≠ p := ne_of h hp (by intro z; cases z)
    exact .inl (.inr ⟨o, by rw [hid_ne n]; exact h⟩)
  · exact .inr h
section
variable {K : PySem.W.Frag} {σ : L2.St} {H : Hp} {ta tb te : TE}
theorem ev_isCl {v : V} {t : Value} {C : Addr} {b : Bool} (h : Ev te σ H v) (ty : ∀ H1, Ex H H1 → TyX K H1 v t) (hk : PySem.W.kitOne K t (.ref C) = some b) : Ev (tCB (rIsAny K) (tCons te (tCons (tC (.ref C)) tNil))) σ H (.bl b) := fun H1 e Q q =>
  h H1 e _ fun H2 e2 => .inl ⟨v, .ref C, _, _, b, rfl, .own C, ty H2 (e.trans e2), hk, q H2 e2⟩
theorem ins_ty {C a dx : Addr} {fs : List (Str × V)} (c : C8.InsC K C) (h : H a = some (.ins C dx fs)) : ∀ H1, Ex H H1 → TyX K H1 (.ref a) (.ref C) := fun H1 e => .base (.ins (e _ _ h) c.cl c.ha c.hn c.htk c.hm)
end
theorem eqv_st (a b : Option Int) : PyData.eqv (stD a) (stD b) = decide (a = b) := by
  cases a with
  | none =>
    cases b with
    | none => rfl
    | some t => rfl
  | some s =>
    cases b with
    | none => rfl
    | some t =>
      show (s == t) = decide (some s = some t)
      rw [Bool.eq_iff_iff, beq_iff_eq, decide_eq_true_eq]
      exact ⟨fun h => by rw [h], fun h => Option.some.inj h⟩
theorem st_flat (a : Option Int) : (stD a).hasDict = false ∧ SeqAt.shaped (stD a) = true := by
  cases a <;> exact ⟨rfl, rfl⟩
section
variable {P : Program} {w : World} {K : PySem.W.Frag} {mg : Str → Option Value} {base : Heap}
theorem ok_settle (T : Tx K mg) : FnOk P w K mg base CX0 1 T.am_Letssettle T.fd_Letssettle P_Letssettle (spSettle K T.a_Lets) := by
  refine fun_v T.F_Letssettle sc_Letssettle (fun vs H Q E h => ?_) (fun cdv A outer s H vs Q E hr h => ?_)
  · obtain ⟨p, a, dx, ns, st, rfl, _⟩ := h
    rfl
  · obtain ⟨p, a, dx, ns, st, rfl, hp, hs, told, q⟩ := h
    refine ⟨_, (pss_cons (ps_setDc (own := [("number", 5)]) (i := 3) rfl nd_Letssettle rfl rfl (sw_dict rfl rfl rfl (by decide +kernel)) (k_pil (K := K) rfl (pv 1)) (blkOk_by (N := N_Letssettle) (sc := (defScope s_Letssettle)) (by decide +kernel)) (fun _ _ _ _ _ => pg_name (i := 5) nd_Letssettle rfl (.inl rfl)) (fun _ _ _ _ _ => pts_nil) (fun _ _ _ _ _ => (pv 5)) (fun _ _ _ _ _ => pe_bl))
      (pss_cons (ps_set (i := 4) nd_Letssettle rfl (.inr rfl) (pv 2))
      (pss_cons (ps_while PassesOwn.never (PW.pt (pw_and (pt_cmpR c_notN (pv 4) pe_non (nomark _)) (pw_and1 (pt_cmp (pc_din (hu_of hr) (pe_op op_sub (pv 4) pe_int) (pv 3)))))) (pss_one (ps_aug (i := 4) nd_Letssettle rfl (.inr rfl) pe_int ip_sub)))
      (pss_cons (ps_fld (pv 0) (pv 4) rfl)
      (pss_cons (ps_fld (pv 0) (pe_callB (k_sorted (K := K) rfl) (by rfl) T.m_sorted (by decide +kernel) (pa_cons (pe_lock (pe_lc (own := [("number", 5)]) rfl nd_Letssettle (pi_keys (pv 3)) (blkOk_by (N := N_Letssettle) (sc := (defScope s_Letssettle)) (by decide +kernel)) (fun _ _ _ _ _ => pg_name (i := 5) nd_Letssettle rfl (.inl rfl)) (fun _ _ _ _ _ => pts_one (PW.pt (pw_or (pt_cmpR c_isN (pv 4) pe_non (nomark _)) (pw_or1 (pt_cmpR op_lt (pv 5) (pv 4) (nomark _)))))) (fun _ _ _ _ _ => (pv 5)))) pa_nil)) rfl)
      (pss_one (ps_fld (pv 0) (pe_dc (own := [("number", 5)]) rfl nd_Letssettle (k_pil (K := K) rfl (k_fld (K := K) rfl (pv 0) rfl)) (blkOk_by (N := N_Letssettle) (sc := (defScope s_Letssettle)) (by decide +kernel)) (fun _ _ _ _ _ => pg_name (i := 5) nd_Letssettle rfl (.inl rfl)) (fun _ _ _ _ _ => pts_nil) (fun _ _ _ _ _ => (pv 5)) (fun _ _ _ _ _ => pe_bl)) rfl))))))), ?_⟩
    have pos : ∀ x ∈ ns, 1 ≤ x := fun x hx => (told.pos x hx).1
    apply q_asgK (kvs := trueK (dd ns))
    · exact ek_true (ev_var rfl) hs (by have := told.len; omega) (by show 5 < 6; decide) (fun x => rfl)
    intro t H1 nt e1 ht
    apply q_asg (v := stV st)
    · exact ev_var rfl
    intro H2 e2
    refine q_while (fun m σ' H' => ∃ lo : Option Int, σ' = [some (.ref p), some (.ref a), some (stV st), some (.ref t), some (stV lo), none] ∧ Ex H1 H' ∧
      ((lo = none ∧ st = none) ∨ ∃ l s : Int, lo = some l ∧ st = some s ∧ 1 ≤ l ∧ m = l.toNat ∧ lowI ns l.toNat l = lowI ns s.toNat s)) (match st with | none => 0 | some s => s.toNat) ?_ ?_
    · refine ⟨st, rfl, e2, ?_⟩
      cases st with
      | none => exact .inl ⟨rfl, rfl⟩
      | some s => exact .inr ⟨s, s, rfl, rfl, (told.st1 s rfl).1, rfl, rfl⟩
    · rintro m σ' H' ⟨lo, rfl, e3, hlo⟩
      have ht3 := e3 _ _ ht
      refine ⟨(match lo with | none => false | some l => decide (l - 1 ∈ dd ns)), ?_, fun hb H4 e4 => ?_, fun hb H4 e4 => ?_⟩
      · rcases hlo with ⟨rfl, rfl⟩ | ⟨l, s, rfl, rfl, l1, rfl, hl⟩
        · have z : EvT (tTest (tOp rNotNone (tVar 4) (tC .non))) [some (.ref p), some (.ref a), some (stV none), some (.ref t), some (stV none), none] H' false := et_test (ev_is (ev_notN (x := .non) (ev_var rfl)) rfl)
          exact et_is (a := false && false) (et_and z fun h => by cases h) rfl
        · have z : EvT (tTest (tOp rNotNone (tVar 4) (tC .non))) [some (.ref p), some (.ref a), some (stV (some s)), some (.ref t), some (stV (some l)), none] H' true := et_test (ev_is (ev_notN (x := .int l) (ev_var rfl)) rfl)
          refine et_is (a := true && decide (l - 1 ∈ dd ns)) (et_and z fun _ => et_B (ev_dinT (n := l - 1) ?_ (ev_var rfl) ht3)) (Bool.true_and _)
          exact ev_op (ev_var rfl) ev_c rv_I0
      · rcases hlo with ⟨rfl, rfl⟩ | ⟨l, s, rfl, rfl, l1, rfl, hl⟩
        · cases hb
        · have hm := of_decide_eq_true hb
          have hm2 := dd_mem.mp hm
          have l2 := pos _ hm2
          refine ⟨fun σ2 H2 => ∃ lo : Option Int, σ2 = [some (.ref p), some (.ref a), some (stV (some s)), some (.ref t), some (stV lo), none] ∧ Ex H1 H2 ∧ lo = some (l - 1), ?_, ?_⟩
          · rintro σ2 H2 ⟨lo, rfl, e5, rfl⟩
            refine ⟨(l - 1).toNat, by omega, some (l - 1), rfl, e5, .inr ⟨l - 1, s, rfl, rfl, l2, rfl, ?_⟩⟩
            rw [← hl]
            have ek : l.toNat = (l - 1).toNat + 1 := by omega
            rw [ek]
            show _ = (if l - 1 ∈ ns then lowI ns (l - 1).toNat (l - 1) else l)
            rw [if_pos hm2]
          · refine s_aug (f := fun x y => x - y) (a := l) (b := 1) rfl ev_c fun H5 e5 => ?_
            exact ⟨some (l - 1), rfl, (e3.trans e4).trans e5, rfl⟩
      · have elo : lo = formS ns st := by
          rcases hlo with ⟨rfl, rfl⟩ | ⟨l, s, rfl, rfl, l1, rfl, hl⟩
          · rfl
          · have hm := of_decide_eq_false hb
            show some l = some (lowI ns s.toNat s)
            rw [← hl]
            congr 1
            have ek : l.toNat = (l - 1).toNat + 1 := by omega
            rw [ek]
            show l = (if l - 1 ∈ ns then lowI ns (l - 1).toNat (l - 1) else l)
            rw [if_neg (fun z => hm (dd_mem.mpr z))]
        have e14 : Ex H H4 := (e1.trans e3).trans e4
        have hp4 := e14 _ _ hp
        have ht4 := e4 _ _ ht3
        have tp : t ≠ p := by
          rintro rfl
          rw [nt] at hp
          cases hp
        refine ⟨stV lo, rfl, .ref p, rfl, p, T.a_Lets, dx, [], rfl, hp4, T.cl_Lets, T.na_Lets__start, by decide, ?_⟩
        have hpA : (upd H4 p (.ins T.a_Lets dx [(kS, stV lo)])) p = some (.ins T.a_Lets dx [(kS, stV lo)]) := upd_same
        have htA : (upd H4 p (.ins T.a_Lets dx [(kS, stV lo)])) t = some (.dK (trueK (dd ns))) := by rw [upd_ne tp]; exact ht4
        have eA : Ex (hid H p) (upd H4 p (.ins T.a_Lets dx [(kS, stV lo)])) := (hid_ex.trans e14).mut hid_same
        show (tSeq _ _) _ _ (upd H4 p (.ins T.a_Lets dx [(kS, stV lo)]))
        generalize upd H4 p (.ins T.a_Lets dx [(kS, stV lo)]) = HA at hpA htA eA ⊢
        refine (el_sortN (el_keys (ks := dd ns) (d := t) (j := 5) (belowB lo) rfl htA (by have := dd_len ns; have := told.len; omega) (by show 5 < 6; decide) (fun x => rfl) ?_)) HA (Ex.refl _) _ fun nn HB nn0 eB hnn => ?_
        · intro n Hx hn
          cases lo with
          | none =>
            have z : EvT (tTest (tOp rIsNone (tVar 4) (tC .non))) ([some (.ref p), some (.ref a), some (stV st), some (.ref t), some (stV none), some (.int n)]) Hx true := et_test (ev_is (ev_isN (x := .non) (ev_var rfl)) rfl)
            exact et_is (a := true || true) (et_or z fun h => by cases h) rfl
          | some l =>
            have z : EvT (tTest (tOp rIsNone (tVar 4) (tC .non))) ([some (.ref p), some (.ref a), some (stV st), some (.ref t), some (stV (some l)), some (.int n)]) Hx false := et_test (ev_is (ev_isN (x := .int l) (ev_var rfl)) rfl)
            refine et_is (a := false || decide (n < l)) (et_or z fun _ => et_test (ev_op (ev_var rfl) (ev_var rfl) rv_I0)) (Bool.false_or _)
        have hpB := eB _ _ hpA
        refine ⟨.ref p, rfl, p, T.a_Lets, dx, _, rfl, hpB, T.cl_Lets, T.na_Lets__numbers, (by show 1 < 1000; decide), ?_⟩
        have np : nn ≠ p := by
          rintro rfl
          rw [nn0] at hpA
          cases hpA
        have fe : putF kN (.ref nn) [(kS, stV lo)] = [(kS, stV lo), (kN, .ref nn)] := pf2 _ _
        have hpC : (upd HB p (.ins T.a_Lets dx [(kS, stV lo), (kN, .ref nn)])) p = some (.ins T.a_Lets dx [(kS, stV lo), (kN, .ref nn)]) := upd_same
        have hnC : (upd HB p (.ins T.a_Lets dx [(kS, stV lo), (kN, .ref nn)])) nn = some (.lst ((formN ns st).map V.int)) := by
          rw [upd_ne np]
          unfold formN
          rw [← elo]
          exact hnn
        have eC : Ex (hid H p) (upd HB p (.ins T.a_Lets dx [(kS, stV lo), (kN, .ref nn)])) := (eA.trans eB).mut hid_same
        show (sFld K (tVar 0) (tDc (iList K (tFld K (tVar 0) kN)) (gName 5) tYes (tVar 5) (tC (V.bl true)) [5]) kT) _ _ (upd HB p (.ins T.a_Lets dx (putF kN (.ref nn) [(kS, stV lo)])))
        rw [fe]
        generalize upd HB p (.ins T.a_Lets dx [(kS, stV lo), (kN, .ref nn)]) = HC at hpC hnC eC ⊢
        have lkn : ([(kS, stV lo), (kN, V.ref nn)] : List (Str × V)).lookup kN = some (.ref nn) := by rw [lk_ne kSN, lk_eq]
        refine (ek_true (ns := formN ns st) (a := nn) (j := 5) (ev_fld (ev_var rfl) hpC T.cl_Lets T.na_Lets__numbers lkn) (sq_of hnC) (by have := formN_len ns st; have := told.len; omega) (by show 5 < 6; decide) (fun x => rfl)) HC (Ex.refl _) _ fun tt HD tt0 eD htt => ?_
        have hpD := eD _ _ hpC
        have ttp : tt ≠ p := by
          rintro rfl
          rw [tt0] at hpC
          cases hpC
        have fe2 : putF kT (.ref tt) [(kS, stV lo), (kN, .ref nn)] = [(kS, stV lo), (kN, .ref nn), (kT, .ref tt)] := pf3 _ _ _
        refine ⟨.ref p, rfl, p, T.a_Lets, dx, _, rfl, hpD, T.cl_Lets, T.na_Lets__table, (by show 2 < 1000; decide), ?_⟩
        refine q _ ((eC.trans eD).mut hid_same) ⟨dx, nn, tt, ?_, ?_, ?_, free_of eA nn0, free_of eC tt0⟩
        · rw [upd_same]
          show some (HO.ins T.a_Lets dx (putF kT (.ref tt) [(kS, stV lo), (kN, .ref nn)])) = _
          rw [fe2, elo]
          rfl
        · rw [upd_ne np]
          exact eD _ _ hnC
        · rw [upd_ne ttp, htt, dd_id (formN_nd ns st)]
theorem are_ok {ns : List Int} {st : Option Int} (t : Told ns st) : areD (.list (ns.map .int)) = true := by
  show (decide ((ns.map PyData.int).length ≤ 200) && (ns.map PyData.int).all mayD) = true
  rw [List.length_map, decide_eq_true t.len, Bool.true_and, List.all_map, List.all_eq_true]
  intro x hx
  have := t.pos x hx
  show (true && (decide (1 ≤ x) && decide (x ≤ 1000))) = true
  rw [decide_eq_true this.1, decide_eq_true this.2]
  rfl
theorem may_ok {ns : List Int} {s : Int} (t : Told ns (some s)) : mayD (.int s) = true := by
  have := t.st1 s rfl
  show (true && (decide (1 ≤ s) && decide (s ≤ 1000))) = true
  rw [decide_eq_true this.1, decide_eq_true this.2]
  rfl
theorem MadeAt.go {C : Addr} {H H1 : Hp} {p : Addr} {ns : List Int} {st : Option Int} {Q : VK} (e : Ex H H1) (h : MadeAt C H p ns st Q) : MadeAt C H1 p ns st Q := fun H2 e2 l => h H2 ((hid_mono e).trans e2) (l.less (hid_mono e))
theorem ok_linit (T : Tx K mg) : FnOk P w K mg base (L2.CX P w) 4 T.am_Lets_init T.fd_Lets_init P_Lets_init (spSettle K T.a_Lets) := by
  have c_are_numbers := ok_are (P := P) (w := w) (base := base) T
  have c_may_be_told := ok_may (P := P) (w := w) (base := base) T
  have c_Letssettle := ok_settle (P := P) (w := w) (base := base) T
  have c_InvalidList_init := ok_initL (P := P) (w := w) (base := base) T
  have c_InvalidNumber_init := ok_initN (P := P) (w := w) (base := base) T
  refine fun_vX T.F_Lets_init sc_Lets_init (fun vs H Q E h => ?_) (fun cdv A outer s H vs Q E hr h => ?_)
  · obtain ⟨p, a, dx, ns, st, rfl, _⟩ := h
    rfl
  · obtain ⟨p, a, dx, ns, st, rfl, hp, hs, told, q⟩ := h
    refine ⟨_, (pss_cons (ps_if (pt_not (pt_val (pe_call c_are_numbers (hr.mono (by decide)) (by rfl) T.g_are_numbers T.F_are_numbers.kp T.b_are_numbers .nil pass0 (pa_cons (pv 1) pa_nil)))) (pss_one (ps_raise rfl (takes_of rfl rfl rfl rfl) (pmk_oex T.x_InvalidList T.i_InvalidList T.t_InvalidList c_InvalidList_init (hr.mono (by decide)) T.bi_InvalidList .nil pass0 (by rfl) T.g_InvalidList (pa_cons (pv 1) pa_nil)))) pss_nil)
      (pss_cons (ps_if (PW.pt (pw_and (pt_cmpR c_notN (pv 2) pe_non (nomark _)) (pw_and1 (pt_not (pt_val (pe_call c_may_be_told (hr.mono (by decide)) (by rfl) T.g_may_be_told T.F_may_be_told.kp T.b_may_be_told .nil pass0 (pa_cons (pv 2) pa_nil))))))) (pss_one (ps_raise rfl (takes_of rfl rfl rfl rfl) (pmk_oex T.x_InvalidNumber T.i_InvalidNumber T.t_InvalidNumber c_InvalidNumber_init (hr.mono (by decide)) T.bi_InvalidNumber .nil pass0 (by rfl) T.g_InvalidNumber (pa_cons (pv 2) pa_nil)))) pss_nil)
      (pss_one (ps_expr (pe_meth (pv 0) T.cl_Lets T.me_Letssettle c_Letssettle (hr.mono (by decide)) T.b_Letssettle .nil pass0 (pa_cons (pv 1) (pa_cons (pv 2) pa_nil))))))), ?_⟩
    apply q_when (b := false)
    · exact et_is (et_not (et_B (ev_tell (ed_of (ev_var rfl) (.lst hs (rpInts ns)))))) (by rw [are_ok told]; rfl)
    · intro z; cases z
    intro _ H1 e1
    apply q_when (b := false)
    · cases st with
      | none =>
        have z : EvT (tTest (tOp rNotNone (tVar 2) (tC .non))) [some (.ref p), some (.ref a), some (stV none)] H1 false := et_test (ev_is (ev_notN (x := .non) (ev_var rfl)) rfl)
        exact et_is (a := false && false) (et_and z fun h => by cases h) rfl
      | some s =>
        have z : EvT (tTest (tOp rNotNone (tVar 2) (tC .non))) [some (.ref p), some (.ref a), some (stV (some s))] H1 true := et_test (ev_is (ev_notN (x := .int s) (ev_var rfl)) rfl)
        refine et_is (a := true && !mayD (.int s)) (et_and z fun _ => et_not (et_B (ev_tell (ed_int (ev_var rfl))))) ?_
        rw [may_ok told]; rfl
    · intro z; cases z
    intro _ H2 e2
    have e12 := e1.trans e2
    refine ⟨.ref p, rfl, p, dx, [], rfl, e12 _ _ hp, rfl, .ref a, rfl, stV st, rfl, p, a, dx, ns, st, rfl, e12 _ _ hp, ex_l e12 hs, told, q.go e12⟩
theorem ok_nums (T : Tx K mg) : FnOk P w K mg base CX0 1 T.am_Lets_numbers T.fd_Lets_numbers P_Lets_numbers (spNums T.a_Lets) := by
  refine fun_v T.F_Lets_numbers sc_Lets_numbers (fun vs H Q E h => ?_) (fun cdv A outer s H vs Q E hr h => ?_)
  · obtain ⟨p, ns, st, rfl, _⟩ := h
    rfl
  · obtain ⟨p, ns, st, rfl, ⟨dx, nn, tt, h1, h2, h3⟩, q⟩ := h
    refine ⟨_, (pss_one (ps_ret (pe_callTy (k_list (K := K) rfl) (by rfl) T.m_list (by decide +kernel) (pa_cons (k_fld (K := K) rfl (pv 0) rfl) pa_nil)))), ?_⟩
    apply s_retL
    · exact el_list (ev_fld (ev_var rfl) h1 T.cl_Lets T.na_Lets__numbers (lf_nn _ _ _)) (sq_of h2)
    · exact fun p2 H2 n2 e2 hp2 => q p2 H2 n2 e2 hp2
theorem ok_start (T : Tx K mg) : FnOk P w K mg base CX0 1 T.am_Lets_start T.fd_Lets_start P_Lets_start (spStart T.a_Lets) := by
  refine fun_v T.F_Lets_start sc_Lets_start (fun vs H Q E h => ?_) (fun cdv A outer s H vs Q E hr h => ?_)
  · obtain ⟨p, ns, st, rfl, _⟩ := h
    rfl
  · obtain ⟨p, ns, st, rfl, ⟨dx, nn, tt, h1, h2, h3⟩, q⟩ := h
    refine ⟨_, (pss_one (ps_ret (k_fld (K := K) rfl (pv 0) rfl))), ?_⟩
    apply s_ret
    · exact ev_fld (ev_var rfl) h1 T.cl_Lets T.na_Lets__start (lf_st _ _ _)
    · exact fun H2 e2 => q H2 e2
theorem ok_in (T : Tx K mg) : FnOk P w K mg base CX0 2 T.am_Lets_contains T.fd_Lets_contains P_Lets_contains (spIn K T.a_Lets) := by
  have c_is_whole := ok_whole (P := P) (w := w) (base := base) T
  refine fun_v T.F_Lets_contains sc_Lets_contains (fun vs H Q E h => ?_) (fun cdv A outer s H vs Q E hr h => ?_)
  · obtain ⟨p, ns, st, v, rfl, _⟩ := h
    rfl
  · obtain ⟨p, ns, st, v, rfl, ⟨dx, nn, tt, h1, h2, h3⟩, hc⟩ := h
    refine ⟨_, (pss_cons (ps_if (pt_not (pt_val (pe_call c_is_whole (hr.mono (by decide)) (by rfl) T.g_is_whole T.F_is_whole.kp T.b_is_whole .nil pass0 (pa_cons (pv 1) pa_nil)))) (pss_one (ps_ret pe_bl)) pss_nil)
      (pss_cons (ps_if (PW.pt (pw_and (pt_cmpR c_notN (k_fld (K := K) rfl (pv 0) rfl) pe_non (nomark _)) (pw_and1 (pt_cmpR op_ge (pv 1) (k_fld (K := K) rfl (pv 0) rfl) (nomark _))))) (pss_one (ps_ret pe_bl)) pss_nil)
      (pss_one (ps_ret (pe_cmp (pc_din (hu_of hr) (pv 1) (k_fld (K := K) rfl (pv 0) rfl))))))), ?_⟩
    rcases hc with ⟨x, rfl, q⟩ | ⟨t, a, b, ty, k1, k2, hab, q⟩
    · apply q_when (b := false)
      · exact et_is (et_not (et_B (ev_own (v := .bl true) (ea_cons (ev_var rfl) ea_nil) fun H1 e1 Q2 q2 => go_whole (.int x) q2))) rfl
      · intro z; cases z
      intro _ H1 e1
      have g1 := e1 _ _ h1
      cases st with
      | none =>
        apply q_when (b := false)
        · have z : EvT (tTest (tOp rNotNone (tFld K (tVar 0) kS) (tC .non))) [some (.ref p), some (.int x)] H1 false := et_test (ev_is (ev_notN (x := .non) (ev_fld (ev_var rfl) g1 T.cl_Lets T.na_Lets__start (lf_st _ _ _))) rfl)
          exact et_is (a := false && false) (et_and z fun h => by cases h) rfl
        · intro z; cases z
        intro _ H2 e2
        apply s_ret (v := .bl (decide (x ∈ ns)))
        · exact ev_dinT (ev_var rfl) (ev_fld (ev_var rfl) (e2 _ _ g1) T.cl_Lets T.na_Lets__table (lf_tt _ _ _)) (e2 _ _ (e1 _ _ h3))
        · intro H3 e3
          have z := q H3 ((e1.trans e2).trans e3)
          unfold memB at z
          rw [Bool.or_false] at z
          exact z
      | some s =>
        apply q_when (b := decide (s ≤ x))
        · have z : EvT (tTest (tOp rNotNone (tFld K (tVar 0) kS) (tC .non))) [some (.ref p), some (.int x)] H1 true := et_test (ev_is (ev_notN (x := .int s) (ev_fld (ev_var rfl) g1 T.cl_Lets T.na_Lets__start (lf_st _ _ _))) rfl)
          refine et_is (a := true && decide (s ≤ x)) (et_and z fun _ => et_test (ev_op (ev_var rfl) (ev_fld (x := .int s) (ev_var rfl) g1 T.cl_Lets T.na_Lets__start (lf_st _ _ _)) rv_I0)) (Bool.true_and _)
        · intro hb H2 e2
          apply s_ret
          · exact ev_c
          · intro H3 e3
            have z := q H3 ((e1.trans e2).trans e3)
            unfold memB at z
            have hb2 : decide (s ≤ x) = true := hb
            simp only [hb2, Bool.or_true] at z
            exact z
        intro hb H2 e2
        apply s_ret (v := .bl (decide (x ∈ ns)))
        · exact ev_dinT (ev_var rfl) (ev_fld (ev_var rfl) (e2 _ _ g1) T.cl_Lets T.na_Lets__table (lf_tt _ _ _)) (e2 _ _ (e1 _ _ h3))
        · intro H3 e3
          have z := q H3 ((e1.trans e2).trans e3)
          unfold memB at z
          have hb2 : decide (s ≤ x) = false := hb
          simp only [hb2, Bool.or_false] at z
          exact z
    · apply q_when (b := true)
      · refine et_is (et_not (et_B (ev_own (v := .bl (a && !b)) (ea_cons (ev_var rfl) ea_nil) fun H1 e1 Q2 q2 => ⟨v, t, a, b, rfl, fun H2 e2 => ty H2 (e1.trans e2), k1, k2, q2⟩))) ?_
        rw [hab]; rfl
      · intro _ H1 e1
        apply s_ret
        · exact ev_c
        · exact fun H2 e2 => q H2 (e1.trans e2)
      · intro z; cases z
theorem ok_eq (T : Tx K mg) : FnOk P w K mg base CX0 1 T.am_Lets_eq T.fd_Lets_eq P_Lets_eq (spEq K T.a_Lets) := by
  refine fun_v T.F_Lets_eq sc_Lets_eq (fun vs H Q E h => ?_) (fun cdv A outer s H vs Q E hr h => ?_)
  · obtain ⟨p, ns, st, v, rfl, _⟩ := h
    rfl
  · obtain ⟨p, ns, st, v, rfl, ⟨dx, nn, tt, h1, h2, h3⟩, hc⟩ := h
    refine ⟨_, (pss_cons (ps_if (pt_not (pt_val (pe_callB (k_isi (K := K) rfl) (by rfl) T.m_isinstance (by decide +kernel) (pa_cons (pv 1) (pa_cons (pe_glob (by rfl) T.g_Lets (show RelV (.ref T.a_Lets) (.ref T.a_Lets) from rfl)) pa_nil))))) (pss_one (ps_ret pe_bl)) pss_nil)
      (pss_one (ps_ret (pe_and (pe_cmpR (k_eq (K := K) rfl hr.units) (k_fld (K := K) rfl (pv 0) rfl) (k_fld (K := K) rfl (pv 1) rfl) (nomark _)) (pe_one (pe_cmpR (k_eq (K := K) rfl hr.units) (k_fld (K := K) rfl (pv 0) rfl) (k_fld (K := K) rfl (pv 1) rfl) (nomark _))))))), ?_⟩
    rcases hc with ⟨p2, ms, su, rfl, ⟨dy, mm, uu, g1, g2, g3⟩, q⟩ | ⟨t, ty, k1, q⟩
    · apply q_when (b := false)
      · exact et_is (et_not (et_B (ev_isCl (ev_var rfl) (ins_ty T.ins_Lets g1) T.ins_Lets.me))) rfl
      · intro z; cases z
      intro _ H1 e1
      apply s_ret (v := .bl (decide (ns = ms) && decide (st = su)))
      · apply ev_andV
        · refine ev_is (ev_eqD (K := K) (d := .list (ns.map .int)) (e := .list (ms.map .int)) (ed_of (ev_fld (ev_var rfl) (e1 _ _ h1) T.cl_Lets T.na_Lets__numbers (lf_nn _ _ _)) (.lst (sq_of (e1 _ _ h2)) (rpInts ns))) (ed_of (ev_fld (ev_var rfl) (e1 _ _ g1) T.cl_Lets T.na_Lets__numbers (lf_nn _ _ _)) (.lst (sq_of (e1 _ _ g2)) (rpInts ms))) (nodict_ints _) (nodict_ints _) (shaped_ints _) (shaped_ints _)) ?_
          rw [eqv_ints]
        · intro _
          refine ev_is (ev_eqD (K := K) (d := stD st) (e := stD su) (ed_of (ev_fld (ev_var rfl) (e1 _ _ h1) T.cl_Lets T.na_Lets__start (lf_st _ _ _)) (stRp st)) (ed_of (ev_fld (ev_var rfl) (e1 _ _ g1) T.cl_Lets T.na_Lets__start (lf_st _ _ _)) (stRp su)) (st_flat _).1 (st_flat _).1 (st_flat _).2 (st_flat _).2) ?_
          rw [eqv_st]
      · exact fun H2 e2 => q H2 (e1.trans e2)
    · apply q_when (b := true)
      · exact et_is (et_not (et_B (ev_isCl (ev_var rfl) ty k1))) rfl
      · intro _ H1 e1
        apply s_ret
        · exact ev_c
        · exact fun H2 e2 => q H2 (e1.trans e2)
      · intro z; cases z
end
/-! ### a new set -/
def EvLets (C : Addr) (te : TE) (σ : L2.St) (H : Hp) (ns : List Int) (st : Option Int) : Prop := ∀ H1, Ex H H1 → ∀ Q : VK, (∀ p H2, H1 p = none → Ex H1 H2 → LetsN C H1 H2 p ns st → Q (.ref p) H2) → te σ H1 Q
section
variable {K : PySem.W.Frag} {σ : L2.St} {H : Hp} {ta tb te : TE} {C : Addr} {E : XK} {ns : List Int} {st : Option Int}
theorem go_make {a : Addr} {H3 : Hp} {Q : VK} (hs : SqL K H3 a (ns.map V.int)) (told : Told ns st) (q : ∀ p H2, H3 p = none → Ex H3 H2 → LetsN C H3 H2 p (formN ns st) (formS ns st) → Q (.ref p) H2) :
    ∀ x dx, H3 x = none → H3 dx = none → dx ≠ x → spSettle K C [.ref x, .ref a, stV st] (upd (upd H3 dx (.own x)) x (.ins C dx [])) (fun v H2 => v = .non ∧ Q (.ref x) H2) E := fun x dx nx ndx ne => by
  have e : Ex H3 (upd (upd H3 dx (.own x)) x (.ins C dx [])) := (Ex.new ndx).mut nx
  have ee : Ex H3 (hid (upd (upd H3 dx (.own x)) x (.ins C dx [])) x) := hid_new nx e
  refine ⟨x, a, dx, ns, st, rfl, upd_same, ex_l e hs, told, fun H4 e4 hl => ⟨rfl, q x H4 nx (ee.trans e4) (hl.less ee)⟩⟩
theorem el_make {a : Addr} (ha : Ev ta σ H (.ref a)) (hs : SqL K H a (ns.map V.int)) (hb : Ev tb σ H (stV st)) (told : Told ns st) : EvLets C (tMake C (spSettle K C) [] E (tCons ta (tCons tb tNil))) σ H (formN ns st) (formS ns st) := fun H1 e Q q =>
  ha H1 e _ fun H2 e2 => hb H2 (e.trans e2) _ fun H3 e3 => go_make (ex_l ((e.trans e2).trans e3) hs) told fun p H4 np e4 hl => q p H4 (free_of (e2.trans e3) np) ((e2.trans e3).trans e4) (hl.less (e2.trans e3))
/-- of a new list -/
theorem el_makeN (ha : EvL ta σ H (ns.map V.int)) (hb : Ev tb σ H (stV st)) (told : Told ns st) : EvLets C (tMake C (spSettle K C) [] E (tCons ta (tCons tb tNil))) σ H (formN ns st) (formS ns st) := fun H1 e Q q =>
  ha H1 e _ fun a H2 na e2 h2 => hb H2 (e.trans e2) _ fun H3 e3 => go_make (sq_of (e3 _ _ h2)) told fun p H4 np e4 hl => q p H4 (free_of (e2.trans e3) np) ((e2.trans e3).trans e4) (hl.less (e2.trans e3))
theorem el_makeN0 (ha : EvL ta σ H (ns.map V.int)) (told : Told ns none) : EvLets C (tMake C (spSettle K C) [.non] E (tCons ta tNil)) σ H (formN ns none) none := fun H1 e Q q =>
  ha H1 e _ fun a H2 na e2 h2 => go_make (st := none) (sq_of h2) told fun p H4 np e4 hl => q p H4 (free_of e2 np) (e2.trans e4) (hl.less e2)
theorem el_makeK {a : Addr} (ha : Ev ta σ H (.ref a)) (hs : SqL K H a (ns.map V.int)) (hb : Ev tb σ H (stV st)) (told : Told ns st) :
    EvLets C (tMakeK C 0 2 (spSettle K C) (fun us ws => us ++ ws) E tNil (tCons ta (tCons tb tNil))) σ H (formN ns st) (formS ns st) := fun H1 e Q q =>
  ha H1 e _ fun H2 e2 => hb H2 (e.trans e2) _ fun H3 e3 => ⟨rfl, rfl, go_make (ex_l ((e.trans e2).trans e3) hs) told fun p H4 np e4 hl => q p H4 (free_of (e2.trans e3) np) ((e2.trans e3).trans e4) (hl.less (e2.trans e3))⟩
theorem el_nums {p : Addr} (ha : Ev ta σ H (.ref p)) (h : LetsAt C H p ns st) : EvL (tMeth C "numbers" (spNums C) [] E ta tNil) σ H (ns.map V.int) := fun H1 e Q q =>
  ha H1 e _ fun H2 e2 => by
    have h2 := h.mono (e.trans e2)
    obtain ⟨dx, nn, tt, g1, g2, g3⟩ := id h2
    exact ⟨p, dx, _, rfl, g1, lf_no (by decide +kernel) (by decide +kernel) (by decide +kernel) _ _ _, p, ns, st, rfl, h2, fun p2 H3 n3 e3 h3 => q p2 H3 (free_of e2 n3) (e2.trans e3) h3⟩
theorem el_numsN (ha : EvLets C ta σ H ns st) : EvL (tMeth C "numbers" (spNums C) [] E ta tNil) σ H (ns.map V.int) := fun H1 e Q q =>
  ha H1 e _ fun p H2 np e2 h2' => by
    have h2 := h2'.at
    obtain ⟨dx, nn, tt, g1, g2, g3⟩ := id h2
    exact ⟨p, dx, _, rfl, g1, lf_no (by decide +kernel) (by decide +kernel) (by decide +kernel) _ _ _, p, ns, st, rfl, h2, fun p2 H3 n3 e3 h3 => q p2 H3 (free_of e2 n3) (e2.trans e3) h3⟩
theorem ev_start {p : Addr} (ha : Ev ta σ H (.ref p)) (h : LetsAt C H p ns st) : Ev (tMeth C "start" (spStart C) [] E ta tNil) σ H (stV st) := fun H1 e Q q =>
  ha H1 e _ fun H2 e2 => by
    have h2 := h.mono (e.trans e2)
    obtain ⟨dx, nn, tt, g1, g2, g3⟩ := id h2
    exact ⟨p, dx, _, rfl, g1, lf_no (by decide +kernel) (by decide +kernel) (by decide +kernel) _ _ _, p, ns, st, rfl, h2, fun H3 e3 => q H3 (e2.trans e3)⟩
theorem ev_startN (ha : EvLets C ta σ H ns st) : Ev (tMeth C "start" (spStart C) [] E ta tNil) σ H (stV st) := fun H1 e Q q =>
  ha H1 e _ fun p H2 np e2 h2' => by
    have h2 := h2'.at
    obtain ⟨dx, nn, tt, g1, g2, g3⟩ := id h2
    exact ⟨p, dx, _, rfl, g1, lf_no (by decide +kernel) (by decide +kernel) (by decide +kernel) _ _ _, p, ns, st, rfl, h2, fun H3 e3 => q H3 (e2.trans e3)⟩
/-- n in lets -/
theorem ev_inI {p : Addr} {x : Int} (ha : Ev ta σ H (.int x)) (hb : Ev tb σ H (.ref p)) (h : LetsAt C H p ns st) : Ev (tOp (rInOwn C (spIn K C) E) ta tb) σ H (.bl (memB ns st x)) := by
  obtain ⟨dx, nn, tt, g1, g2, g3⟩ := id h
  exact ev_inOwn ha hb g1 fun H1 e1 Q q => ⟨p, ns, st, .int x, rfl, h.mono e1, .inl ⟨x, rfl, q⟩⟩
theorem ev_inO {p : Addr} {v : V} {t : Value} {a b : Bool} (ha : Ev ta σ H v) (hb : Ev tb σ H (.ref p)) (h : LetsAt C H p ns st) (ty : ∀ H1, Ex H H1 → TyX K H1 v t) (k1 : PySem.W.kitOne K t (.type "int") = some a) (k2 : PySem.W.kitOne K t (.type "bool") = some b) (hab : (a && !b) = false) :
    Ev (tOp (rInOwn C (spIn K C) E) ta tb) σ H (.bl false) := by
  obtain ⟨dx, nn, tt, g1, g2, g3⟩ := id h
  exact ev_inOwn ha hb g1 fun H1 e1 Q q => ⟨p, ns, st, v, rfl, h.mono e1, .inr ⟨t, a, b, fun H2 e2 => ty H2 (e1.trans e2), k1, k2, hab, q⟩⟩
theorem go_eqL {p p2 : Addr} {ms : List Int} {su : Option Int} {H1 : Hp} {Q : VK} (h : LetsAt C H1 p ns st) (h2 : LetsAt C H1 p2 ms su) (q : RetV (.bl (decide (ns = ms) && decide (st = su))) H1 Q) : spEq K C [.ref p, .ref p2] H1 Q E :=
  ⟨p, ns, st, .ref p2, rfl, h, .inl ⟨p2, ms, su, rfl, h2, q⟩⟩
/-- lets == a new one -/
theorem ev_eqL {p : Addr} {ms : List Int} {su : Option Int} (ic : C8.InsC K C) (ha : Ev ta σ H (.ref p)) (h : LetsAt C H p ns st) (hb : EvLets C tb σ H ms su) : Ev (tOp (rEqOwn K C (spEq K C) E) ta tb) σ H (.bl (decide (ns = ms) && decide (st = su))) := fun H1 e Q q =>
  ha H1 e _ fun H2 e2 => hb H2 (e.trans e2) _ fun p2 H3 n3 e3 h3' => by
    have h3 := h3'.at
    have g := h.mono ((e.trans e2).trans e3)
    obtain ⟨dx, nn, tt, g1, g2, g3⟩ := id g
    obtain ⟨dy, mm, uu, f1, f2, f3⟩ := id h3
    exact ⟨p, dx, _, _, rfl, g1, ins_ty ic f1 H3 (Ex.refl _), notFirst_same, go_eqL g h3 fun H4 e4 => q H4 ((e2.trans e3).trans e4)⟩
/-- a new one == a new one -/
theorem ev_eqNN {ms : List Int} {su : Option Int} (ic : C8.InsC K C) (ha : EvLets C ta σ H ns st) (hb : EvLets C tb σ H ms su) : Ev (tOp (rEqOwn K C (spEq K C) E) ta tb) σ H (.bl (decide (ns = ms) && decide (st = su))) := fun H1 e Q q =>
  ha H1 e _ fun p H2 n2 e2 h2 => hb H2 (e.trans e2) _ fun p2 H3 n3 e3 h3' => by
    have h3 := h3'.at
    have g := h2.at.mono e3
    obtain ⟨dx, nn, tt, g1, g2, g3⟩ := id g
    obtain ⟨dy, mm, uu, f1, f2, f3⟩ := id h3
    exact ⟨p, dx, _, _, rfl, g1, ins_ty ic f1 H3 (Ex.refl _), notFirst_same, go_eqL g h3 fun H4 e4 => q H4 ((e2.trans e3).trans e4)⟩
/-- lets == something else -/
theorem ev_eqO {p : Addr} {v : V} {T : String} (ha : Ev ta σ H (.ref p)) (h : LetsAt C H p ns st) (hb : Ev tb σ H v) (ty : ∀ H1, Ex H H1 → TyX K H1 v (.type T)) (ns1 : PySem.W.subIn K (.type T) (.ref C) = some false) (k : PySem.W.kitOne K (.type T) (.ref C) = some false) :
    Ev (tOp (rEqOwn K C (spEq K C) E) ta tb) σ H (.bl false) := by
  obtain ⟨dx, nn, tt, g1, g2, g3⟩ := id h
  exact ev_eqOwn ha hb g1 ty (notFirst_of ns1) fun H1 e1 Q q => ⟨p, ns, st, v, rfl, h.mono e1, .inr ⟨_, fun H2 e2 => ty H2 (e1.trans e2), k, q⟩⟩
end
end K05


set_option Elab.async false
set_option linter.all false
set_option maxRecDepth 100000
set_option maxHeartbeats 4000000
namespace K05
open PySem PySem.Spec PyProof.Rows L2 Evl GS
theorem snoc_ind {p : List Int → Prop} (h0 : p []) (hs : ∀ l x, p l → p (l ++ [x])) (l : List Int) : p l := by
  have key : ∀ n, p (l.take n) := by
    intro n
    induction n with
    | zero => exact h0
    | succ n ih =>
      rcases Nat.lt_or_ge n l.length with lt | ge
      · rw [take_snoc (List.getElem?_eq_getElem lt)]
        exact hs _ _ ih
      · rw [List.take_of_length_le (by omega)]
        rw [List.take_of_length_le ge] at ih
        exact ih
  have := key l.length
  rwa [List.take_length] at this
theorem lift_lt {x a b : Int} : lift x a < lift x b ↔ a < b := by
  unfold lift
  split <;> split <;> omega
theorem lift_lt_x {x a : Int} : lift x a < x ↔ a < x := by
  unfold lift
  split <;> omega
theorem logOf_snoc (f : List Int) (y : Int) : logOf (f ++ [y]) = logOf f ++ [((f.filter fun o => decide (o < y)).length : Int)] := by
  unfold logOf
  rw [List.length_append, List.length_singleton, List.range_succ, List.map_append]
  congr 1
  · apply List.map_congr_left
    intro i hi
    have hi2 := List.mem_range.mp hi
    rw [List.take_append_of_le_length (by omega)]
    have : (f ++ [y]).getD i 0 = f.getD i 0 := by
      rw [List.getD_eq_getElem?_getD, List.getD_eq_getElem?_getD, List.getElem?_append_left hi2]
    rw [this]
  · show [((((f ++ [y]).take f.length).filter fun o => decide (o < (f ++ [y]).getD f.length 0)).length : Int)] = [_]
    have e1 : (f ++ [y]).take f.length = f := by
      rw [List.take_append_of_le_length (Nat.le_refl _), List.take_length]
    have e2 : (f ++ [y]).getD f.length 0 = y := by
      rw [List.getD_eq_getElem?_getD, List.getElem?_append_right (Nat.le_refl _), Nat.sub_self]
      rfl
    rw [e1, e2]
theorem logOf_len (f : List Int) : (logOf f).length = f.length := by unfold logOf; rw [List.length_map, List.length_range]
theorem logOf_lift (x : Int) (f : List Int) : logOf (f.map (lift x)) = logOf f := by
  induction f using snoc_ind with
  | h0 => rfl
  | hs l y ih =>
    rw [List.map_append, List.map_singleton, logOf_snoc, logOf_snoc, ih]
    congr 3
    rw [List.filter_map, List.length_map]
    congr 1
    apply List.filter_congr
    intro o _
    show decide (lift x o < lift x y) = decide (o < y)
    exact decide_eq_decide.mpr lift_lt
theorem range_count (k : Nat) (x : Int) (h0 : 0 ≤ x) (h1 : x ≤ k) : (((rangeI k).filter fun o => decide (o < x)).length : Int) = x := by
  induction k with
  | zero =>
    show ((0 : Nat) : Int) = x
    omega
  | succ k ih =>
    rw [rangeI_succ, List.filter_append, List.length_append]
    by_cases h : x ≤ k
    · have e : ([(k : Int)].filter fun o => decide (o < x)) = [] := by
        rw [List.filter_cons, if_neg (by rw [decide_eq_true_eq]; omega)]
        rfl
      rw [e]
      have := ih h
      show ((_ + 0 : Nat) : Int) = x
      exact this
    · have ex : x = k + 1 := by omega
      have e : ([(k : Int)].filter fun o => decide (o < x)) = [(k : Int)] := by
        rw [List.filter_cons, if_pos (by rw [decide_eq_true_eq]; omega)]
        rfl
      have e2 : (rangeI k).filter (fun o => decide (o < x)) = rangeI k := by
        apply List.filter_eq_self.mpr
        intro o ho
        have := rangeI_mem.mp ho
        rw [decide_eq_true_eq]; omega
      rw [e, e2, rangeI_len]
      show ((k + 1 : Nat) : Int) = x
      omega
theorem lift_range (x : Int) (h0 : 0 ≤ x) : ∀ k : Nat, x ≤ k → ((rangeI k).map (lift x) ++ [x]).Perm (rangeI (k + 1)) := by
  intro k
  induction k with
  | zero =>
    intro h
    have : x = 0 := by omega
    subst this
    exact .refl _
  | succ k ih =>
    intro h
    by_cases hx : x ≤ k
    · rw [rangeI_succ k, List.map_append, List.map_singleton]
      have e : lift x (k : Int) = ((k + 1 : Nat) : Int) := by
        unfold lift
        rw [if_pos (by omega)]
        rfl
      rw [e, List.append_assoc, rangeI_succ (k + 1)]
      refine (List.Perm.append_left _ (List.Perm.swap _ _ [])).trans ?_
      have z := (ih hx).append_right [((k + 1 : Nat) : Int)]
      rw [List.append_assoc] at z
      exact z
    · have ex : x = ((k + 1 : Nat) : Int) := by omega
      rw [rangeI_succ (k + 1), ex]
      have e : (rangeI (k + 1)).map (lift ((k + 1 : Nat) : Int)) = rangeI (k + 1) := by
        have z : (rangeI (k + 1)).map (lift ((k + 1 : Nat) : Int)) = (rangeI (k + 1)).map id := by
          apply List.map_congr_left
          intro o ho
          have := rangeI_mem.mp ho
          show lift _ o = o
          unfold lift
          rw [if_neg (by omega)]
        rw [z, List.map_id]
      rw [e]
theorem IsLog.init {l : List Int} {x : Int} (h : IsLog (l ++ [x])) : IsLog l ∧ 0 ≤ x ∧ x ≤ l.length := by
  refine ⟨fun i k hk => h i k ?_, h l.length x ?_⟩
  · rw [List.getElem?_append_left (List.getElem?_eq_some_iff.mp hk).1]
    exact hk
  · rw [List.getElem?_append_right (Nat.le_refl _), Nat.sub_self]
    rfl
theorem ordOf_perm (ns : List Int) (h : IsLog ns) : (ordOf ns).Perm (rangeI ns.length) := by
  induction ns using snoc_ind with
  | h0 => exact .refl _
  | hs l x ih =>
    obtain ⟨h1, h2, h3⟩ := h.init
    rw [ordOf_snoc, List.length_append, List.length_singleton]
    exact (((ih h1).map (lift x)).append_right [x]).trans (lift_range x h2 _ h3)
theorem log_ord (ns : List Int) (h : IsLog ns) : logOf (ordOf ns) = ns := by
  induction ns using snoc_ind with
  | h0 => rfl
  | hs l x ih =>
    obtain ⟨h1, h2, h3⟩ := h.init
    rw [ordOf_snoc, logOf_snoc, logOf_lift, ih h1]
    congr 2
    rw [List.filter_map, List.length_map]
    have e : (ordOf l).filter ((fun o => decide (o < x)) ∘ lift x) = (ordOf l).filter (fun o => decide (o < x)) := by
      apply List.filter_congr
      intro o _
      exact decide_eq_decide.mpr lift_lt_x
    rw [e, ((ordOf_perm l h1).filter _).length_eq]
    exact range_count _ x h2 h3
/-! what the checks say of these -/
theorem isCount_ints : ∀ ns : List Int, (ns.map PyData.int).all isCount = decide (∀ x ∈ ns, 0 ≤ x)
  | [] => by simp
  | x :: ns => by
    rw [List.map_cons, List.all_cons, isCount_ints ns]
    show (decide (0 ≤ x) && decide (∀ y ∈ ns, 0 ≤ y)) = decide (∀ y ∈ x :: ns, 0 ≤ y)
    rw [← Bool.decide_and]
    apply decide_eq_decide.mpr
    simp
theorem isRow_of {ns : List Int} (hl : ns.length ≤ 200) (h : ∀ x ∈ ns, 0 ≤ x) : isRow (.list (ns.map .int)) = true := by
  show (decide ((ns.map PyData.int).length ≤ 200) && (ns.map PyData.int).all isCount) = true
  rw [isCount_ints, List.length_map, decide_eq_true hl, decide_eq_true h]
  rfl
theorem intsD_ints (ns : List Int) : intsD (ns.map PyData.int) = ns := by
  unfold intsD
  rw [List.map_map]
  have : (intD ∘ PyData.int) = id := rfl
  rw [this, List.map_id]
theorem isOrder_eq {ns : List Int} (hl : ns.length ≤ 200) (h : ∀ x ∈ ns, 0 ≤ x) : isOrder (.list (ns.map .int)) = decide (isort ns = rangeI ns.length) := by
  show (isRow (.list (ns.map .int)) && decide (isort (intsD (ns.map PyData.int)) = rangeI (ns.map PyData.int).length)) = _
  rw [isRow_of hl h, intsD_ints, List.length_map, Bool.true_and]
theorem isLog_eq {ns : List Int} (hl : ns.length ≤ 200) (h : ∀ x ∈ ns, 0 ≤ x) : isLog (.list (ns.map .int)) = decide (∀ i : Nat, i < ns.length → ns.getD i 0 ≤ i) := by
  show (isRow (.list (ns.map .int)) && (List.range (ns.map PyData.int).length).all fun i => decide (intD ((ns.map PyData.int).getD i .none) ≤ i)) = _
  rw [isRow_of hl h, Bool.true_and, List.length_map]
  have e : ∀ i : Nat, i < ns.length → intD ((ns.map PyData.int).getD i .none) = ns.getD i 0 := by
    intro i hi
    rw [List.getD_eq_getElem?_getD, List.getElem?_map, List.getD_eq_getElem?_getD, List.getElem?_eq_getElem hi]
    rfl
  rw [Bool.eq_iff_iff, List.all_eq_true, decide_eq_true_eq]
  constructor
  · intro z i hi
    have := of_decide_eq_true (z i (List.mem_range.mpr hi))
    rwa [e i hi] at this
  · intro z i hi
    have hi2 := List.mem_range.mp hi
    rw [decide_eq_true_eq, e i hi2]
    exact z i hi2
theorem log_nn {ns : List Int} (h : IsLog ns) : ∀ x ∈ ns, 0 ≤ x := by
  intro x hx
  obtain ⟨i, hi⟩ := List.getElem?_of_mem hx
  exact (h i x hi).1
theorem ord_nn {ns : List Int} (h : IsLog ns) : ∀ x ∈ ordOf ns, 0 ≤ x := by
  intro x hx
  have := rangeI_mem.mp ((ordOf_perm ns h).mem_iff.mp hx)
  omega
theorem log_yes {ns : List Int} (h : IsLog ns) (hl : ns.length ≤ 200) : isLog (.list (ns.map .int)) = true := by
  rw [isLog_eq hl (log_nn h), decide_eq_true_eq]
  intro i hi
  rw [List.getD_eq_getElem?_getD, List.getElem?_eq_getElem hi]
  exact (h i _ (List.getElem?_eq_getElem hi)).2
theorem ord_yes {ns : List Int} (h : IsLog ns) (hl : ns.length ≤ 200) : isOrder (.list ((ordOf ns).map .int)) = true := by
  have e := ordOf_len ns
  rw [isOrder_eq (by omega) (ord_nn h), decide_eq_true_eq, e]
  have p := ordOf_perm ns h
  rw [isort_of_perm p, isort_range]
end K05




set_option Elab.async false
set_option linter.all false
set_option maxRecDepth 100000
set_option maxHeartbeats 4000000
namespace K05
open PySem PySem.Spec PyProof.Rows L2 Evl GS
local macro_rules | `(tactic| walk_at "bits") => `(tactic| first | (refine bits64 ?_; omega) | (apply bitsM; (focus walk_at "bits"); (focus walk_at "bits")))
local macro_rules | `(tactic| walk_at "side") => `(tactic| first
  | (apply CMulX.of; (focus walk_at "bits"); (focus walk_at "bits"); decide)
  | (dsimp only; omega) | assumption | decide)
local macro_rules | `(tactic| walk_at "rv") => `(tactic| first | exact rv_I0 | (apply rv_I; walk_at "side"))
local macro_rules | `(tactic| walk_at "ev") => `(tactic| first
  | exact ev_c
  | exact ev_var rfl
  | (apply ev_op; (focus walk_at "ev"); (focus walk_at "ev"); (focus walk_at "rv"))
  | (apply ev_int1; walk_at "ev")
  | (apply ev_max2; (focus walk_at "ev"); (focus walk_at "ev"))
  | (apply ev_bits; walk_at "ev"))

def mid (a b x : Int) : Bool := (decide (a < x) && decide (x < b)) || (decide (b < x) && decide (x < a))
def leftI (ns : List Int) (i : Nat) : Nat := ((ns.take i).filter (mid (ns.getD i 0) (ns.getD (i + 1) 0))).length
def exch (ns : List Int) (i : Nat) : List Int := ns.take i ++ [ns.getD (i + 1) 0, ns.getD i 0] ++ ns.drop (i + 2)
def spLeft (K : PySem.W.Frag) : Sp := fun vs H Q _ => ∃ (a : Addr) (ns : List Int) (i : Nat), vs = [.ref a, .int i] ∧ SqL K H a (ns.map V.int) ∧ i + 1 < ns.length ∧ ns.length ≤ 200 ∧ RetV (.int (leftI ns i : Nat)) H Q
def spExch (K : PySem.W.Frag) : Sp := fun vs H Q _ => ∃ (a : Addr) (ns : List Int) (i : Nat), vs = [.ref a, .int i] ∧ SqL K H a (ns.map V.int) ∧ i + 1 < ns.length ∧ ns.length ≤ 200 ∧ RetL ((exch ns i).map V.int) H Q
theorem mid_le {a b : Int} (h : a ≤ b) (x : Int) : mid a b x = (decide (a < x) && decide (x < b)) := by
  unfold mid
  by_cases h1 : b < x
  · by_cases h2 : x < a
    · omega
    · rw [decide_eq_false h2, Bool.and_false, Bool.or_false]
  · rw [decide_eq_false h1, Bool.false_and, Bool.or_false]
theorem mid_ge {a b : Int} (h : b ≤ a) (x : Int) : mid a b x = (decide (b < x) && decide (x < a)) := by
  unfold mid
  by_cases h1 : a < x
  · by_cases h2 : x < b
    · omega
    · rw [decide_eq_false h2, Bool.and_false, Bool.false_or]
  · rw [decide_eq_false h1, Bool.false_and, Bool.false_or]
theorem cut_two {ns : List Int} {i : Nat} (h : i + 1 < ns.length) : cutV (ns.map V.int) (some (i : Int)) (some ((i : Int) + 2)) = [V.int (ns.getD i 0), .int (ns.getD (i + 1) 0)] := by
  have e : (i : Int) + 2 = ((i + 2 : Nat) : Int) := by push_cast; rfl
  unfold cutV
  rw [e, HT.sIx_nat, HT.sIx_nat, List.length_map, Nat.min_eq_left (by omega), Nat.min_eq_left (by omega)]
  have e2 : i + 2 - i = 2 := by omega
  rw [e2, ← List.map_drop, List.drop_eq_getElem_cons (by omega), List.drop_eq_getElem_cons (by omega), List.getD_eq_getElem?_getD, List.getD_eq_getElem?_getD, List.getElem?_eq_getElem (by omega), List.getElem?_eq_getElem h]
  rfl
theorem cut_from (xs : List V) (i : Nat) : cutV xs (some (i : Int)) none = xs.drop i := by
  unfold cutV
  rw [HT.sIx_none, HT.sIx_nat]
  rcases Nat.le_total i xs.length with h | h
  · rw [Nat.min_eq_left h, List.take_of_length_le (by rw [List.length_drop]; exact Nat.le_refl _)]
  · rw [Nat.min_eq_right h, List.drop_of_length_le (Nat.le_refl _), List.drop_of_length_le h]
    simp
theorem sort_two (a b : Int) : isort [a, b] = if a ≤ b then [a, b] else [b, a] := by
  by_cases h : a ≤ b
  · rw [if_pos h]
    exact (isort_is (List.Perm.refl _) (by simpa using h)).symm
  · rw [if_neg h]
    exact (isort_is (List.Perm.swap _ _ _) (by simp; omega)).symm
section
variable {K : PySem.W.Frag} {σ : L2.St} {H : Hp} {ta ti : TE} {tt : TT} {j : Nat}
theorem ev_countP {a : Addr} {ns : List Int} {i : Nat} (p : Int → Bool) (h : Ev ta σ H (.ref a)) (hi : Ev ti σ H (.int i)) (hs : SqL K H a (ns.map V.int)) (hl : ns.length ≤ 1000) (hj : j < σ.length)
    (ht : ∀ (x : Int) H1, Ex H H1 → EvT tt ((wipe σ [j]).set j (some (.int x))) H1 (p x)) :
    Ev (tCB (rLenS K) (tCons (tLc (iList K (tSl (rSlL K) ta tNoPart (tPart ti))) (gName j) tt (tVar j) [j]) tNil)) σ H (.int ((((ns.take i).filter p).length : Nat) : Int)) := by
  have e := given_filter (ns.take i) p
  have e2 : (((ns.take i).filter p).length) = (((ns.take i).filter p).map V.int).length := by rw [List.length_map]
  rw [e2, ← e]
  apply ev_lenN
  have c : (cutV (ns.map V.int) none (some (i : Int))).length = (ns.take i).length := by rw [cut_to, ← List.map_take, List.length_map]
  rw [← c]
  apply el_lcNL
  · exact el_sl h eo_none (eo_some hi) hs
  · rw [c, List.length_take]; omega
  · intro x
    show ((σ.set j none).set j (some x)).set j none = σ.set j none
    rw [List.set_set, List.set_set]
  · intro n x H1 e1 hx
    rw [cut_to, ← List.map_take] at hx
    obtain ⟨z, hz, rfl⟩ := getI hx
    rw [getD_of hz]
    exact ht z H1 e1
  · intro n x H1 e1 hx _
    rw [cut_to, ← List.map_take] at hx
    obtain ⟨z, hz, rfl⟩ := getI hx
    rw [getD_of hz]
    exact ev_var (by rw [List.getElem?_set_self (by rw [wipe_length]; exact hj)])
end
theorem el_is' {te : TE} {σ : L2.St} {H : Hp} {xs ys : List V} (h : EvL te σ H xs) (e : xs = ys) : EvL te σ H ys := e ▸ h
section
variable {K : PySem.W.Frag} {σ : L2.St} {H : Hp} {ta ti : TE}
/-- xs[:i] + [xs[i + 1], xs[i]] + xs[i + 2:] -/
theorem el_exch {a : Addr} {ns : List Int} {i : Nat} (h : Ev ta σ H (.ref a)) (ht : Ev ti σ H (.int i)) (hs : SqL K H a (ns.map V.int)) (hi : i + 1 < ns.length) (hl : ns.length ≤ 200) :
    EvL (tOp rCat (tOp rCat (tSl (rSlL K) ta tNoPart (tPart ti)) (tLst (tCons (tOp (rIxL K) ta (tOp (rI0 fun i j => V.int (i + j)) ti (tC (V.int 1)))) (tCons (tOp (rIxL K) ta ti) tNil)))) (tSl (rSlL K) ta (tPart (tOp (rI0 fun i j => V.int (i + j)) ti (tC (V.int 2)))) tNoPart)) σ H ((exch ns i).map V.int) := by
  have g0 : ns[i]? = some (ns.getD i 0) := by rw [List.getD_eq_getElem?_getD, List.getElem?_eq_getElem (by omega)]; rfl
  have g1 : ns[i + 1]? = some (ns.getD (i + 1) 0) := by rw [List.getD_eq_getElem?_getD, List.getElem?_eq_getElem hi]; rfl
  have two : EvL (tLst (tCons (tOp (rIxL K) ta (tOp (rI0 fun i j => V.int (i + j)) ti (tC (V.int 1)))) (tCons (tOp (rIxL K) ta ti) tNil))) σ H [.int (ns.getD (i + 1) 0), .int (ns.getD i 0)] :=
    el_lst (ea_cons (ev_op h (ev_is (ev_op ht ev_c rv_I0) (by show V.int ((i : Int) + 1) = .int ((i + 1 : Nat) : Int); push_cast; rfl)) (rv_ixL hs (atI_int g1))) (ea_cons (ev_op h ht (rv_ixL hs (atI_int g0))) ea_nil)) (by show 2 ≤ 100000; decide)
  have e2 : Ev (tOp (rI0 fun i j => V.int (i + j)) ti (tC (V.int 2))) σ H (.int ((i + 2 : Nat) : Int)) := ev_is (ev_op ht ev_c rv_I0) (by show V.int ((i : Int) + 2) = .int ((i + 2 : Nat) : Int); push_cast; rfl)
  have z := el_cat (el_cat (el_sl h eo_none (eo_some ht) hs) two (by rw [cut_to, List.length_take, List.length_map]; show _ + 2 ≤ _; omega)) (el_sl h (eo_some e2) eo_none hs) (by
    rw [cut_to, cut_from, List.length_append, List.length_take, List.length_drop, List.length_map]; show _ + 2 + _ ≤ _; omega)
  rw [cut_to, cut_from] at z
  refine el_is' z ?_
  unfold exch
  rw [List.map_append, List.map_append, List.map_take, List.map_drop]
  rfl
end
section
variable {P : Program} {w : World} {K : PySem.W.Frag} {mg : Str → Option Value} {base : Heap}
theorem ok_left (T : Tx K mg) : FnOk P w K mg base CX0 1 T.a_left_count T.fd_left_count P_left_count (spLeft K) := by
  refine T.F_left_count.ok sc_left_count (fun vs H Q E h => ?_) (fun cdv A outer s H vs Q E hr h => ?_)
  · obtain ⟨a, ns, i, rfl, _⟩ := h
    rfl
  · obtain ⟨a, ns, i, rfl, hs, hi, hl, q⟩ := h
    refine ⟨_, (pss_cons (ps_asg (pe_callB (k_sorted (K := K) rfl) (by rfl) T.m_sorted (by decide +kernel) (pa_cons (pe_slice (k_sll (K := K) rfl) (pv 0) (po_some (pv 1)) (po_some (pe_op op_add (pv 1) pe_int))) pa_nil)) (k_glst (K := K) (n := 2) rfl rfl (pgs_cons (pg_name (i := 2) nd_left_count rfl (.inr rfl)) (pgs_cons (pg_name (i := 3) nd_left_count rfl (.inr rfl)) pgs_nil))))
      (pss_one (ps_ret (pe_callB (k_len (K := K) rfl) (by rfl) T.m_len (by decide +kernel) (pa_cons (pe_lc (own := [("item", 4)]) rfl nd_left_count (k_pil (K := K) rfl (pe_slice (k_sll (K := K) rfl) (pv 0) po_none (po_some (pv 1)))) (blkOk_by (N := N_left_count) (sc := (defScope s_left_count)) (by decide +kernel)) (fun _ _ _ _ _ => pg_name (i := 4) nd_left_count rfl (.inl rfl)) (fun _ _ _ _ _ => pts_one (pt_chain op_lt op_lt (pv 2) (pv 4) (pv 3))) (fun _ _ _ _ _ => (pv 4))) pa_nil))))), ?_⟩
    refine (el_sortN (ns := [ns.getD i 0, ns.getD (i + 1) 0]) (el_is' (el_sl (ev_var rfl) (eo_some (ev_var rfl)) (eo_some (ev_op (z := .int ((i : Int) + 2)) (ev_var rfl) ev_c rv_I0)) hs) (cut_two hi))) H (Ex.refl _) _ fun p H1 np e1 hp => ?_
    rw [sort_two] at hp
    have hs1 := ex_l e1 hs
    have fin : ∀ lo hi : Int, (∀ x, mid (ns.getD i 0) (ns.getD (i + 1) 0) x = (decide (lo < x) && decide (x < hi))) → Ev (tCB (rLenS K) (tCons (tLc (iList K (tSl (rSlL K) (tVar 0) tNoPart (tPart (tVar 1)))) (gName 4) (tTest (tChain (rI0 fun i j => V.bl (decide (i < j))) (rI0 fun i j => V.bl (decide (i < j))) (tVar 2) (tVar 4) (tVar 3))) (tVar 4) [4]) tNil))
        [some (.ref a), some (.int i), some (.int lo), some (.int hi), none] H1 (.int (leftI ns i : Nat)) := fun lo hi hm => by
      refine ev_countP (a := a) (ns := ns) (i := i) (mid (ns.getD i 0) (ns.getD (i + 1) 0)) (ev_var rfl) (ev_var rfl) hs1 (by omega) (by show 4 < 5; decide) fun x H2 e2 => ?_
      rw [hm]
      exact et_test (ev_chain (x := .int lo) (y := .int x) (z := .int hi) (ev_var rfl) (ev_var rfl) (ev_var rfl) rv_I0 fun _ => rv_I0)
    by_cases h : ns.getD i 0 ≤ ns.getD (i + 1) 0
    · rw [if_pos h] at hp
      refine ⟨p, _, rfl, sq_of hp, rfl, _, _, rfl, _, _, rfl, rfl, ?_⟩
      exact s_ret (fin _ _ (mid_le h)) fun H2 e2 => q H2 (e1.trans e2)
    · rw [if_neg h] at hp
      refine ⟨p, _, rfl, sq_of hp, rfl, _, _, rfl, _, _, rfl, rfl, ?_⟩
      exact s_ret (fin _ _ (mid_ge (by omega))) fun H2 e2 => q H2 (e1.trans e2)
theorem ok_exch (T : Tx K mg) : FnOk P w K mg base CX0 1 T.a_exchanged T.fd_exchanged P_exchanged (spExch K) := by
  refine T.F_exchanged.ok sc_exchanged (fun vs H Q E h => ?_) (fun cdv A outer s H vs Q E hr h => ?_)
  · obtain ⟨a, ns, i, rfl, _⟩ := h
    rfl
  · obtain ⟨a, ns, i, rfl, hs, hi, hl, q⟩ := h
    refine ⟨_, (pss_one (ps_ret (pe_op op_cat (pe_op op_cat (pe_slice (k_sll (K := K) rfl) (pv 0) po_none (po_some (pv 1))) (pe_lst (pa_cons (pe_ix (k_ixl (K := K) rfl) (pv 0) (pe_op op_add (pv 1) pe_int) (fun _ _ => rfl)) (pa_cons (pe_ix (k_ixl (K := K) rfl) (pv 0) (pv 1) (fun _ _ => rfl)) pa_nil)))) (pe_slice (k_sll (K := K) rfl) (pv 0) (po_some (pe_op op_add (pv 1) pe_int)) po_none)))), ?_⟩
    apply s_retL (xs := (exch ns i).map V.int)
    · exact el_exch (ev_var rfl) (ev_var rfl) hs hi hl
    · exact fun p H2 np e2 hp => q p H2 np e2 hp
end
end K05


set_option Elab.async false
set_option linter.all false
set_option maxRecDepth 100000
set_option maxHeartbeats 1000000
namespace K05
open GS PyProof.Rows
/-- how many of l are less than x -/
def less (l : List Int) (x : Int) : Nat := (l.filter fun o => decide (o < x)).length
theorem logOf_at {ms : List Int} {i : Nat} (h : i < ms.length) : (logOf ms).getD i 0 = (less (ms.take i) (ms.getD i 0) : Nat) := by
  unfold logOf
  rw [List.getD_eq_getElem?_getD, List.getElem?_map, List.getElem?_range h]
  rfl
theorem less_snoc (l : List Int) (a x : Int) : less (l ++ [a]) x = less l x + if a < x then 1 else 0 := by
  unfold less
  rw [List.filter_append, List.length_append]
  congr 1
  by_cases h : a < x
  · rw [List.filter_cons, if_pos (decide_eq_true h), if_pos h]; rfl
  · rw [List.filter_cons, if_neg (by rw [decide_eq_false h]; decide), if_neg h]; rfl
theorem less_perm {l m : List Int} (p : l.Perm m) (x : Int) : less l x = less m x := (p.filter _).length_eq
theorem flen_cons {p : Int → Bool} {x : Int} {l : List Int} : ((x :: l).filter p).length = (if p x = true then 1 else 0) + (l.filter p).length := by
  rw [List.filter_cons]
  by_cases h : p x = true
  · rw [if_pos h, if_pos h, List.length_cons, Nat.add_comm]
  · rw [if_neg h, if_neg h, Nat.zero_add]
/-- between two: the difference -/
theorem less_mid {l : List Int} {a b : Int} (h : a ≤ b) (ha : a ∉ l) : less l b = less l a + (l.filter (mid a b)).length := by
  induction l with
  | nil => rfl
  | cons x l ih =>
    have nx : x ≠ a := fun e => ha (e ▸ List.mem_cons_self)
    have ih2 := ih fun e => ha (List.mem_cons_of_mem _ e)
    unfold less at ih2 ⊢
    rw [flen_cons, flen_cons, flen_cons, mid_le h, ih2]
    by_cases h1 : x < a
    · rw [decide_eq_true (show x < b by omega), decide_eq_true h1, decide_eq_false (show ¬ a < x by omega), Bool.false_and, if_pos rfl, if_neg Bool.false_ne_true]
      omega
    · by_cases h2 : x < b
      · rw [decide_eq_true h2, decide_eq_false h1, decide_eq_true (show a < x by omega), Bool.true_and, if_pos rfl, if_neg Bool.false_ne_true]
        omega
      · rw [decide_eq_false h2, decide_eq_false h1, Bool.and_false, if_neg Bool.false_ne_true]
        omega
section
variable {ms : List Int} {i : Nat}
theorem take_next (hi : i < ms.length) : ms.take (i + 1) = ms.take i ++ [ms.getD i 0] := take_snoc (by rw [List.getD_eq_getElem?_getD, List.getElem?_eq_getElem hi]; rfl)
theorem not_ahead (nd : ms.Nodup) {j : Nat} (hj : j < ms.length) (hij : i ≤ j) : ms.getD j 0 ∉ ms.take i := fun hm => by
  obtain ⟨k, hk, e⟩ := List.mem_iff_getElem.mp hm
  rw [List.length_take] at hk
  rw [List.getElem_take] at e
  have g : ms.getD j 0 = ms[j] := by rw [List.getD_eq_getElem?_getD, List.getElem?_eq_getElem hj]; rfl
  rw [g] at e
  exact (List.pairwise_iff_getElem.mp nd) k j (by omega) hj (by omega) e
/-- the log at two places, by what is between: the first one is the lesser one -/
theorem log_up (nd : ms.Nodup) (hi : i + 1 < ms.length) (h : ms.getD i 0 < ms.getD (i + 1) 0) : (logOf ms).getD (i + 1) 0 - (logOf ms).getD i 0 - 1 = (leftI ms i : Nat) ∧ (logOf ms).getD i 0 - (logOf ms).getD (i + 1) 0 < 0 := by
  rw [logOf_at hi, logOf_at (show i < ms.length by omega), take_next (by omega), less_snoc, if_pos h, less_mid (by omega) (not_ahead nd (by omega) (Nat.le_refl _))]
  have e : leftI ms i = ((ms.take i).filter (mid (ms.getD i 0) (ms.getD (i + 1) 0))).length := rfl
  rw [e]
  push_cast
  omega
theorem log_down (nd : ms.Nodup) (hi : i + 1 < ms.length) (h : ms.getD (i + 1) 0 < ms.getD i 0) : (logOf ms).getD i 0 - (logOf ms).getD (i + 1) 0 = (leftI ms i : Nat) ∧ (logOf ms).getD (i + 1) 0 - (logOf ms).getD i 0 - 1 < 0 := by
  have z := less_mid (l := ms.take i) (a := ms.getD (i + 1) 0) (b := ms.getD i 0) (by omega) (not_ahead nd hi (by omega))
  rw [logOf_at hi, logOf_at (show i < ms.length by omega), take_next (by omega), less_snoc, if_neg (by omega), z]
  have e : leftI ms i = ((ms.take i).filter (mid (ms.getD i 0) (ms.getD (i + 1) 0))).length := rfl
  have f : mid (ms.getD (i + 1) 0) (ms.getD i 0) = mid (ms.getD i 0) (ms.getD (i + 1) 0) := funext fun x => Bool.or_comm _ _
  rw [e, f]
  push_cast
  omega
end
/-! ### two neighbours put in the place of two -/
def put2 (rs : List Int) (i : Nat) (x y : Int) : List Int := rs.take i ++ [x, y] ++ rs.drop (i + 2)
section
variable {rs : List Int} {i : Nat} {x y : Int}
theorem put2_len (h : i + 1 < rs.length) : (put2 rs i x y).length = rs.length := by
  unfold put2
  rw [List.length_append, List.length_append, List.length_take, List.length_drop]
  show min i rs.length + 2 + _ = _
  omega
theorem put2_get (h : i + 1 < rs.length) (j : Nat) : (put2 rs i x y)[j]? = if j = i then some x else if j = i + 1 then some y else rs[j]? := by
  have tl : (rs.take i).length = i := by rw [List.length_take]; omega
  unfold put2
  rw [List.append_assoc]
  by_cases h1 : j = i
  · subst h1
    rw [if_pos rfl, List.getElem?_append_right (by omega), tl, Nat.sub_self]
    rfl
  · rw [if_neg h1]
    by_cases h2 : j = i + 1
    · subst h2
      rw [if_pos rfl, List.getElem?_append_right (by omega), tl, Nat.add_sub_cancel_left]
      rfl
    · rw [if_neg h2]
      rcases Nat.lt_or_ge j i with lt | ge
      · rw [List.getElem?_append_left (by omega), List.getElem?_take_of_lt lt]
      · rw [List.getElem?_append_right (by omega), tl]
        obtain ⟨m, rfl⟩ : ∃ m, j = i + (m + 2) := ⟨j - i - 2, by omega⟩
        rw [Nat.add_sub_cancel_left]
        show (rs.drop (i + 2))[m]? = _
        rw [List.getElem?_drop]
        congr 1
        omega
theorem put2_take (h : i + 1 < rs.length) {j : Nat} (hj : i + 2 ≤ j) : (put2 rs i x y).take j = put2 (rs.take j) i x y := by
  apply List.ext_getElem?
  intro m
  rcases Nat.lt_or_ge j rs.length with lt | ge
  · have h2 : i + 1 < (rs.take j).length := by rw [List.length_take]; omega
    rw [put2_get h2]
    rcases Nat.lt_or_ge m j with lm | gm
    · rw [List.getElem?_take_of_lt lm, put2_get h, List.getElem?_take_of_lt lm]
    · rw [List.getElem?_eq_none (by rw [List.length_take]; omega), if_neg (by omega), if_neg (by omega), List.getElem?_eq_none (by rw [List.length_take]; omega)]
  · rw [List.take_of_length_le (by rw [put2_len h]; omega), List.take_of_length_le (l := rs) (by omega)]
end
theorem exch_put2 (ms : List Int) (i : Nat) : exch ms i = put2 ms i (ms.getD (i + 1) 0) (ms.getD i 0) := rfl
theorem put2_self {ms : List Int} {i : Nat} (h : i + 1 < ms.length) : put2 ms i (ms.getD i 0) (ms.getD (i + 1) 0) = ms := by
  apply List.ext_getElem?
  intro j
  rw [put2_get h]
  by_cases h1 : j = i
  · subst h1
    rw [if_pos rfl, List.getD_eq_getElem?_getD, List.getElem?_eq_getElem (by omega)]; rfl
  · rw [if_neg h1]
    by_cases h2 : j = i + 1
    · subst h2
      rw [if_pos rfl, List.getD_eq_getElem?_getD, List.getElem?_eq_getElem h]; rfl
    · rw [if_neg h2]
theorem put2_swap {ms : List Int} {i : Nat} (x y : Int) : (put2 ms i x y).Perm (put2 ms i y x) := ((List.Perm.swap _ _ _).append_left _).append_right _
theorem logOf_get {ms : List Int} {j : Nat} : (logOf ms)[j]? = (ms[j]?).map fun c => ((less (ms.take j) c : Nat) : Int) := by
  rcases Nat.lt_or_ge j ms.length with lt | ge
  · unfold logOf
    rw [List.getElem?_map, List.getElem?_range lt, List.getElem?_eq_getElem lt]
    show some (((((ms.take j).filter fun o => decide (o < ms.getD j 0)).length : Nat)) : Int) = some _
    have g : ms.getD j 0 = ms[j] := by rw [List.getD_eq_getElem?_getD, List.getElem?_eq_getElem lt]; rfl
    rw [g]
    rfl
  · rw [List.getElem?_eq_none (by rw [logOf_len]; exact ge), List.getElem?_eq_none ge]
    rfl
/-- the log of the order with the deed done -/
theorem log_exch {ms : List Int} {i : Nat} (hi : i + 1 < ms.length) {x y : Int} (hx : ((less (ms.take i) (ms.getD (i + 1) 0) : Nat) : Int) = x) (hy : ((less (ms.take i) (ms.getD i 0) + (if ms.getD (i + 1) 0 < ms.getD i 0 then 1 else 0) : Nat) : Int) = y) :
    logOf (exch ms i) = put2 (logOf ms) i x y := by
  have hl : i + 1 < (logOf ms).length := by rw [logOf_len]; exact hi
  apply List.ext_getElem?
  intro j
  rw [logOf_get, put2_get hl, exch_put2, put2_get hi]
  have t0 : (put2 ms i (ms.getD (i + 1) 0) (ms.getD i 0)).take i = ms.take i := by
    unfold put2
    rw [List.append_assoc, List.take_append_of_le_length (by rw [List.length_take]; omega), List.take_take, Nat.min_self]
  by_cases h1 : j = i
  · subst h1
    rw [if_pos rfl, if_pos rfl, t0]
    exact congrArg some hx
  · rw [if_neg h1, if_neg h1]
    by_cases h2 : j = i + 1
    · subst h2
      rw [if_pos rfl, if_pos rfl]
      have t1 : (put2 ms i (ms.getD (i + 1) 0) (ms.getD i 0)).take (i + 1) = ms.take i ++ [ms.getD (i + 1) 0] := by
        rw [take_next (by rw [put2_len hi]; omega), t0]
        congr 2
        rw [List.getD_eq_getElem?_getD, put2_get hi, if_pos rfl]
        rfl
      rw [t1, Option.map_some, less_snoc]
      exact congrArg some hy
    · rw [if_neg h2, if_neg h2, logOf_get]
      rcases Nat.lt_or_ge j i with lt | ge
      · have t2 : (put2 ms i (ms.getD (i + 1) 0) (ms.getD i 0)).take j = ms.take j := by
          have e1 : (put2 ms i (ms.getD (i + 1) 0) (ms.getD i 0)).take j = ((put2 ms i (ms.getD (i + 1) 0) (ms.getD i 0)).take i).take j := by rw [List.take_take, Nat.min_eq_left (by omega)]
          rw [e1, t0, List.take_take, Nat.min_eq_left (by omega)]
        rw [t2]
      · rcases Nat.lt_or_ge j ms.length with lj | gj
        · have hj : i + 1 < (ms.take j).length := by rw [List.length_take]; omega
          have g0 : (ms.take j).getD i 0 = ms.getD i 0 := by rw [List.getD_eq_getElem?_getD, List.getD_eq_getElem?_getD, List.getElem?_take_of_lt (by omega)]
          have g1 : (ms.take j).getD (i + 1) 0 = ms.getD (i + 1) 0 := by rw [List.getD_eq_getElem?_getD, List.getD_eq_getElem?_getD, List.getElem?_take_of_lt (by omega)]
          have p : ((put2 ms i (ms.getD (i + 1) 0) (ms.getD i 0)).take j).Perm (ms.take j) := by
            rw [put2_take hi (by omega), ← g0, ← g1]
            have z := put2_swap (ms := ms.take j) (i := i) ((ms.take j).getD (i + 1) 0) ((ms.take j).getD i 0)
            rwa [put2_self hj] at z
          have f : ∀ c : Int, ((less ((put2 ms i (ms.getD (i + 1) 0) (ms.getD i 0)).take j) c : Nat) : Int) = ((less (ms.take j) c : Nat) : Int) := fun c => by rw [less_perm p]
          rw [List.getElem?_eq_getElem lj, Option.map_some, Option.map_some, f]
        · rw [List.getElem?_eq_none gj]
          rfl
/-! ### the deed of a row -/
def doneI (ns : List Int) (st : Option Int) (rs : List Int) (i : Nat) : Option (Int × Int) :=
  if memB ns st (rs.getD (i + 1) 0 - rs.getD i 0 - 1) = true then some (rs.getD (i + 1) 0 - 1, rs.getD i 0)
  else if memB ns st (rs.getD i 0 - rs.getD (i + 1) 0) = true then some (rs.getD (i + 1) 0, rs.getD i 0 + 1) else none
theorem memB_neg {ns : List Int} {st : Option Int} (hn : ∀ x ∈ ns, 1 ≤ x) (hs : ∀ s, st = some s → 1 ≤ s) {c : Int} (h : c < 1) : memB ns st c = false := by
  unfold memB
  rw [decide_eq_false (fun hm => by have := hn c hm; omega), Bool.false_or]
  cases st with
  | none => rfl
  | some s =>
    have := hs s rfl
    exact decide_eq_false (by omega)
/-- a deed of an order is this deed of its log -/
theorem done_log {ns ms : List Int} {st : Option Int} {i : Nat} (hn : ∀ x ∈ ns, 1 ≤ x) (hs : ∀ s, st = some s → 1 ≤ s) (nd : ms.Nodup) (hi : i + 1 < ms.length) :
    (memB ns st (leftI ms i : Nat) = true → ∃ x y, doneI ns st (logOf ms) i = some (x, y) ∧ logOf (exch ms i) = put2 (logOf ms) i x y) ∧ (memB ns st (leftI ms i : Nat) = false → doneI ns st (logOf ms) i = none) := by
  have a0 := logOf_at (ms := ms) (i := i) (by omega)
  have b0 := logOf_at hi
  rw [take_next (by omega), less_snoc] at b0
  have ne : ms.getD i 0 ≠ ms.getD (i + 1) 0 := fun e => by
    have g0 : ms.getD i 0 = ms[i] := by rw [List.getD_eq_getElem?_getD, List.getElem?_eq_getElem (by omega)]; rfl
    have g1 : ms.getD (i + 1) 0 = ms[i + 1] := by rw [List.getD_eq_getElem?_getD, List.getElem?_eq_getElem hi]; rfl
    rw [g0, g1] at e
    exact (List.pairwise_iff_getElem.mp nd) i (i + 1) (by omega) hi (by omega) e
  unfold doneI
  rcases Int.lt_or_gt_of_ne ne with lt | gt
  · obtain ⟨u1, u2⟩ := log_up nd hi lt
    rw [u1, memB_neg hn hs (c := (logOf ms).getD i 0 - (logOf ms).getD (i + 1) 0) (by omega)]
    refine ⟨fun h => ⟨_, _, if_pos h, log_exch hi ?_ ?_⟩, fun h => by rw [if_neg (by rw [h]; decide), if_neg Bool.false_ne_true]⟩
    · rw [b0, if_pos lt]; push_cast; omega
    · rw [a0, if_neg (by omega)]; rfl
  · obtain ⟨u1, u2⟩ := log_down nd hi gt
    rw [u1, memB_neg hn hs (c := (logOf ms).getD (i + 1) 0 - (logOf ms).getD i 0 - 1) (by omega), if_neg Bool.false_ne_true]
    refine ⟨fun h => ⟨_, _, if_pos h, log_exch hi ?_ ?_⟩, fun h => by rw [if_neg (by rw [h]; decide)]⟩
    · rw [b0, if_neg (by omega)]; rfl
    · rw [a0, if_pos gt]; push_cast; rfl
end K05




set_option Elab.async false
set_option linter.all false
set_option maxRecDepth 100000
set_option maxHeartbeats 4000000
namespace K05
open PySem PySem.Spec PyProof.Rows L2 Evl GS
local macro_rules | `(tactic| walk_at "bits") => `(tactic| first | (refine bits64 ?_; omega) | (apply bitsM; (focus walk_at "bits"); (focus walk_at "bits")))
local macro_rules | `(tactic| walk_at "side") => `(tactic| first
  | (apply CMulX.of; (focus walk_at "bits"); (focus walk_at "bits"); decide)
  | (dsimp only; omega) | assumption | decide)
local macro_rules | `(tactic| walk_at "rv") => `(tactic| first | exact rv_I0 | (apply rv_I; walk_at "side"))
local macro_rules | `(tactic| walk_at "ev") => `(tactic| first
  | exact ev_c
  | exact ev_var rfl
  | (apply ev_op; (focus walk_at "ev"); (focus walk_at "ev"); (focus walk_at "rv"))
  | (apply ev_int1; walk_at "ev")
  | (apply ev_max2; (focus walk_at "ev"); (focus walk_at "ev"))
  | (apply ev_bits; walk_at "ev"))

def placeNo (n : Nat) (e : PyData) : Bool := !isCount e || decide (intD e > (n : Int) - 2)
def lenD : PyData → Nat
  | .list ds => ds.length
  | _ => 0
theorem count_int {d : PyData} (h : isCount d = true) : ∃ k : Nat, d = .int k := by
  cases d with
  | int i =>
    have : 0 ≤ i := of_decide_eq_true h
    exact ⟨i.toNat, by rw [Int.toNat_of_nonneg this]⟩
  | _ => cases h
theorem place_ok {n : Nat} {e : PyData} (h : placeNo n e = false) : ∃ i : Nat, e = .int i ∧ i + 1 < n := by
  unfold placeNo at h
  obtain ⟨c1, c2⟩ := Bool.or_eq_false_iff.mp h
  obtain ⟨i, rfl⟩ := count_int (not_false' c1)
  refine ⟨i, rfl, ?_⟩
  have z := of_decide_eq_false c2
  have z2 : ¬ ((i : Int) > (n : Int) - 2) := z
  omega
theorem place_yes {n i : Nat} (h : i + 1 < n) : placeNo n (.int i) = false := by
  show (!decide (0 ≤ (i : Int)) || decide ((i : Int) > (n : Int) - 2)) = false
  rw [decide_eq_true (by omega), decide_eq_false (by omega)]
  rfl
theorem kLets {K : PySem.W.Frag} {mg : Str → Option Value} (T : Tx K mg) (d : PyData) : PySem.W.kitOne K (.type (tyD d)) (.ref T.a_Lets) = some false := by
  cases d with
  | none => exact T.kt_Lets_NoneType
  | bool b => exact T.kt_Lets_bool
  | int b => exact T.kt_Lets_int
  | str b => exact T.kt_Lets_str
  | list b => exact T.kt_Lets_list
  | tuple b => exact T.kt_Lets_tuple
  | dict b => exact T.kt_Lets_dict
def spNL (K : PySem.W.Frag) (C D : Addr) : Sp := fun vs H Q E => ∃ v, vs = [v] ∧ ((∃ p ns st, v = .ref p ∧ LetsAt C H p ns st ∧ RetV .non H Q) ∨ (∃ d, Rp K H v d ∧ RaisesV D v H E))
def spPlace (K : PySem.W.Frag) (C : Addr) : Sp := fun vs H Q E => ∃ (a : Addr) (xs : List V) (u : V) (e : PyData), vs = [.ref a, u] ∧ SqL K H a xs ∧ Rp K H u e ∧
  (placeNo xs.length e = false → RetV .non H Q) ∧ (placeNo xs.length e = true → RaisesV C u H E)
def spDeed (K : PySem.W.Frag) (L C D S : Addr) : Sp := fun vs H Q E => ∃ l v u, vs = [l, v, u] ∧ ((∃ p ns st d e, l = .ref p ∧ LetsAt L H p ns st ∧ Rp K H v d ∧ Rp K H u e ∧ (isOrder d = false → RaisesV C v H E) ∧ (isOrder d = true → placeNo (lenD d) e = true → RaisesV D u H E) ∧
  (∀ (ms : List Int) (i : Nat), d = .list (ms.map .int) → isOrder d = true → e = .int i → i + 1 < ms.length → (memB ns st (leftI ms i : Nat) = true → RetL ((exch ms i).map V.int) H Q) ∧ (memB ns st (leftI ms i : Nat) = false → RaisesV D u H E))) ∨
  (∃ d, Rp K H l d ∧ RaisesV S l H E))
theorem RaisesV.go {C : Addr} {v : V} {H H1 : Hp} {E : XK} (e : Ex H H1) (h : RaisesV C v H E) : RaisesV C v H1 E := fun dd H2 n e2 h2 => h dd H2 (free_of e n) (e.trans e2) h2
section
variable {P : Program} {w : World} {K : PySem.W.Frag} {mg : Str → Option Value} {base : Heap}
theorem ok_nl (T : Tx K mg) : FnOk P w K mg base (L2.CX P w) 3 T.a_need_lets T.fd_need_lets P_need_lets (spNL K T.a_Lets T.a_InvalidLets) := by
  have c_InvalidLets_init := ok_initS (P := P) (w := w) (base := base) T
  refine T.F_need_lets.okX sc_need_lets (fun vs H Q E h => ?_) (fun cdv A outer s H vs Q E hr h => ?_)
  · obtain ⟨v, rfl, _⟩ := h
    rfl
  · obtain ⟨v, rfl, hc⟩ := h
    refine ⟨_, (pss_one (ps_if (pt_not (pt_val (pe_callB (k_isi (K := K) rfl) (by rfl) T.m_isinstance (by decide +kernel) (pa_cons (pv 0) (pa_cons (pe_glob (by rfl) T.g_Lets (show RelV (.ref T.a_Lets) (.ref T.a_Lets) from rfl)) pa_nil))))) (pss_one (ps_raise rfl (takes_of rfl rfl rfl rfl) (pmk_oex T.x_InvalidLets T.i_InvalidLets T.t_InvalidLets c_InvalidLets_init (hr.mono (by decide)) T.bi_InvalidLets .nil pass0 (by rfl) T.g_InvalidLets (pa_cons (pv 0) pa_nil)))) pss_nil)), ?_⟩
    rcases hc with ⟨p, ns, st, rfl, hl, q⟩ | ⟨d, hd, r⟩
    · obtain ⟨dx, nn, tt, h1, h2, h3⟩ := hl
      apply s_when (b := false)
      · exact et_is (et_not (et_B (ev_isCl (ev_var rfl) (ins_ty T.ins_Lets h1) T.ins_Lets.me))) rfl
      · intro z; cases z
      · exact fun _ H1 e1 => q H1 e1
    · apply s_when (b := true)
      · exact et_is (et_not (et_B (ev_isCl (ev_var rfl) (fun H1 e => (hd.to e).ty) (kLets T d)))) rfl
      · intro _ H1 e1
        exact tMkO_of (v := v) (ea_cons (ev_var rfl) ea_nil) (r.go e1)
      · intro z; cases z
theorem ok_np (T : Tx K mg) : FnOk P w K mg base (L2.CX P w) 3 T.a_need_place T.fd_need_place P_need_place (spPlace K T.a_InvalidPlace) := by
  have c_is_count := ok_count (P := P) (w := w) (base := base) T
  have c_InvalidPlace_init := ok_initP (P := P) (w := w) (base := base) T
  refine T.F_need_place.okX sc_need_place (fun vs H Q E h => ?_) (fun cdv A outer s H vs Q E hr h => ?_)
  · obtain ⟨a, xs, u, e, rfl, _⟩ := h
    rfl
  · obtain ⟨a, xs, u, e, rfl, hs, hu, q, r⟩ := h
    refine ⟨_, (pss_one (ps_if (PW.pt (pw_or (pt_not (pt_val (pe_call c_is_count (hr.mono (by decide)) (by rfl) T.g_is_count T.F_is_count.kp T.b_is_count .nil pass0 (pa_cons (pv 1) pa_nil)))) (pw_or1 (pt_cmpR op_gt (pv 1) (pe_op op_sub (pe_callB (k_len (K := K) rfl) (by rfl) T.m_len (by decide +kernel) (pa_cons (pv 0) pa_nil)) pe_int) (nomark _))))) (pss_one (ps_raise rfl (takes_of rfl rfl rfl rfl) (pmk_oex T.x_InvalidPlace T.i_InvalidPlace T.t_InvalidPlace c_InvalidPlace_init (hr.mono (by decide)) T.bi_InvalidPlace .nil pass0 (by rfl) T.g_InvalidPlace (pa_cons (pv 1) pa_nil)))) pss_nil)), ?_⟩
    apply s_when (b := placeNo xs.length e)
    · unfold placeNo
      apply et_or
      · exact et_not (et_B (ev_tell (ed_var rfl hu)))
      · intro hc
        obtain ⟨k, rfl⟩ := count_int (not_false' hc)
        cases hu
        apply et_test
        exact ev_op (ev_var rfl) (ev_op (ev_len (ev_var rfl) hs) ev_c rv_I0) rv_I0
    · intro hb H1 e1
      exact tMkO_of (v := u) (ea_cons (ev_var rfl) ea_nil) ((r hb).go e1)
    · exact fun hb H1 e1 => q hb H1 e1
theorem ok_deed (T : Tx K mg) : FnOk P w K mg base (L2.CX P w) 6 T.a_order_done T.fd_order_done P_order_done (spDeed K T.a_Lets T.a_InvalidOrder T.a_InvalidPlace T.a_InvalidLets) := by
  have c_need_lets := ok_nl (P := P) (w := w) (base := base) T
  have c_need_order := ok_need (P := P) (w := w) (base := base) T
  have c_need_place := ok_np (P := P) (w := w) (base := base) T
  have c_left_count := ok_left (P := P) (w := w) (base := base) T
  have c_exchanged := ok_exch (P := P) (w := w) (base := base) T
  have c_Lets_contains := ok_in (P := P) (w := w) (base := base) T
  have c_InvalidPlace_init := ok_initP (P := P) (w := w) (base := base) T
  refine T.F_order_done.okX sc_order_done (fun vs H Q E h => ?_) (fun cdv A outer s H vs Q E hr h => ?_)
  · obtain ⟨l, v, u, rfl, _⟩ := h
    rfl
  · obtain ⟨l, v, u, rfl, hc⟩ := h
    refine ⟨_, (pss_cons (ps_expr (pe_call c_need_lets (hr.mono (by decide)) (by rfl) T.g_need_lets T.F_need_lets.kp T.b_need_lets .nil (passes_call (takes_of rfl rfl rfl rfl) (fun _ _ _ _ h => h)) (pa_cons (pv 0) pa_nil)))
      (pss_cons (ps_expr (pe_call c_need_order (hr.mono (by decide)) (by rfl) T.g_need_order T.F_need_order.kp T.b_need_order .nil (passes_call (takes_of rfl rfl rfl rfl) (fun _ _ _ _ h => h)) (pa_cons (pv 1) pa_nil)))
      (pss_cons (ps_expr (pe_call c_need_place (hr.mono (by decide)) (by rfl) T.g_need_place T.F_need_place.kp T.b_need_place .nil (passes_call (takes_of rfl rfl rfl rfl) (fun _ _ _ _ h => h)) (pa_cons (pv 1) (pa_cons (pv 2) pa_nil))))
      (pss_cons (ps_if (pt_cmpR (k_notInOwn (K := K) rfl T.me_Lets_contains.at_ T.me_Lets_contains.fn c_Lets_contains (hr.mono (by decide)) T.b_Lets_contains pass0) (pe_call c_left_count (hr.mono (by decide)) (by rfl) T.g_left_count T.F_left_count.kp T.b_left_count .nil pass0 (pa_cons (pv 1) (pa_cons (pv 2) pa_nil))) (pv 0) rfl) (pss_one (ps_raise rfl (takes_of rfl rfl rfl rfl) (pmk_oex T.x_InvalidPlace T.i_InvalidPlace T.t_InvalidPlace c_InvalidPlace_init (hr.mono (by decide)) T.bi_InvalidPlace .nil pass0 (by rfl) T.g_InvalidPlace (pa_cons (pv 2) pa_nil)))) pss_nil)
      (pss_one (ps_ret (pe_call c_exchanged (hr.mono (by decide)) (by rfl) T.g_exchanged T.F_exchanged.kp T.b_exchanged .nil pass0 (pa_cons (pv 1) (pa_cons (pv 2) pa_nil))))))))), ?_⟩
    apply q_do
    rcases hc with ⟨p, ns, st, d, e, rfl, hl, hd, hu, r1, r2, q⟩ | ⟨d, hd, r⟩
    · refine ⟨.ref p, rfl, .ref p, rfl, .inl ⟨p, ns, st, rfl, hl, fun H1 e1 => ?_⟩⟩
      apply q_do
      refine ⟨v, rfl, v, d, rfl, hd.to e1, fun ht => ?_, fun hb => (r1 hb).go e1⟩
      intro H2 e2
      have e12 := e1.trans e2
      obtain ⟨ms, rfl, hml, hp⟩ := isOrder_ints ht
      cases hd with
      | @lst a xs ds hx hs =>
        have hv := rp_ints hs
        subst hv
        apply q_do
        have ll : (ms.map V.int).length = lenD (.list (ms.map .int)) := by rw [List.length_map]; exact (List.length_map _).symm
        refine ⟨.ref a, rfl, u, rfl, a, _, u, e, rfl, ex_l e12 hx, hu.to e12, fun hb => ?_, fun hb => (r2 ht (by rw [← ll]; exact hb)).go e12⟩
        intro H3 e3
        have e13 := e12.trans e3
        rw [List.length_map] at hb
        obtain ⟨i, rfl, hi⟩ := place_ok hb
        cases hu
        obtain ⟨q1, q2⟩ := q ms i rfl ht rfl hi
        apply q_when (b := !memB ns st (leftI ms i : Nat))
        · apply et_test
          obtain ⟨dx, nn, tt, h1, h2, h3⟩ := id (hl.mono e13)
          exact ev_notInOwn (ev_own (ea_cons (ev_var rfl) (ea_cons (ev_var rfl) ea_nil)) fun H4 e4 Q4 q4 => ⟨a, ms, i, rfl, ex_l (e13.trans e4) hx, hi, hml, q4⟩) (ev_var rfl) h1 fun H4 e4 Q4 q4 => ⟨p, ns, st, _, rfl, (hl.mono e13).mono e4, .inl ⟨_, rfl, q4⟩⟩
        · intro hb2 H4 e4
          exact tMkO_of (v := .int i) (ea_cons (ev_var rfl) ea_nil) ((q2 (not_true hb2)).go (e13.trans e4))
        · intro hb2 H4 e4
          apply s_retL
          · exact el_own (ea_cons (ev_var rfl) (ea_cons (ev_var rfl) ea_nil)) fun H5 e5 Q5 q5 => ⟨a, ms, i, rfl, ex_l ((e13.trans e4).trans e5) hx, hi, hml, fun p5 H6 n6 e6 h6 => q5 p5 H6 n6 e6 h6⟩
          · exact fun p5 H5 n5 e5 h5 => q1 (not_false' hb2) p5 H5 (free_of (e13.trans e4) n5) ((e13.trans e4).trans e5) h5
    · exact ⟨l, rfl, l, rfl, .inr ⟨d, hd, r⟩⟩
end
end K05




set_option Elab.async false
set_option linter.all false
set_option maxRecDepth 100000
set_option maxHeartbeats 4000000
namespace K05
open PySem PySem.Spec PyProof.Rows L2 Evl GS
local macro_rules | `(tactic| walk_at "bits") => `(tactic| first | (refine bits64 ?_; omega) | (apply bitsM; (focus walk_at "bits"); (focus walk_at "bits")))
local macro_rules | `(tactic| walk_at "side") => `(tactic| first
  | (apply CMulX.of; (focus walk_at "bits"); (focus walk_at "bits"); decide)
  | (dsimp only; omega) | assumption | decide)
local macro_rules | `(tactic| walk_at "rv") => `(tactic| first | exact rv_I0 | (apply rv_I; walk_at "side"))
local macro_rules | `(tactic| walk_at "ev") => `(tactic| first
  | exact ev_c
  | exact ev_var rfl
  | (apply ev_op; (focus walk_at "ev"); (focus walk_at "ev"); (focus walk_at "rv"))
  | (apply ev_int1; walk_at "ev")
  | (apply ev_max2; (focus walk_at "ev"); (focus walk_at "ev"))
  | (apply ev_bits; walk_at "ev"))

section
variable {K : PySem.W.Frag} {σ : L2.St} {H : Hp} {ta tb te : TE} {D : Ends} {tz : TS}
theorem q_parLL {i j : Nat} {xs ys : List V} (ha : EvL ta σ H xs) (hb : EvL tb σ H ys)
    (k : ∀ p r H2, H p = none → H r = none → p ≠ r → Ex H H2 → H2 p = some (.lst xs) → H2 r = some (.lst ys) → tz D ((σ.set i (some (.ref p))).set j (some (.ref r))) H2) :
    tSeq (tPar i j (tCons ta (tCons tb tNil))) tz D σ H :=
  ha H (Ex.refl H) _ fun p H1 n1 e1 hp => hb H1 e1 _ fun r H2 n2 e2 hr => ⟨.ref p, .ref r, rfl,
    k p r H2 n1 (free_of e1 n2) (ne_of_none hp n2) (e1.trans e2) (e2 _ _ hp) hr⟩
theorem el_ownK0 {sp : Sp} {E : XK} {tk : TA} {vs xs : List V} (h : EvA tk σ H vs)
    (k : ∀ H1, Ex H H1 → ∀ Q : VK, (∀ p H2, H1 p = none → Ex H1 H2 → H2 p = some (.lst xs) → Q (.ref p) H2) → sp vs H1 Q E) :
    EvL (tCallK sp (fun vs zs => vs ++ zs) E tNil tk) σ H xs := fun H1 a Q q =>
  h H1 a _ fun H2 e2 => k H2 (a.trans e2) Q fun p H3 n e3 hp => q p H3 (fresh_back e2 n) (e2.trans e3) hp
theorem ev_ownK0 {sp : Sp} {E : XK} {tk : TA} {ds : List PyData} {v : V} (h : EvDA K tk σ H ds)
    (k : ∀ vs H1, Ex H H1 → RpAll K H1 vs ds → ∀ Q : VK, (∀ H2, Ex H1 H2 → Q v H2) → sp vs H1 Q E) :
    Ev (tCallK sp (fun vs zs => vs ++ zs) E tNil tk) σ H v := fun H1 a Q q =>
  h H1 a _ fun vs H2 e2 r => k vs H2 (a.trans e2) r Q fun H3 e3 => q H3 (e2.trans e3)
theorem ev_tellK {f : PyData → Bool} {d : PyData} {E : XK} (h : EvD K te σ H d) : Ev (tCallK (spTell K f) (fun vs zs => vs ++ zs) E tNil (tCons te tNil)) σ H (.bl (f d)) := by
  apply ev_ownK0 (eda_cons h eda_nil)
  rintro vs H1 e1 hv Q2 q2
  cases hv with
  | cons hv hn =>
    cases hn
    exact ⟨_, d, rfl, hv, q2⟩
theorem ed_ints {a : Addr} {ns : List Int} (h : Ev te σ H (.ref a)) (hs : SqL K H a (ns.map V.int)) : EvD K te σ H (.list (ns.map .int)) := ed_of h (.lst hs (rpInts ns))
theorem ed_newI {ns : List Int} (h : EvL te σ H (ns.map V.int)) : EvD K te σ H (.list (ns.map .int)) := ed_new (EvL.ld h fun _ => rpInts _)
theorem ev_neI {a b : List Int} (ha : EvD K ta σ H (.list (a.map .int))) (hb : EvD K tb σ H (.list (b.map .int))) : Ev (tOp (rNeD K) ta tb) σ H (.bl (!decide (a = b))) := by
  have z := ev_neD ha hb (nodict_ints a) (nodict_ints b) (shaped_ints a) (shaped_ints b)
  rwa [eqv_ints] at z
theorem ev_eqI {a b : List Int} (ha : EvD K ta σ H (.list (a.map .int))) (hb : EvD K tb σ H (.list (b.map .int))) : Ev (tOp (rEqD K) ta tb) σ H (.bl (decide (a = b))) := by
  have z := ev_eqD ha hb (nodict_ints a) (nodict_ints b) (shaped_ints a) (shaped_ints b)
  rwa [eqv_ints] at z
theorem ev_neSame {a : List Int} (ha : EvD K ta σ H (.list (a.map .int))) (hb : EvD K tb σ H (.list (a.map .int))) : Ev (tOp (rNeD K) ta tb) σ H (.bl false) :=
  ev_is (ev_neI ha hb) (by rw [decide_eq_true rfl]; rfl)
theorem ev_eqSame {a : List Int} (ha : EvD K ta σ H (.list (a.map .int))) (hb : EvD K tb σ H (.list (a.map .int))) : Ev (tOp (rEqD K) ta tb) σ H (.bl true) :=
  ev_is (ev_eqI ha hb) (by rw [decide_eq_true rfl])
theorem ev_neStr {s : Str} (ha : Ev ta σ H (.str s)) (hb : Ev tb σ H (.str s)) : Ev (tOp rNe ta tb) σ H (.bl false) := by
  have z := ev_op ha hb (rv_ne (H := H) (x := .str s) (y := .str s) rfl)
  exact ev_is z (by rw [decide_eq_true rfl]; rfl)
theorem et_or4 {a b c d : TT} (h1 : EvT a σ H false) (h2 : EvT b σ H false) (h3 : EvT c σ H false) (h4 : EvT d σ H false) : EvT (tOr a (tOr b (tOr c d))) σ H false :=
  et_is (et_or h1 fun _ => et_or h2 fun _ => et_or h3 fun _ => h4) rfl
theorem et_or2 {a b : TT} (h1 : EvT a σ H false) (h2 : EvT b σ H false) : EvT (tOr a b) σ H false := et_is (et_or h1 fun _ => h2) rfl
theorem ev_and3 {a b c : TE} (h1 : Ev a σ H (.bl true)) (h2 : Ev b σ H (.bl true)) (h3 : Ev c σ H (.bl true)) : Ev (tAndV a (tAndV b c)) σ H (.bl true) :=
  ev_is (ev_andV h1 fun _ => ev_andV h2 fun _ => h3) rfl
theorem no_if {t : TT} {tu : TS} (h : EvT t σ H false) (k : ∀ H1, Ex H H1 → tz D σ H1) : tSeq (tIfS t tu tNext) tz D σ H :=
  q_when (b := false) h (fun z => by cases z) fun _ => k
end
section
variable {K : PySem.W.Frag} {σ : L2.St} {H : Hp} {ta tb te : TE} {D : Ends} {tz : TS}
theorem ev_neg {i : Int} (h : Ev ta σ H (.int i)) : Ev (tUn (rU fun i => .int (-i)) ta) σ H (.int (-i)) := fun H1 e Q q =>
  h H1 e _ fun H2 e2 => ⟨i, rfl, q H2 e2⟩
theorem ed_neg {i : Int} : EvD K (tUn (rU fun i => .int (-i)) (tC (.int i))) σ H (.int (-i)) := ed_int (ev_neg ev_c)
/-- a list that is there, and a new one behind it -/
theorem eld_catV {i : Nat} {p : Addr} {xs : List V} {ds es : List PyData} (h : σ[i]? = some (some (.ref p))) (hp : H p = some (.lst xs)) (r : RpAll K H xs ds)
    (hb : EvLD K tb σ H es) (hl : ds.length + es.length ≤ 100000) : EvLD K (tOp rCat (tVar i) tb) σ H (ds ++ es) := fun H1 e Q q =>
  ev_var h H1 e _ fun H2 e2 => hb H2 (e.trans e2) _ fun s ws H3 n3 e3 hs r2 =>
    ⟨p, s, xs, ws, rfl, rfl, ((e.trans e2).trans e3) _ _ hp, hs, sz_of (by rw [r.length, r2.length]; exact hl), fun u nu =>
      q u _ _ (fresh_back (e2.trans e3) nu) ((e2.trans e3).trans (Ex.new nu)) upd_same (((r.to ((e.trans e2).trans e3)).app r2).to (Ex.new nu))⟩
theorem s_retLD {ds : List PyData} (h : EvLD K te σ H ds) (k : ∀ p xs H1, H p = none → Ex H H1 → H1 p = some (.lst xs) → RpAll K H1 xs ds → D.rt (.ref p) H1) : tRet te D σ H := h H (Ex.refl H) _ k
theorem q_asgLD {i : Nat} {ds : List PyData} (h : EvLD K te σ H ds) (k : ∀ p xs H1, H p = none → Ex H H1 → H1 p = some (.lst xs) → RpAll K H1 xs ds → tz D (σ.set i (some (.ref p))) H1) :
    tSeq (tAsg te (gName i)) tz D σ H := h H (Ex.refl H) _ k
end
def z201 : PyData := .list ((rangeI 201).map .int)
def isEmp : PyData → Bool
  | .dict [] => true
  | _ => false
theorem isEmp_of {d : PyData} (h : isEmp d = true) : d = .dict [] := by
  cases d with
  | dict es =>
    cases es with
    | nil => rfl
    | cons _ _ => cases h
  | _ => cases h
/-- what is refused, and may be written -/
def okBad (f : PyData → Bool) (d : PyData) : Bool := (!f d) && ((!d.hasDict) || isEmp d) && d.showable && decide (d.depth ≤ 60) && decide (d.shown.length ≤ 5000) && PyData.canLay0 (.str d.shown)
structure OkBad (f : PyData → Bool) (d : PyData) : Prop where
  no : f d = false
  nd : d.hasDict = false ∨ d = .dict []
  sh : d.showable = true
  dp : d.depth ≤ 60
  ln : d.shown.length ≤ sizeLine
  st : PyData.canLay0 (.str d.shown) = true
theorem OkBad.of {f : PyData → Bool} {d : PyData} (h : okBad f d = true) : OkBad f d := by
  unfold okBad at h
  simp only [Bool.and_eq_true, decide_eq_true_eq, Bool.not_eq_true', Bool.or_eq_true] at h
  obtain ⟨⟨⟨⟨⟨h1, h2⟩, h3⟩, h4⟩, h5⟩, h6⟩ := h
  exact ⟨h1, h2.imp id isEmp_of, h3, h4, sz_of (by omega), h6⟩
/-- how long a list's text is, and of what -/
abbrev strOk (s : Str) : Bool := PyData.canLay0 (.str s)
def okT (m : Nat) (s : Str) : Prop := s.length ≤ m ∧ strOk s = true
theorem strOk_add {a b : Str} (h1 : strOk a = true) (h2 : strOk b = true) : strOk (a ++ b) = true := by
  show (a.cps ++ b.cps).all (· < 0x110000) = true
  rw [Array.all_append]
  exact Bool.and_eq_true_iff.mpr ⟨h1, h2⟩
theorem okT.add {m n : Nat} {a b : Str} (h1 : okT m a) (h2 : okT n b) : okT (m + n) (a ++ b) := by
  refine ⟨?_, strOk_add h1.2 h2.2⟩
  rw [strLen_append]
  have := h1.1
  have := h2.1
  omega
theorem okT.up {m n : Nat} {a : Str} (h : okT m a) (e : m ≤ n) : okT n a := ⟨Nat.le_trans h.1 e, h.2⟩
theorem okT.sep (k : Nat) : okT 2 (if k > 0 then ", " else "" : String) := by
  split <;> exact ⟨by decide, by decide +kernel⟩
theorem okT.from (m : Nat) : ∀ (ts : List Str) (k n : Nat) (acc : Str), (∀ t ∈ ts, okT m t) → okT n acc → okT (n + ts.length * (m + 2)) (textFrom k acc ts)
  | [], k, n, acc, _, h => h.up (by omega)
  | t :: ts, k, n, acc, ht, h => by
    have z := okT.from m ts (k + 1) _ _ (fun t hm => ht t (List.mem_cons_of_mem _ hm)) ((h.add (okT.sep k)).add (ht t List.mem_cons_self))
    refine z.up ?_
    rw [List.length_cons, Nat.add_mul]
    omega
theorem shownAll_map : ∀ ns : List Int, PyData.shownAll (ns.map .int) = ns.map fun i => PyData.shown (.int i)
  | [] => rfl
  | n :: ns => by
    show _ :: PyData.shownAll (ns.map .int) = _ :: ns.map _
    rw [shownAll_map ns]
theorem okT.ints {ns : List Int} (h : ∀ n ∈ ns, okT 3 (PyData.shown (.int n))) : okT (2 + ns.length * 5) (PyData.shown (.list (ns.map .int))) := by
  show okT _ (textFrom 0 "[" (PyData.shownAll (ns.map .int)) ++ "]")
  rw [shownAll_map]
  have z := okT.from 3 (ns.map fun i => PyData.shown (.int i)) 0 1 "[" (by
    intro t ht
    obtain ⟨n, hn, rfl⟩ := List.mem_map.mp ht
    exact h n hn) ⟨by decide, by decide +kernel⟩
  rw [List.length_map] at z
  exact (z.add (n := 1) (b := "]") ⟨by decide, by decide +kernel⟩).up (by omega)
theorem okT.small : ∀ n ∈ rangeI 201, okT 3 (PyData.shown (.int n)) := by
  have z : ((rangeI 201).all fun n => decide ((PyData.shown (.int n)).length ≤ 3) && strOk (PyData.shown (.int n))) = true := by decide +kernel
  intro n hn
  obtain ⟨h1, h2⟩ := Bool.and_eq_true_iff.mp (List.all_eq_true.mp z n hn)
  exact ⟨of_decide_eq_true h1, h2⟩
theorem ok_z201 : OkBad isOrder z201 := by
  have z := okT.ints okT.small
  exact ⟨by decide +kernel, .inl (by decide +kernel), by decide +kernel, by decide +kernel, sz_of (Nat.le_trans z.1 (by rw [rangeI_len]; decide)), z.2⟩
theorem eqv_tri (a b : Bool) (s : Str) : PyData.eqv (.list [.bool a, .bool b, .str s]) (.list [.bool a, .bool b, .str s]) = true := by
  show ((a == a) && ((b == b) && ((s == s) && true))) = true
  rw [beq_self_eq_true, beq_self_eq_true, beq_self_eq_true]; rfl
def triV (b : Bool) (s : Str) : List V := [.bl b, .bl (!b), .str s]
section
variable {K : PySem.W.Frag} {σ : L2.St} {H : Hp} {ta tb te tl : TE} {D : Ends} {tz tu : TS} {t : TT}
theorem ev_isHeld {a C C2 : Addr} {v : V} {b : Bool} (h : Ev ta σ H (.ref a)) (hh : Held H a C v) (hc : ErrC K C) (hk : PySem.W.kitOne K (.ref C) (.ref C2) = some b) :
    Ev (tCB (rIsAny K) (tCons ta (tCons (tC (.ref C2)) tNil))) σ H (.bl b) := fun H1 e Q q =>
  h H1 e _ fun H2 e2 => .inr ⟨a, C, v, .ref C2, _, b, rfl, hh.mono (e.trans e2), hc, .own C2, hk, q H2 e2⟩
theorem ev_held {a C : Addr} {v : V} (h : Ev ta σ H (.ref a)) (hh : Held H a C v) (hc : ErrC K C) : Ev (tHeldV K ta) σ H v := fun H1 e Q q =>
  h H1 e _ fun H2 e2 => ⟨a, C, v, rfl, hh.mono (e.trans e2), hc, q H2 e2⟩
theorem ev_isB {a b : Bool} (ha : Ev ta σ H (.bl a)) (hb : Ev tb σ H (.bl b)) : Ev (tOp rIsB ta tb) σ H (.bl (decide (a = b))) := fun H1 e Q q =>
  ha H1 e _ fun H2 e2 => hb H2 (e.trans e2) _ fun H3 e3 => ⟨a, b, rfl, rfl, q H3 (e2.trans e3)⟩
theorem ev_notB {a b : Bool} (ha : Ev ta σ H (.bl a)) (hb : Ev tb σ H (.bl b)) : Ev (tOp rNotB ta tb) σ H (.bl (!decide (a = b))) := fun H1 e Q q =>
  ha H1 e _ fun H2 e2 => hb H2 (e.trans e2) _ fun H3 e3 => ⟨a, b, rfl, rfl, q H3 (e2.trans e3)⟩
/-- over a new list of data -/
theorem q_forD {j : Nat} {ds : List PyData} (h : EvLD K tl σ H ds) (y0 : Option V) (hy : σ = σ.set j y0)
    (hs : ∀ (N : L2.St → Hp → Prop) H' x d, (∀ H2, Ex H' H2 → N (σ.set j (some x)) H2) → Ex H H' → d ∈ ds → Rp K H' x d → tu { D with nx := N, ct := N, bk := tz D } (σ.set j (some x)) H')
    (hd : ∀ y H', Ex H H' → tz D (σ.set j y) H') : tSeq (tFor (iList K tl) (gName j) tu) tz D σ H :=
  h H (Ex.refl H) _ fun p xs H1 n1 e1 hp r1 => ⟨p, rfl, ⟨xs, sq_of hp⟩,
    for_list (D := { D with nx := tz D }) (xs := xs) (fun _ σ' H' => (∃ y, σ' = σ.set j y) ∧ Ex H1 H') ⟨⟨y0, hy⟩, Ex.refl _⟩ (fun i σ' H' _ z => sq_of (z.2 _ _ hp))
      (fun i x σ' H' hi z => by
        obtain ⟨⟨y, rfl⟩, e2⟩ := z
        obtain ⟨d, hd2, hr⟩ := r1.get hi
        show tu _ ((σ.set j y).set j (some x)) H'
        rw [List.set_set]
        exact hs _ H' x d (fun H2 e3 => ⟨⟨some x, rfl⟩, e2.trans e3⟩) (e1.trans e2) (List.mem_of_getElem? hd2) (hr.to e2))
      (fun σ' H' z => by
        obtain ⟨⟨y, rfl⟩, e2⟩ := z
        exact hd y H' (e1.trans e2))⟩
/-- a list made of those of a new list of data that pass a test: none does -/
theorem el_lcD0 {ds : List PyData} {j : Nat} {vs : List Nat} (h : EvLD K tl σ H ds) (hz : ds.length ≤ 40000) (hw : ∀ x, wipe ((wipe σ vs).set j (some x)) vs = wipe σ vs)
    (ht : ∀ (x : V) d H1, Ex H H1 → d ∈ ds → Rp K H1 x d → EvT t ((wipe σ vs).set j (some x)) H1 false) : EvL (tLc (iList K tl) (gName j) t te vs) σ H [] := fun H0 e Q q =>
  h H0 e _ fun a xs H1 ha e1 hx hr => ⟨a, rfl, ⟨xs, sq_of hx⟩, fun Dl hD =>
    lc_list (xs := xs) (Cw H1 (fun _ => false) (fun _ => V.non) Dl) ⟨hD, Ex.new hD, upd_same⟩ (fun i H' _ p => sq_of (p.2.1 a _ hx))
      (fun i x H' hi p => ⟨hw x, cw_turn p (by have := (List.getElem?_eq_some_iff.mp hi).1; have := hr.length; omega) (by
        obtain ⟨d, hd, hr2⟩ := hr.get hi
        exact ht x d H1 (e.trans e1) (List.mem_of_getElem? hd) hr2) (fun hf => by cases hf)⟩)
      (fun H' p => q Dl H' (fresh_back e1 p.1) (e1.trans p.2.1) (by
        have z := p.2.2
        unfold given at z
        rw [List.filter_eq_nil_iff.mpr (fun _ _ => Bool.false_ne_true)] at z
        exact z))⟩
end
theorem rpTri {K : PySem.W.Frag} {H : Hp} {b : Bool} {s : Str} : RpAll K H (triV b s) [.bool b, .bool (!b), .str s] := .cons (.bl _) (.cons (.bl _) (.cons (.str _) .nil))
theorem shaped_tri (a b : Bool) {s : Str} (h : PyData.canLay0 (.str s) = true) : SeqAt.shaped (.list [.bool a, .bool b, .str s]) = true := by
  show ((true && (true && (PyData.canLay0 (.str s) && true))) && decide (max 0 (max 0 (max 0 0)) + 1 ≤ 64)) = true
  rw [h]
  rfl
theorem Ex.off {H H1 H2 : Hp} {g : Addr} (e : Ex H H1) (n : H g = none) (o : Off g H1 H2) : Ex H H2 := fun x u h => o x u (ne_of_none h n) (e x u h)
end K05




set_option Elab.async false
set_option linter.all false
set_option maxRecDepth 100000
set_option maxHeartbeats 1000000
namespace K05
open PySem PySem.Spec PyProof.Rows L2 Evl GS
local macro_rules | `(tactic| walk_at "bits") => `(tactic| first | (refine bits64 ?_; omega) | (apply bitsM; (focus walk_at "bits"); (focus walk_at "bits")))
local macro_rules | `(tactic| walk_at "side") => `(tactic| first
  | (apply CMulX.of; (focus walk_at "bits"); (focus walk_at "bits"); decide)
  | (dsimp only; omega) | assumption | decide)
local macro_rules | `(tactic| walk_at "rv") => `(tactic| first | exact rv_I0 | (apply rv_I; walk_at "side"))
local macro_rules | `(tactic| walk_at "ev") => `(tactic| first
  | exact ev_c
  | exact ev_var rfl
  | (apply ev_op; (focus walk_at "ev"); (focus walk_at "ev"); (focus walk_at "rv"))
  | (apply ev_int1; walk_at "ev")
  | (apply ev_max2; (focus walk_at "ev"); (focus walk_at "ev"))
  | (apply ev_bits; walk_at "ev"))

/-- what _done tells -/
def RetO (o : Option (Int × Int)) (H : Hp) (Q : VK) : Prop := match o with
  | none => RetV .non H Q
  | some (x, y) => ∀ t H2, H t = none → Ex H H2 → H2 t = some (.tup [.int x, .int y]) → Q (.ref t) H2
theorem RetO.go {o : Option (Int × Int)} {H H1 : Hp} {Q : VK} (e : Ex H H1) (h : RetO o H Q) : RetO o H1 Q := by
  cases o with
  | none => exact fun H2 e2 => h H2 (e.trans e2)
  | some p => exact fun t H2 nt e2 ht => h t H2 (free_of e nt) (e.trans e2) ht
def spD (K : PySem.W.Frag) (L : Addr) : Sp := fun vs H Q _ => ∃ (p a : Addr) (ns rs : List Int) (st : Option Int) (i : Nat), vs = [.ref p, .ref a, .int i] ∧ LetsAt L H p ns st ∧ SqL K H a (rs.map V.int) ∧ i + 1 < rs.length ∧ RetO (doneI ns st rs i) H Q
def spRowDone (K : PySem.W.Frag) (L C D S : Addr) : Sp := fun vs H Q E => ∃ l v u, vs = [l, v, u] ∧ ((∃ p ns st d e, l = .ref p ∧ LetsAt L H p ns st ∧ Rp K H v d ∧ Rp K H u e ∧ (isRow d = false → RaisesV C v H E) ∧ (isRow d = true → placeNo (lenD d) e = true → RaisesV D u H E) ∧
  (∀ (rs : List Int) (i : Nat), d = .list (rs.map .int) → isRow d = true → e = .int i → i + 1 < rs.length → (∀ x y, doneI ns st rs i = some (x, y) → RetL ((put2 rs i x y).map V.int) H Q) ∧ (doneI ns st rs i = none → RaisesV D u H E))) ∨
  (∃ d, Rp K H l d ∧ RaisesV S l H E))
def openI (ns : List Int) (st : Option Int) (rs : List Int) : List Int := ((List.range (rs.length - 1)).filter fun i => (doneI ns st rs i).isSome).map fun i : Nat => (i : Int)
def spOpen (K : PySem.W.Frag) (L C S : Addr) : Sp := fun vs H Q E => ∃ l v, vs = [l, v] ∧ ((∃ p ns st d, l = .ref p ∧ LetsAt L H p ns st ∧ Rp K H v d ∧ (isRow d = false → RaisesV C v H E) ∧
  (∀ rs : List Int, d = .list (rs.map .int) → isRow d = true → RetL ((openI ns st rs).map V.int) H Q)) ∨ (∃ d, Rp K H l d ∧ RaisesV S l H E))
theorem q_parA {σ : L2.St} {H : Hp} {D : Ends} {tz : TS} {ta : TA} {i j : Nat} {v w : V} (h : EvA ta σ H [v, w]) (k : ∀ H1, Ex H H1 → tz D ((σ.set i (some v)).set j (some w)) H1) : tSeq (tPar i j ta) tz D σ H :=
  h H (Ex.refl H) _ fun H1 e => ⟨v, w, rfl, k H1 e⟩
section
variable {P : Program} {w : World} {K : PySem.W.Frag} {mg : Str → Option Value} {base : Heap}
theorem ok_nr (T : Tx K mg) : FnOk P w K mg base (L2.CX P w) 4 T.a_need_row T.fd_need_row P_need_row (spNeed K T.a_InvalidRow isRow) := by
  have c_is_row := ok_row (P := P) (w := w) (base := base) T
  have c_InvalidRow_init := ok_initR (P := P) (w := w) (base := base) T
  refine T.F_need_row.okX sc_need_row (fun vs H Q E h => ?_) (fun cdv A outer s H vs Q E hr h => ?_)
  · obtain ⟨v, d, rfl, _⟩ := h
    rfl
  · obtain ⟨v, d, rfl, hd, q, r⟩ := h
    refine ⟨_, (pss_one (ps_if (pt_not (pt_val (pe_call c_is_row (hr.mono (by decide)) (by rfl) T.g_is_row T.F_is_row.kp T.b_is_row .nil pass0 (pa_cons (pv 0) pa_nil)))) (pss_one (ps_raise rfl (takes_of rfl rfl rfl rfl) (pmk_oex T.x_InvalidRow T.i_InvalidRow T.t_InvalidRow c_InvalidRow_init (hr.mono (by decide)) T.bi_InvalidRow .nil pass0 (by rfl) T.g_InvalidRow (pa_cons (pv 0) pa_nil)))) pss_nil)), ?_⟩
    apply s_when (b := !isRow d)
    · exact et_not (et_B (ev_tell (ed_var rfl hd)))
    · intro hb H1 e1
      exact tMkO_of (v := v) (ea_cons (ev_var rfl) ea_nil) ((r (not_true hb)).go e1)
    · exact fun hb H1 e1 => q (not_false' hb) H1 e1
theorem ok_done (T : Tx K mg) : FnOk P w K mg base CX0 3 T.a_done T.fd_done P_done (spD K T.a_Lets) := by
  have c_Lets_contains := ok_in (P := P) (w := w) (base := base) T
  refine T.F_done.ok sc_done (fun vs H Q E h => ?_) (fun cdv A outer s H vs Q E hr h => ?_)
  · obtain ⟨p, a, ns, rs, st, i, rfl, _⟩ := h
    rfl
  · obtain ⟨p, a, ns, rs, st, i, rfl, hl, hs, hi, q⟩ := h
    refine ⟨_, (pss_cons (ps_par (i := 3) (j := 4) rfl nd_done rfl rfl (by decide) rfl rfl (pa_cons (pe_ix (k_ixl (K := K) rfl) (pv 1) (pv 2) (fun _ _ => rfl)) (pa_cons (pe_ix (k_ixl (K := K) rfl) (pv 1) (pe_op op_add (pv 2) pe_int) (fun _ _ => rfl)) pa_nil)) (by rfl))
      (pss_cons (ps_if (pt_cmpR (k_inOwn (K := K) rfl T.me_Lets_contains.at_ T.me_Lets_contains.fn c_Lets_contains (hr.mono (by decide)) T.b_Lets_contains pass0) (pe_op op_sub (pe_op op_sub (pv 4) (pv 3)) pe_int) (pv 0) rfl) (pss_one (ps_ret (pe_tup (pa_cons (pe_op op_sub (pv 4) pe_int) (pa_cons (pv 3) pa_nil))))) pss_nil)
      (pss_cons (ps_if (pt_cmpR (k_inOwn (K := K) rfl T.me_Lets_contains.at_ T.me_Lets_contains.fn c_Lets_contains (hr.mono (by decide)) T.b_Lets_contains pass0) (pe_op op_sub (pv 3) (pv 4)) (pv 0) rfl) (pss_one (ps_ret (pe_tup (pa_cons (pv 4) (pa_cons (pe_op op_add (pv 3) pe_int) pa_nil))))) pss_nil)
      (pss_one (ps_ret pe_non))))), ?_⟩
    have g0 : rs[i]? = some (rs.getD i 0) := by rw [List.getD_eq_getElem?_getD, List.getElem?_eq_getElem (by omega)]; rfl
    have g1 : rs[i + 1]? = some (rs.getD (i + 1) 0) := by rw [List.getD_eq_getElem?_getD, List.getElem?_eq_getElem hi]; rfl
    have two : EvA (tCons (tOp (rIxL K) (tVar 1) (tVar 2)) (tCons (tOp (rIxL K) (tVar 1) (tOp (rI0 fun i j => V.int (i + j)) (tVar 2) (tC (V.int 1)))) tNil)) (L2.start N_done [V.ref p, V.ref a, V.int i]) H [.int (rs.getD i 0), .int (rs.getD (i + 1) 0)] :=
      ea_cons (ev_op (ev_var rfl) (ev_var rfl) (rv_ixL hs (atI_int g0))) (ea_cons (ev_op (ev_var rfl) (ev_is (ev_op (ev_var rfl) ev_c rv_I0) (by show V.int ((i : Int) + 1) = .int ((i + 1 : Nat) : Int); push_cast; rfl)) (rv_ixL hs (atI_int g1))) ea_nil)
    refine q_parA two fun H1 e1 => ?_
    have hl1 := hl.mono e1
    unfold doneI at q
    apply q_when (b := memB ns st (rs.getD (i + 1) 0 - rs.getD i 0 - 1))
    · exact et_test (ev_inI (ev_op (ev_op (ev_var rfl) (ev_var rfl) rv_I0) ev_c rv_I0) (ev_var rfl) hl1)
    · intro hb H2 e2
      rw [if_pos hb] at q
      exact s_retU (eu_tup (ea_cons (ev_op (ev_var rfl) ev_c rv_I0) (ea_cons (ev_var rfl) ea_nil)) (by show 2 ≤ 100000; decide)) fun t H3 nt e3 ht => q t H3 (free_of (e1.trans e2) nt) ((e1.trans e2).trans e3) ht
    intro hb H2 e2
    rw [if_neg (by rw [hb]; decide)] at q
    apply q_when (b := memB ns st (rs.getD i 0 - rs.getD (i + 1) 0))
    · exact et_test (ev_inI (ev_op (ev_var rfl) (ev_var rfl) rv_I0) (ev_var rfl) (hl1.mono e2))
    · intro hb2 H3 e3
      rw [if_pos hb2] at q
      exact s_retU (eu_tup (ea_cons (ev_var rfl) (ea_cons (ev_op (ev_var rfl) ev_c rv_I0) ea_nil)) (by show 2 ≤ 100000; decide)) fun t H4 nt e4 ht => q t H4 (free_of ((e1.trans e2).trans e3) nt) (((e1.trans e2).trans e3).trans e4) ht
    intro hb2 H3 e3
    rw [if_neg (by rw [hb2]; decide)] at q
    apply s_ret ev_c
    exact fun H4 e4 => q H4 (((e1.trans e2).trans e3).trans e4)
theorem isRow_int {d : PyData} (h : isRow d = true) : ∃ rs : List Int, d = .list (rs.map .int) ∧ rs.length ≤ 200 := by
  cases d with
  | list ds =>
    obtain ⟨h3, h4⟩ := isRow_ints h
    refine ⟨intsD ds, by rw [← h3], ?_⟩
    show (ds.map intD).length ≤ 200
    rw [List.length_map]; exact h4
  | _ => cases h
theorem ok_rowdone (T : Tx K mg) : FnOk P w K mg base (L2.CX P w) 6 T.a_row_done T.fd_row_done P_row_done (spRowDone K T.a_Lets T.a_InvalidRow T.a_InvalidPlace T.a_InvalidLets) := by
  have c_need_lets := ok_nl (P := P) (w := w) (base := base) T
  have c_need_row := ok_nr (P := P) (w := w) (base := base) T
  have c_need_place := ok_np (P := P) (w := w) (base := base) T
  have c_done := ok_done (P := P) (w := w) (base := base) T
  have c_InvalidPlace_init := ok_initP (P := P) (w := w) (base := base) T
  refine T.F_row_done.okX sc_row_done (fun vs H Q E h => ?_) (fun cdv A outer s H vs Q E hr h => ?_)
  · obtain ⟨l, v, u, rfl, _⟩ := h
    rfl
  · obtain ⟨l, v, u, rfl, hc⟩ := h
    refine ⟨_, (pss_cons (ps_expr (pe_call c_need_lets (hr.mono (by decide)) (by rfl) T.g_need_lets T.F_need_lets.kp T.b_need_lets .nil (passes_call (takes_of rfl rfl rfl rfl) (fun _ _ _ _ h => h)) (pa_cons (pv 0) pa_nil)))
      (pss_cons (ps_expr (pe_call c_need_row (hr.mono (by decide)) (by rfl) T.g_need_row T.F_need_row.kp T.b_need_row .nil (passes_call (takes_of rfl rfl rfl rfl) (fun _ _ _ _ h => h)) (pa_cons (pv 1) pa_nil)))
      (pss_cons (ps_expr (pe_call c_need_place (hr.mono (by decide)) (by rfl) T.g_need_place T.F_need_place.kp T.b_need_place .nil (passes_call (takes_of rfl rfl rfl rfl) (fun _ _ _ _ h => h)) (pa_cons (pv 1) (pa_cons (pv 2) pa_nil))))
      (pss_cons (ps_set (i := 3) nd_row_done rfl (.inl rfl) (pe_call c_done (hr.mono (by decide)) (by rfl) T.g_done T.F_done.kp T.b_done .nil pass0 (pa_cons (pv 0) (pa_cons (pv 1) (pa_cons (pv 2) pa_nil)))))
      (pss_cons (ps_if (pt_cmpR c_isN (pv 3) pe_non (nomark _)) (pss_one (ps_raise rfl (takes_of rfl rfl rfl rfl) (pmk_oex T.x_InvalidPlace T.i_InvalidPlace T.t_InvalidPlace c_InvalidPlace_init (hr.mono (by decide)) T.bi_InvalidPlace .nil pass0 (by rfl) T.g_InvalidPlace (pa_cons (pv 2) pa_nil)))) pss_nil)
      (pss_one (ps_ret (pe_op op_cat (pe_op op_cat (pe_slice (k_sll (K := K) rfl) (pv 1) po_none (po_some (pv 2))) (pe_callTy (k_list (K := K) rfl) (by rfl) T.m_list (by decide +kernel) (pa_cons (pv 3) pa_nil))) (pe_slice (k_sll (K := K) rfl) (pv 1) (po_some (pe_op op_add (pv 2) pe_int)) po_none))))))))), ?_⟩
    apply q_do
    rcases hc with ⟨p, ns, st, d, e, rfl, hl, hd, hu, r1, r2, q⟩ | ⟨d, hd, r⟩
    · refine ⟨.ref p, rfl, .ref p, rfl, .inl ⟨p, ns, st, rfl, hl, fun H1 e1 => ?_⟩⟩
      apply q_do
      refine ⟨v, rfl, v, d, rfl, hd.to e1, fun ht => ?_, fun hb => (r1 hb).go e1⟩
      intro H2 e2
      have e12 := e1.trans e2
      obtain ⟨rs, rfl, hml⟩ := isRow_int ht
      cases hd with
      | @lst a xs ds hx hs =>
        have hv := rp_ints hs
        subst hv
        apply q_do
        have ll : (rs.map V.int).length = lenD (.list (rs.map .int)) := by rw [List.length_map]; exact (List.length_map _).symm
        refine ⟨.ref a, rfl, u, rfl, a, _, u, e, rfl, ex_l e12 hx, hu.to e12, fun hb => ?_, fun hb => (r2 ht (by rw [← ll]; exact hb)).go e12⟩
        intro H3 e3
        have e13 := e12.trans e3
        rw [List.length_map] at hb
        obtain ⟨i, rfl, hi⟩ := place_ok hb
        cases hu
        obtain ⟨q1, q2⟩ := q rs i rfl ht rfl hi
        have hx3 := ex_l e13 hx
        apply q_set
        refine ⟨.ref p, rfl, .ref a, rfl, .int i, rfl, p, a, ns, rs, st, i, rfl, hl.mono e13, hx3, hi, ?_⟩
        cases hdn : doneI ns st rs i with
        | none =>
          intro H4 e4
          apply q_when (b := true)
          · exact et_test (ev_is (ev_isN (x := .non) (ev_var rfl)) rfl)
          · intro _ H5 e5
            exact tMkO_of (v := .int i) (ea_cons (ev_var rfl) ea_nil) ((q2 hdn).go ((e13.trans e4).trans e5))
          · intro z; cases z
        | some xy =>
          obtain ⟨x, y⟩ := xy
          intro t H4 nt e4 ht4
          have hx4 := ex_l e4 hx3
          refine no_if (et_test (ev_is (ev_isN (x := .ref t) (ev_var rfl)) rfl)) fun H5 e5 => ?_
          apply s_retL (xs := (put2 rs i x y).map V.int)
          · have lt : EvL (tCB (rListS K) (tCons (tVar 3) tNil)) [some (.ref p), some (.ref a), some (.int i), some (.ref t)] H5 [.int x, .int y] := fun H6 e6 Q6 q6 => ⟨.ref t, rfl, t, _, rfl, .inr (st_of (e6 _ _ (e5 _ _ ht4))), fun z nz => q6 z _ nz (Ex.new nz) upd_same⟩
            have i2 : Ev (tOp (rI0 fun i j => V.int (i + j)) (tVar 2) (tC (V.int 2))) [some (.ref p), some (.ref a), some (.int i), some (.ref t)] H5 (.int ((i + 2 : Nat) : Int)) := ev_is (ev_op (ev_var rfl) ev_c rv_I0) (by show V.int ((i : Int) + 2) = .int ((i + 2 : Nat) : Int); push_cast; rfl)
            have hx5 := ex_l e5 hx4
            have v1 : Ev (tVar 1) [some (.ref p), some (.ref a), some (.int i), some (.ref t)] H5 (.ref a) := ev_var rfl
            have v2 : Ev (tVar 2) [some (.ref p), some (.ref a), some (.int i), some (.ref t)] H5 (.int i) := ev_var rfl
            have z := el_cat (el_cat (el_sl v1 eo_none (eo_some v2) hx5) lt (by rw [cut_to, List.length_take, List.length_map]; show _ + 2 ≤ _; omega)) (el_sl v1 (eo_some i2) eo_none hx5) (by
              rw [cut_to, cut_from, List.length_append, List.length_take, List.length_drop, List.length_map]; show _ + 2 + _ ≤ _; omega)
            rw [cut_to, cut_from] at z
            refine el_is' z ?_
            unfold put2
            rw [List.map_append, List.map_append, List.map_take, List.map_drop]
            rfl
          · exact fun p5 H6 n6 e6 h6 => q1 x y hdn p5 H6 (free_of ((e13.trans e4).trans e5) n6) (((e13.trans e4).trans e5).trans e6) h6
    · exact ⟨l, rfl, l, rfl, .inr ⟨d, hd, r⟩⟩
theorem ok_open (T : Tx K mg) : FnOk P w K mg base (L2.CX P w) 6 T.a_open_places T.fd_open_places P_open_places (spOpen K T.a_Lets T.a_InvalidRow T.a_InvalidLets) := by
  have c_need_lets := ok_nl (P := P) (w := w) (base := base) T
  have c_need_row := ok_nr (P := P) (w := w) (base := base) T
  have c_done := ok_done (P := P) (w := w) (base := base) T
  refine T.F_open_places.okX sc_open_places (fun vs H Q E h => ?_) (fun cdv A outer s H vs Q E hr h => ?_)
  · obtain ⟨l, v, rfl, _⟩ := h
    rfl
  · obtain ⟨l, v, rfl, hc⟩ := h
    refine ⟨_, (pss_cons (ps_expr (pe_call c_need_lets (hr.mono (by decide)) (by rfl) T.g_need_lets T.F_need_lets.kp T.b_need_lets .nil (passes_call (takes_of rfl rfl rfl rfl) (fun _ _ _ _ h => h)) (pa_cons (pv 0) pa_nil)))
      (pss_cons (ps_expr (pe_call c_need_row (hr.mono (by decide)) (by rfl) T.g_need_row T.F_need_row.kp T.b_need_row .nil (passes_call (takes_of rfl rfl rfl rfl) (fun _ _ _ _ h => h)) (pa_cons (pv 1) pa_nil)))
      (pss_one (ps_ret (pe_lc (own := [("at", 2)]) rfl nd_open_places (pi_range1 (by rfl) T.m_range (pa_cons (pe_op op_sub (pe_callB (k_len (K := K) rfl) (by rfl) T.m_len (by decide +kernel) (pa_cons (pv 1) pa_nil)) pe_int) pa_nil)) (blkOk_by (N := N_open_places) (sc := (defScope s_open_places)) (by decide +kernel)) (fun _ _ _ _ _ => pg_name (i := 2) nd_open_places rfl (.inl rfl)) (fun _ _ _ _ _ => pts_one (pt_cmpR c_notN (pe_call c_done (hr.mono (by decide)) (by rfl) T.g_done T.F_done.kp T.b_done .nil pass0 (pa_cons (pv 0) (pa_cons (pv 1) (pa_cons (pv 2) pa_nil)))) pe_non (nomark _))) (fun _ _ _ _ _ => (pv 2))))))), ?_⟩
    apply q_do
    rcases hc with ⟨p, ns, st, d, rfl, hl, hd, r1, q⟩ | ⟨d, hd, r⟩
    · refine ⟨.ref p, rfl, .ref p, rfl, .inl ⟨p, ns, st, rfl, hl, fun H1 e1 => ?_⟩⟩
      apply q_do
      refine ⟨v, rfl, v, d, rfl, hd.to e1, fun ht => ?_, fun hb => (r1 hb).go e1⟩
      intro H2 e2
      have e12 := e1.trans e2
      obtain ⟨rs, rfl, hml⟩ := isRow_int ht
      cases hd with
      | @lst a xs ds hx hs =>
        have hv := rp_ints hs
        subst hv
        have hx2 := ex_l e12 hx
        apply s_retL (xs := (openI ns st rs).map V.int)
        · have en : ((rs.length : Int) - 1).toNat = rs.length - 1 := by omega
          refine el_is' (el_lcRn (n := (rs.length : Int) - 1) (fun i => (doneI ns st rs i).isSome) (fun i => .int (i : Nat)) (ea_cons (ev_op (ev_is (ev_len (ev_var rfl) hx2) (by rw [List.length_map])) ev_c rv_I0) ea_nil) ⟨by omega, by omega⟩ (fun x => rfl) ?_ ?_) ?_
          · intro i H3 e3 hi H4 e4 Q4 q4
            have e34 := e12.trans (e3.trans e4)
            refine ⟨.ref p, rfl, .ref a, rfl, .int i, rfl, p, a, ns, rs, st, i, rfl, hl.mono e34, ex_l e34 hx, by omega, ?_⟩
            have q5 : ∀ H2, Ex H4 H2 → Q4 (doneI ns st rs i).isSome H2 := q4
            cases hd2 : doneI ns st rs i with
            | none =>
              rw [hd2] at q5
              exact fun H5 e5 => (ev_is (ev_notN (x := .non) (ta := tC .non) ev_c) rfl : Ev (tOp rNotNone (tC .non) (tC .non)) [] H5 (.bl false)) H5 (Ex.refl _) (fun x H' => ∃ k, x = V.bl k ∧ Q4 k H') fun H6 e6 => ⟨false, rfl, q5 H6 (e5.trans e6)⟩
            | some xy =>
              rw [hd2] at q5
              exact fun t H5 nt e5 ht5 => (ev_is (ev_notN (x := .ref t) (ta := tC (.ref t)) ev_c) rfl : Ev (tOp rNotNone (tC (.ref t)) (tC .non)) [] H5 (.bl true)) H5 (Ex.refl _) (fun x H' => ∃ k, x = V.bl k ∧ Q4 k H') fun H6 e6 => ⟨true, rfl, q5 H6 (e5.trans e6)⟩
          · intro i H3 e3 hi _
            exact ev_var rfl
          · rw [en]
            unfold openI given
            rw [List.map_map]
            rfl
        · exact fun p5 H3 n3 e3 h3 => q rs rfl ht p5 H3 (free_of e12 n3) (e12.trans e3) h3
    · exact ⟨l, rfl, l, rfl, .inr ⟨d, hd, r⟩⟩
end
end K05




set_option Elab.async false
set_option linter.all false
set_option maxRecDepth 100000
set_option maxHeartbeats 400000
namespace K05
open PySem PySem.Spec PyProof.Rows L2 Evl GS
local macro_rules | `(tactic| walk_at "bits") => `(tactic| first | (refine bits64 ?_; omega) | (apply bitsM; (focus walk_at "bits"); (focus walk_at "bits")))
local macro_rules | `(tactic| walk_at "side") => `(tactic| first
  | (apply CMulX.of; (focus walk_at "bits"); (focus walk_at "bits"); decide)
  | (dsimp only; omega) | assumption | decide)
local macro_rules | `(tactic| walk_at "rv") => `(tactic| first | exact rv_I0 | (apply rv_I; walk_at "side"))
local macro_rules | `(tactic| walk_at "ev") => `(tactic| first
  | exact ev_c
  | exact ev_var rfl
  | (apply ev_op; (focus walk_at "ev"); (focus walk_at "ev"); (focus walk_at "rv"))
  | (apply ev_int1; walk_at "ev")
  | (apply ev_max2; (focus walk_at "ev"); (focus walk_at "ev"))
  | (apply ev_bits; walk_at "ev"))

def WayAt (H : Hp) (t : Addr) (ns : List Int) (st : Option Int) : Prop := ∃ l, H t = some (.tup [.ref l, stV st]) ∧ H l = some (.lst (ns.map V.int))
theorem WayAt.mono {H H2 : Hp} {t : Addr} {ns : List Int} {st : Option Int} (e : Ex H H2) (h : WayAt H t ns st) : WayAt H2 t ns st := by
  obtain ⟨l, h1, h2⟩ := h
  exact ⟨l, e _ _ h1, e _ _ h2⟩
/-- a way that is not there in H0 -/
def IsWay (H0 H : Hp) (v : V) : Prop := ∃ (t l : Addr) (ns : List Int) (st : Option Int), v = .ref t ∧ H t = some (.tup [.ref l, stV st]) ∧ H l = some (.lst (ns.map V.int)) ∧ H0 t = none ∧ H0 l = none ∧ Told (ns.reverse ++ ns) st
theorem IsWay.mono {H0 H H2 : Hp} {v : V} (e : Ex H H2) (h : IsWay H0 H v) : IsWay H0 H2 v := by
  obtain ⟨t, l, ns, st, h0, h1, h2, h3⟩ := h
  exact ⟨t, l, ns, st, h0, e _ _ h1, e _ _ h2, h3⟩
def EvW (H0 : Hp) (ta : TA) (σ : L2.St) (H : Hp) (n : Nat) : Prop := ∀ H1, Ex H H1 → ∀ Q : List V → Hp → Prop, (∀ vs H2, Ex H1 H2 → vs.length = n → (∀ v ∈ vs, IsWay H0 H2 v) → Q vs H2) → ta σ H1 Q
def spMenu : Sp := fun vs H Q _ => vs = [] ∧ ∀ p xs H2, H p = none → Ex H H2 → H2 p = some (.lst xs) → xs.length = 16 → (∀ v ∈ xs, IsWay H H2 v) → Q (.ref p) H2
def spLet (K : PySem.W.Frag) : Sp := fun vs H Q _ => ∃ (t : Addr) (ns : List Int) (st : Option Int) (c : Int), vs = [.ref t, .int c] ∧ WayAt H t ns st ∧ RetV (.bl (decide (0 < c) && memB ns st c)) H Q
def spLets (K : PySem.W.Frag) (C : Addr) : Sp := fun vs H Q _ => ∃ (t : Addr) (ns : List Int) (st : Option Int), vs = [.ref t] ∧ WayAt H t ns st ∧ Told (ns.reverse ++ ns) st ∧
  ∀ p H2, H p = none → Ex H H2 → LetsN C H H2 p (formN (ns.reverse ++ ns) st) (formS (ns.reverse ++ ns) st) → Q (.ref p) H2
section
variable {K : PySem.W.Frag} {σ : L2.St} {H : Hp} {ta tb te : TE}
theorem ev_ixT {p : Addr} {xs : List V} {i : Int} {v : V} (ha : Ev ta σ H (.ref p)) (hb : Ev tb σ H (.int i)) (h : SqT K H p xs) (hi : atI xs i = some v) : Ev (tOp (rIxT K) ta tb) σ H v := ev_op ha hb (rv_ixT h hi)
theorem el_rev {p : Addr} {xs : List V} (ha : Ev ta σ H (.ref p)) (h : SqL K H p xs) : EvL (tRevL K ta) σ H xs.reverse := fun H1 e Q q =>
  ha H1 e _ fun H2 e2 => ⟨p, xs, rfl, ex_l (e.trans e2) h, fun r nr => q r _ (free_of e2 nr) (e2.trans (Ex.new nr)) upd_same⟩
/-- a new list and one that is there -/
theorem el_catL {p : Addr} {xs ys : List V} (ha : EvL ta σ H xs) (hb : Ev tb σ H (.ref p)) (h : H p = some (.lst ys)) (hl : xs.length + ys.length ≤ 100000) : EvL (tOp rCat ta tb) σ H (xs ++ ys) := fun H1 e Q q =>
  ha H1 e _ fun a H2 na e2 hx => hb H2 (e.trans e2) _ fun H3 e3 => ⟨a, p, xs, ys, rfl, rfl, e3 _ _ hx, ((e.trans e2).trans e3) _ _ h, sz_of hl, fun r nr => q r _ (free_of (e2.trans e3) nr) ((e2.trans e3).trans (Ex.new nr)) upd_same⟩
theorem el_makeN0' {C a : Addr} {E : XK} {ns : List Int} (ha : Ev ta σ H (.ref a)) (hs : SqL K H a (ns.map V.int)) (told : Told ns none) : EvLets C (tMake C (spSettle K C) [.non] E (tCons ta tNil)) σ H (formN ns none) none := fun H1 e Q q =>
  ha H1 e _ fun H2 e2 => go_make (st := none) (ex_l (e.trans e2) hs) told fun p H4 np e4 hl => q p H4 (free_of e2 np) (e2.trans e4) (hl.less e2)
theorem ret_lets {C : Addr} {D : Ends} {ns : List Int} {st : Option Int} (h : EvLets C ta σ H ns st) (k : ∀ p H2, H p = none → Ex H H2 → LetsN C H H2 p ns st → D.rt (.ref p) H2) : tRet ta D σ H := h H (Ex.refl _) _ k
theorem el_ifL {C : Addr} {t : TT} {b : Bool} {ns : List Int} {st : Option Int} (h : EvT t σ H b) (h1 : b = true → EvLets C ta σ H ns st) (h2 : b = false → EvLets C tb σ H ns st) : EvLets C (tIf t ta tb) σ H ns st := fun H1 e Q q =>
  h H1 e _ fun H2 e2 => by
    have k : ∀ {te : TE}, EvLets C te σ H ns st → te σ H2 Q := fun z => z H2 (e.trans e2) Q fun p H3 n3 e3 hl => q p H3 (free_of e2 n3) (e2.trans e3) (hl.less e2)
    cases b with
    | true => exact k (h1 rfl)
    | false => exact k (h2 rfl)
theorem ew_nil {H0 : Hp} : EvW H0 tNil σ H 0 := fun H1 _ Q q => q [] H1 (Ex.refl _) rfl fun v hv => by cases hv
theorem ew_cons {H0 : Hp} {tr : TA} {ns : List Int} {st : Option Int} {n : Nat} (e0 : Ex H0 H) (h : EvL ta σ H (ns.map V.int)) (c : Ev tb σ H (stV st)) (ok : Told (ns.reverse ++ ns) st) (hr : EvW H0 tr σ H n) : EvW H0 (tCons (tTup (tCons ta (tCons tb tNil))) tr) σ H (n + 1) := fun H1 e Q q =>
  h H1 e _ fun l H2 nl e2 hl => c H2 (e.trans e2) _ fun H3 e3 => ⟨sz_of (by show 2 ≤ 100000; decide), fun t nt => by
    have e13 := (e2.trans e3).trans (Ex.new (o := .tup [.ref l, stV st]) nt)
    refine hr _ (e.trans e13) _ fun vs H4 e4 hl4 hv => q (.ref t :: vs) H4 (e13.trans e4) (by rw [List.length_cons, hl4]) fun v hm => ?_
    rcases List.mem_cons.mp hm with rfl | hm
    · exact ⟨t, l, ns, st, rfl, e4 _ _ upd_same, e4 _ _ (Ex.new nt _ _ (e3 _ _ hl)), free_of (((e0.trans e).trans e2).trans e3) nt, free_of (e0.trans e) nl, ok⟩
    · exact hv v hm⟩
end
section
variable {P : Program} {w : World} {K : PySem.W.Frag} {mg : Str → Option Value} {base : Heap}
theorem ok_let (T : Tx K mg) : FnOk P w K mg base CX0 1 T.a_l_let T.fd_l_let P_l_let (spLet K) := by
  refine T.F_l_let.ok sc_l_let (fun vs H Q E h => ?_) (fun cdv A outer s H vs Q E hr h => ?_)
  · obtain ⟨t, ns, st, c, rfl, _⟩ := h
    rfl
  · obtain ⟨t, ns, st, c, rfl, ⟨l, h1, h2⟩, q⟩ := h
    refine ⟨_, (pss_one (ps_ret (pe_and (pe_cmpR op_gt (pv 1) pe_int (nomark _)) (pe_one (pe_or (pe_cmpR op_in_seq (pv 1) (pe_ix (k_ixt (K := K) rfl) (pv 0) pe_int (fun _ _ => rfl)) rfl) (pe_one (pe_and (pe_cmpR c_notN (pe_ix (k_ixt (K := K) rfl) (pv 0) pe_int (fun _ _ => rfl)) pe_non (nomark _)) (pe_one (pe_cmpR op_ge (pv 1) (pe_ix (k_ixt (K := K) rfl) (pv 0) pe_int (fun _ _ => rfl)) (nomark _)))))))))), ?_⟩
    have ix0 : Ev (tOp (rIxT K) (tVar 0) (tC (V.int 0))) (L2.start N_l_let [V.ref t, V.int c]) H (.ref l) := ev_ixT (ev_var rfl) ev_c (st_of h1) rfl
    have ix1 : Ev (tOp (rIxT K) (tVar 0) (tC (V.int 1))) (L2.start N_l_let [V.ref t, V.int c]) H (stV st) := ev_ixT (ev_var rfl) ev_c (st_of h1) rfl
    apply s_ret (v := .bl (decide (0 < c) && memB ns st c))
    · unfold memB
      apply ev_andV
      · exact ev_op (ev_var rfl) ev_c rv_I0
      · intro _
        apply ev_orV
        · exact ev_inInts (ev_var rfl) ix0 (sq_of h2)
        · intro _
          cases st with
          | none => exact ev_is (v := .bl (false && false)) (ev_andV (ev_is (ev_notN (x := .non) ix1) rfl) fun h => by cases h) rfl
          | some s => exact ev_is (v := .bl (true && decide (s ≤ c))) (ev_andV (ev_is (ev_notN (x := .int s) ix1) rfl) fun _ => ev_op (ev_var rfl) ix1 rv_I0) (by rw [Bool.true_and])
    · exact fun H2 e2 => q H2 e2
theorem ok_lets (T : Tx K mg) : FnOk P w K mg base CX0 6 T.a_l_lets T.fd_l_lets P_l_lets (spLets K T.a_Lets) := by
  have c_Lets_init := ok_linit (P := P) (w := w) (base := base) T
  refine T.F_l_lets.ok sc_l_lets (fun vs H Q E h => ?_) (fun cdv A outer s H vs Q E hr h => ?_)
  · obtain ⟨t, ns, st, rfl, _⟩ := h
    rfl
  · obtain ⟨t, ns, st, rfl, ⟨l, h1, h2⟩, told, q⟩ := h
    refine ⟨_, (pss_cons (ps_set (i := 1) nd_l_lets rfl (.inl rfl) (pe_op op_cat (k_revL (K := K) rfl (pe_ix (k_ixt (K := K) rfl) (pv 0) pe_int (fun _ _ => rfl))) (pe_ix (k_ixt (K := K) rfl) (pv 0) pe_int (fun _ _ => rfl))))
      (pss_one (ps_ret (pe_ifExp (pt_cmpR c_isN (pe_ix (k_ixt (K := K) rfl) (pv 0) pe_int (fun _ _ => rfl)) pe_non (nomark _)) (pe_make T.M_Lets c_Lets_init (hr.mono (by decide)) (by rfl) T.g_Lets T.bd_Lets_init v_none1 passL (pa_cons (pv 1) pa_nil)) (pe_make T.M_Lets c_Lets_init (hr.mono (by decide)) (by rfl) T.g_Lets T.b_Lets_init .nil passL (pa_cons (pv 1) (pa_cons (pe_ix (k_ixt (K := K) rfl) (pv 0) pe_int (fun _ _ => rfl)) pa_nil))))))), ?_⟩
    have ix0 : Ev (tOp (rIxT K) (tVar 0) (tC (V.int 0))) (L2.start N_l_lets [V.ref t]) H (.ref l) := ev_ixT (ev_var rfl) ev_c (st_of h1) rfl
    apply q_asgL (xs := (ns.reverse ++ ns).map V.int)
    · refine el_is' (el_catL (el_rev ix0 (sq_of h2)) ix0 h2 (by rw [List.length_reverse, List.length_map]; have := told.len; rw [List.length_append, List.length_reverse] at this; omega)) ?_
      rw [List.map_append, List.map_reverse]
    intro p H1 np e1 hp
    have ix1 : Ev (tOp (rIxT K) (tVar 0) (tC (V.int 1))) [some (.ref t), some (.ref p)] H1 (stV st) := ev_ixT (ev_var rfl) ev_c (st_of (e1 _ _ h1)) rfl
    refine ret_lets (C := T.a_Lets) (ns := formN (ns.reverse ++ ns) st) (st := formS (ns.reverse ++ ns) st) ?_ fun p2 H2 n2 e2 h2 => q p2 H2 (free_of e1 n2) (e1.trans e2) (h2.less e1)
    cases st with
    | none => exact el_ifL (b := true) (et_test (ev_is (ev_isN (x := .non) ix1) rfl)) (fun _ => el_makeN0' (ev_var rfl) (sq_of hp) told) fun z => by cases z
    | some s => exact el_ifL (b := false) (et_test (ev_is (ev_isN (x := .int s) ix1) rfl)) (fun z => by cases z) fun _ => el_make (st := some s) (ev_var rfl) (sq_of hp) ix1 told
theorem ok_lleft (T : Tx K mg) : FnOk P w K mg base CX0 1 T.a_l_left T.fd_l_left P_l_left (spLeft K) := by
  refine T.F_l_left.ok sc_l_left (fun vs H Q E h => ?_) (fun cdv A outer s H vs Q E hr h => ?_)
  · obtain ⟨a, ns, i, rfl, _⟩ := h
    rfl
  · obtain ⟨a, ns, i, rfl, hs, hi, hl, q⟩ := h
    refine ⟨_, (pss_cons (ps_asg (pe_callB (k_sorted (K := K) rfl) (by rfl) T.m_sorted (by decide +kernel) (pa_cons (pe_slice (k_sll (K := K) rfl) (pv 0) (po_some (pv 1)) (po_some (pe_op op_add (pv 1) pe_int))) pa_nil)) (k_glst (K := K) (n := 2) rfl rfl (pgs_cons (pg_name (i := 2) nd_l_left rfl (.inr rfl)) (pgs_cons (pg_name (i := 3) nd_l_left rfl (.inr rfl)) pgs_nil))))
      (pss_one (ps_ret (pe_callB (k_len (K := K) rfl) (by rfl) T.m_len (by decide +kernel) (pa_cons (pe_lc (own := [("_law_item", 4)]) rfl nd_l_left (k_pil (K := K) rfl (pe_slice (k_sll (K := K) rfl) (pv 0) po_none (po_some (pv 1)))) (blkOk_by (N := N_l_left) (sc := (defScope s_l_left)) (by decide +kernel)) (fun _ _ _ _ _ => pg_name (i := 4) nd_l_left rfl (.inl rfl)) (fun _ _ _ _ _ => pts_one (pt_chain op_lt op_lt (pv 2) (pv 4) (pv 3))) (fun _ _ _ _ _ => (pv 4))) pa_nil))))), ?_⟩
    refine (el_sortN (ns := [ns.getD i 0, ns.getD (i + 1) 0]) (el_is' (el_sl (ev_var rfl) (eo_some (ev_var rfl)) (eo_some (ev_op (z := .int ((i : Int) + 2)) (ev_var rfl) ev_c rv_I0)) hs) (cut_two hi))) H (Ex.refl _) _ fun p H1 np e1 hp => ?_
    rw [sort_two] at hp
    have hs1 := ex_l e1 hs
    have fin : ∀ lo hi : Int, (∀ x, mid (ns.getD i 0) (ns.getD (i + 1) 0) x = (decide (lo < x) && decide (x < hi))) → Ev (tCB (rLenS K) (tCons (tLc (iList K (tSl (rSlL K) (tVar 0) tNoPart (tPart (tVar 1)))) (gName 4) (tTest (tChain (rI0 fun i j => V.bl (decide (i < j))) (rI0 fun i j => V.bl (decide (i < j))) (tVar 2) (tVar 4) (tVar 3))) (tVar 4) [4]) tNil))
        [some (.ref a), some (.int i), some (.int lo), some (.int hi), none] H1 (.int (leftI ns i : Nat)) := fun lo hi hm => by
      refine ev_countP (a := a) (ns := ns) (i := i) (mid (ns.getD i 0) (ns.getD (i + 1) 0)) (ev_var rfl) (ev_var rfl) hs1 (by omega) (by show 4 < 5; decide) fun x H2 e2 => ?_
      rw [hm]
      exact et_test (ev_chain (x := .int lo) (y := .int x) (z := .int hi) (ev_var rfl) (ev_var rfl) (ev_var rfl) rv_I0 fun _ => rv_I0)
    by_cases h : ns.getD i 0 ≤ ns.getD (i + 1) 0
    · rw [if_pos h] at hp
      refine ⟨p, _, rfl, sq_of hp, rfl, _, _, rfl, _, _, rfl, rfl, ?_⟩
      exact s_ret (fin _ _ (mid_le h)) fun H2 e2 => q H2 (e1.trans e2)
    · rw [if_neg h] at hp
      refine ⟨p, _, rfl, sq_of hp, rfl, _, _, rfl, _, _, rfl, rfl, ?_⟩
      exact s_ret (fin _ _ (mid_ge (by omega))) fun H2 e2 => q H2 (e1.trans e2)
end
end K05




set_option Elab.async false
set_option linter.all false
set_option maxRecDepth 100000
set_option maxHeartbeats 400000
namespace K05
open PySem PySem.Spec PyProof.Rows L2 Evl GS
local macro_rules | `(tactic| walk_at "bits") => `(tactic| first | (refine bits64 ?_; omega) | (apply bitsM; (focus walk_at "bits"); (focus walk_at "bits")))
local macro_rules | `(tactic| walk_at "side") => `(tactic| first
  | (apply CMulX.of; (focus walk_at "bits"); (focus walk_at "bits"); decide)
  | (dsimp only; omega) | assumption | decide)
local macro_rules | `(tactic| walk_at "rv") => `(tactic| first | exact rv_I0 | (apply rv_I; walk_at "side"))
local macro_rules | `(tactic| walk_at "ev") => `(tactic| first
  | exact ev_c
  | exact ev_var rfl
  | (apply ev_op; (focus walk_at "ev"); (focus walk_at "ev"); (focus walk_at "rv"))
  | (apply ev_int1; walk_at "ev")
  | (apply ev_max2; (focus walk_at "ev"); (focus walk_at "ev"))
  | (apply ev_bits; walk_at "ev"))

theorem lst_go {ta : TA} {σ : L2.St} {H : Hp} {Q : VK} (h : ta σ H fun vs H1 => vs.length ≤ sizeLine ∧ ∀ p, H1 p = none → Q (.ref p) (upd H1 p (.lst vs))) : tLst ta σ H Q := h
theorem ret_go {te : TE} {σ : L2.St} {H : Hp} {D : Ends} (h : te σ H D.rt) : tRet te D σ H := h
theorem cat_go {i : Nat} {r : R2} {tb : TE} {σ : L2.St} {H : Hp} {Q : VK} {x : V} (hi : σ[i]? = some (some x)) (h : tb σ H fun y H2 => r x y H2 Q) : tOp r (tVar i) tb σ H Q := ⟨x, hi, h⟩
section
variable {P : Program} {w : World} {K : PySem.W.Frag} {mg : Str → Option Value} {base : Heap}
theorem ok_menu (T : Tx K mg) : FnOk P w K mg base CX0 1 T.a_l_menu T.fd_l_menu P_l_menu spMenu := by
  refine T.F_l_menu.ok sc_l_menu (fun vs H Q E h => ?_) (fun cdv A outer s H vs Q E hr h => ?_)
  · obtain ⟨rfl, _⟩ := h
    rfl
  · obtain ⟨rfl, q⟩ := h
    refine ⟨_, (pss_cons (ps_set (i := 0) nd_l_menu rfl (.inl rfl) (pe_lst (pa_cons (pe_tup (pa_cons (pe_lst (pa_cons pe_int pa_nil)) (pa_cons pe_non pa_nil))) (pa_cons (pe_tup (pa_cons (pe_lst (pa_cons pe_int pa_nil)) (pa_cons pe_non pa_nil))) (pa_cons (pe_tup (pa_cons (pe_lst (pa_cons pe_int pa_nil)) (pa_cons pe_non pa_nil))) (pa_cons (pe_tup (pa_cons (pe_lst (pa_cons pe_int (pa_cons pe_int pa_nil))) (pa_cons pe_non pa_nil))) (pa_cons (pe_tup (pa_cons (pe_lst (pa_cons pe_int (pa_cons pe_int pa_nil))) (pa_cons pe_non pa_nil))) (pa_cons (pe_tup (pa_cons (pe_lst (pa_cons pe_int (pa_cons pe_int (pa_cons pe_int pa_nil)))) (pa_cons pe_non pa_nil))) (pa_cons (pe_tup (pa_cons (pe_lst (pa_cons pe_int (pa_cons pe_int pa_nil))) (pa_cons pe_non pa_nil))) pa_nil)))))))))
      (pss_one (ps_ret (pe_op op_cat (pv 0) (pe_lst (pa_cons (pe_tup (pa_cons (pe_lst (pa_cons pe_int (pa_cons pe_int pa_nil))) (pa_cons pe_non pa_nil))) (pa_cons (pe_tup (pa_cons (pe_lst pa_nil) (pa_cons pe_int pa_nil))) (pa_cons (pe_tup (pa_cons (pe_lst pa_nil) (pa_cons pe_int pa_nil))) (pa_cons (pe_tup (pa_cons (pe_lst (pa_cons pe_int (pa_cons pe_int (pa_cons pe_int pa_nil)))) (pa_cons pe_non pa_nil))) (pa_cons (pe_tup (pa_cons (pe_lst (pa_cons pe_int pa_nil)) (pa_cons pe_int pa_nil))) (pa_cons (pe_tup (pa_cons (pe_lst (pa_cons pe_int pa_nil)) (pa_cons pe_int pa_nil))) (pa_cons (pe_tup (pa_cons (pe_lst pa_nil) (pa_cons pe_non pa_nil))) (pa_cons (pe_tup (pa_cons (pe_lst (pa_cons pe_int (pa_cons pe_int pa_nil))) (pa_cons pe_non pa_nil))) (pa_cons (pe_tup (pa_cons (pe_lst (pa_cons pe_int pa_nil)) (pa_cons pe_int pa_nil))) pa_nil)))))))))))))), ?_⟩
    have m1 : ∀ {σ : L2.St}, EvW H _ σ H 7 := fun {σ} =>
      ew_cons (ns := [1]) (st := none) (Ex.refl H) (el_lst (ea_cons ev_c ea_nil) (by decide)) ev_c ⟨by decide, by decide, fun s h => by cases h⟩ (
      ew_cons (ns := [2]) (st := none) (Ex.refl H) (el_lst (ea_cons ev_c ea_nil) (by decide)) ev_c ⟨by decide, by decide, fun s h => by cases h⟩ (
      ew_cons (ns := [3]) (st := none) (Ex.refl H) (el_lst (ea_cons ev_c ea_nil) (by decide)) ev_c ⟨by decide, by decide, fun s h => by cases h⟩ (
      ew_cons (ns := [1, 4]) (st := none) (Ex.refl H) (el_lst (ea_cons ev_c (ea_cons ev_c ea_nil)) (by decide)) ev_c ⟨by decide, by decide, fun s h => by cases h⟩ (
      ew_cons (ns := [2, 3]) (st := none) (Ex.refl H) (el_lst (ea_cons ev_c (ea_cons ev_c ea_nil)) (by decide)) ev_c ⟨by decide, by decide, fun s h => by cases h⟩ (
      ew_cons (ns := [3, 4, 5]) (st := none) (Ex.refl H) (el_lst (ea_cons ev_c (ea_cons ev_c (ea_cons ev_c ea_nil))) (by decide)) ev_c ⟨by decide, by decide, fun s h => by cases h⟩ (
      ew_cons (ns := [2, 6]) (st := none) (Ex.refl H) (el_lst (ea_cons ev_c (ea_cons ev_c ea_nil)) (by decide)) ev_c ⟨by decide, by decide, fun s h => by cases h⟩ ew_nil))))))
    apply q_set
    refine lst_go (m1 H (Ex.refl H) _ fun vs H1 e1 hl hv => ⟨sz_of (by omega), fun p np => ?_⟩)
    have ep := e1.trans (Ex.new (o := .lst vs) np)
    refine ret_go (cat_go (x := .ref p) rfl (lst_go ?_))
    have m2 : ∀ {σ : L2.St}, EvW H _ σ (upd H1 p (.lst vs)) 9 := fun {σ} =>
      ew_cons (ns := [1, 3]) (st := none) ep (el_lst (ea_cons ev_c (ea_cons ev_c ea_nil)) (by decide)) ev_c ⟨by decide, by decide, fun s h => by cases h⟩ (
      ew_cons (ns := []) (st := some 1) ep (el_lst ea_nil (by decide)) ev_c ⟨by decide, by decide, fun s h => by cases h; decide⟩ (
      ew_cons (ns := []) (st := some 2) ep (el_lst ea_nil (by decide)) ev_c ⟨by decide, by decide, fun s h => by cases h; decide⟩ (
      ew_cons (ns := [1, 2, 4]) (st := none) ep (el_lst (ea_cons ev_c (ea_cons ev_c (ea_cons ev_c ea_nil))) (by decide)) ev_c ⟨by decide, by decide, fun s h => by cases h⟩ (
      ew_cons (ns := [1]) (st := some 4) ep (el_lst (ea_cons ev_c ea_nil) (by decide)) ev_c ⟨by decide, by decide, fun s h => by cases h; decide⟩ (
      ew_cons (ns := [2]) (st := some 4) ep (el_lst (ea_cons ev_c ea_nil) (by decide)) ev_c ⟨by decide, by decide, fun s h => by cases h; decide⟩ (
      ew_cons (ns := []) (st := none) ep (el_lst ea_nil (by decide)) ev_c ⟨by decide, by decide, fun s h => by cases h⟩ (
      ew_cons (ns := [1, 5]) (st := none) ep (el_lst (ea_cons ev_c (ea_cons ev_c ea_nil)) (by decide)) ev_c ⟨by decide, by decide, fun s h => by cases h⟩ (
      ew_cons (ns := [2]) (st := some 6) ep (el_lst (ea_cons ev_c ea_nil) (by decide)) ev_c ⟨by decide, by decide, fun s h => by cases h; decide⟩ ew_nil))))))))
    refine m2 _ (Ex.refl _) _ fun ws H2 e2 hl2 hv2 => ⟨sz_of (by omega), fun r nr => ⟨p, r, vs, ws, rfl, rfl, Ex.new nr _ _ (e2 _ _ upd_same), upd_same, sz_of (by omega), fun u nu => ?_⟩⟩
    have e3 := (Ex.new (o := .lst ws) nr).trans (Ex.new (o := .lst (vs ++ ws)) nu)
    refine q u (vs ++ ws) _ (free_of ((ep.trans e2).trans (Ex.new nr)) nu) ((ep.trans e2).trans e3) upd_same (by rw [List.length_append]; omega) fun v hm => ?_
    rcases List.mem_append.mp hm with hm | hm
    · exact (hv v hm).mono (((Ex.new np).trans e2).trans e3)
    · exact (hv2 v hm).mono e3
end
end K05




set_option Elab.async false
set_option linter.all false
set_option maxRecDepth 100000
set_option maxHeartbeats 400000
namespace K05
open PySem PySem.Spec PyProof.Rows L2 Evl GS
local macro_rules | `(tactic| walk_at "bits") => `(tactic| first | (refine bits64 ?_; omega) | (apply bitsM; (focus walk_at "bits"); (focus walk_at "bits")))
local macro_rules | `(tactic| walk_at "side") => `(tactic| first
  | (apply CMulX.of; (focus walk_at "bits"); (focus walk_at "bits"); decide)
  | (dsimp only; omega) | assumption | decide)
local macro_rules | `(tactic| walk_at "rv") => `(tactic| first | exact rv_I0 | (apply rv_I; walk_at "side"))
local macro_rules | `(tactic| walk_at "ev") => `(tactic| first
  | exact ev_c
  | exact ev_var rfl
  | (apply ev_op; (focus walk_at "ev"); (focus walk_at "ev"); (focus walk_at "rv"))
  | (apply ev_int1; walk_at "ev")
  | (apply ev_max2; (focus walk_at "ev"); (focus walk_at "ev"))
  | (apply ev_bits; walk_at "ev"))

def RetD (K : PySem.W.Frag) (d : PyData) (H : Hp) (Q : VK) : Prop := ∀ x H2, Ex H H2 → Rp K H2 x d → Q x H2
def res (k : Int) (s : Str) : PyData := .list [.list [.bool (decide (0 = k)), .bool (decide (1 = k)), .bool (decide (2 = k))], .str s]
structure Okc (c : PyData) : Prop where
  nd : c.hasDict = false ∨ c = .dict []
  sh : c.showable = true
  dp : c.depth ≤ 60
  ln : c.shown.length ≤ sizeLine
  st : PyData.canLay0 (.str c.shown) = true
def spOnly (K : PySem.W.Frag) : Sp := fun vs H Q _ => ∃ (k : Int) (v : V) (d : PyData), vs = [.int k, v] ∧ Rp K H v d ∧ Okc d ∧ RetD K (res k d.shown) H Q
def spCaught (K : PySem.W.Frag) (L : Addr) : Sp := fun vs H Q _ => ∃ (i : Int) (l v u z : V) (c : PyData) (k : Int), vs = [.int i, l, v, u] ∧ Rp K H z c ∧ Okc c ∧ RetD K (res k c.shown) H Q ∧ (i = 0 ∨ i = 1) ∧
  ((∃ d, Rp K H l d ∧ k = 0 ∧ z = l) ∨ (∃ p ns st d e, l = .ref p ∧ LetsAt L H p ns st ∧ Rp K H v d ∧ Rp K H u e ∧ isRow d = false ∧ k = 1 ∧ z = v) ∨
    (∃ p ns st d e, i = 1 ∧ l = .ref p ∧ LetsAt L H p ns st ∧ Rp K H v d ∧ Rp K H u e ∧ isRow d = true ∧ (placeNo (lenD d) e = true ∨ ∃ (rs : List Int) (j : Nat), d = .list (rs.map .int) ∧ e = .int j ∧ j + 1 < rs.length ∧ doneI ns st rs j = none) ∧ k = 2 ∧ z = u))
theorem s_retD {K : PySem.W.Frag} {te : TE} {σ : L2.St} {H : Hp} {D : Ends} {d : PyData} (h : EvD K te σ H d) (k : ∀ x H1, Ex H H1 → Rp K H1 x d → D.rt x H1) : tRet te D σ H := h H (Ex.refl H) _ k
theorem RetD.go {K : PySem.W.Frag} {d : PyData} {H H1 : Hp} {Q : VK} (e : Ex H H1) (h : RetD K d H Q) : RetD K d H1 Q := fun x H2 e2 r => h x H2 (e.trans e2) r
theorem ints_inj {a b : List Int} (h : a.map PyData.int = b.map .int) : a = b := by
  have z := congrArg intsD h
  rwa [intsD_ints, intsD_ints] at z
theorem rp3 {K : PySem.W.Frag} {H : Hp} {a b c : Bool} : RpAll K H [.bl a, .bl b, .bl c] [.bool a, .bool b, .bool c] := .cons (.bl _) (.cons (.bl _) (.cons (.bl _) .nil))
section
variable {P : Program} {w : World} {K : PySem.W.Frag} {mg : Str → Option Value} {base : Heap}
theorem ok_only (T : Tx K mg) : FnG P w K mg base CX0 1 T.a_l_only T.fd_l_only P_l_only (spOnly K) := by
  refine fun_g T.F_l_only sc_l_only (fun vs H Q E h => ?_) (fun cdv A outer s H vs Q E hr hq h => ?_)
  · obtain ⟨k, v, d, rfl, _⟩ := h
    rfl
  · obtain ⟨k, v, d, rfl, hd, ok, q⟩ := h
    refine ⟨_, (pss_one (ps_ret (pe_lst (pa_cons (pe_lc (own := [("_law_at", 2)]) rfl nd_l_only (pi_range1 (by rfl) T.m_range (pa_cons pe_int pa_nil)) (blkOk_by (N := N_l_only) (sc := (defScope s_l_only)) (by decide +kernel)) (fun _ _ _ _ _ => pg_name (i := 2) nd_l_only rfl (.inl rfl)) (fun _ _ _ _ _ => pts_nil) (fun _ _ _ _ _ => (pe_cmpR (k_eq (K := K) rfl hr.units) (pv 2) (pv 0) (nomark _)))) (pa_cons (pe_callB (k_repr (K := K) rfl hq hr.units) (by rfl) T.m_repr (by decide +kernel) (pa_cons (pv 1) pa_nil)) pa_nil))))), ?_⟩
    refine s_retD (K := K) (d := res k d.shown) (ed_lst (eda_cons (ed_new (EvL.ld (xs := given 3 (fun _ => true) fun i => .bl (decide ((i : Int) = k))) ?_ fun _ => rp3)) (eda_cons (ed_str (ev_repr (ed_var rfl hd) ok.nd ok.sh ok.dp ok.ln)) eda_nil)) (by show 2 ≤ 100000; decide)) fun x H1 e1 r => q x H1 e1 r
    apply el_lcR1 (n := 3)
    · exact ea_cons ev_c ea_nil
    · decide
    · intro x; rfl
    · intro j H1 e1 hj
      exact fun H2 e2 Q2 q2 => q2 H2 (Ex.refl _)
    · intro j H1 e1 hj _
      exact ev_is (ev_eqD (K := K) (d := .int j) (e := .int k) (ed_int (ev_var rfl)) (ed_int (ev_var rfl)) rfl rfl rfl rfl) rfl
theorem ok_caught (T : Tx K mg) : FnG P w K mg base CX0 7 T.a_l_caught T.fd_l_caught P_l_caught (spCaught K T.a_Lets) := by
  have c_open_places := ok_open (P := P) (w := w) (base := base) T
  have c_row_done := ok_rowdone (P := P) (w := w) (base := base) T
  refine fun_g T.F_l_caught sc_l_caught (fun vs H Q E h => ?_) (fun cdv A outer s H vs Q E hr hq h => ?_)
  · obtain ⟨i, l, v, u, z, c, k, rfl, _⟩ := h
    rfl
  · obtain ⟨i, l, v, u, z, c, k, rfl, hz, ok, q, hi, hc⟩ := h
    refine ⟨_, (pss_cons (ps_set (i := 4) nd_l_caught rfl (.inl rfl) pe_non)
      (pss_cons (ps_try_keep (c := .ref T.a_GapError) (i := 5) rfl rfl nd_l_caught rfl rfl ⟨by rfl, by decide, .inl T.g_GapError⟩ takes0 (fun W pn xe tk _ => (pss_one (ps_if (pt_cmpR (k_eq (K := K) rfl hr.units) (pv 0) pe_int (nomark _)) (pss_one (ps_expr (pe_callS c_open_places (hr.mono (by decide)) (by rfl) T.g_open_places T.F_open_places.kp T.b_open_places (fun σ => passAt tk σ) (pa_cons (pv 1) (pa_cons (pv 2) pa_nil))))) (pss_one (ps_expr (pe_callS c_row_done (hr.mono (by decide)) (by rfl) T.g_row_done T.F_row_done.kp T.b_row_done (fun σ => passAt tk σ) (pa_cons (pv 1) (pa_cons (pv 2) (pa_cons (pv 3) pa_nil))))))))) (fun a oe pn => (pss_one (ps_set (i := 4) nd_l_caught rfl (.inl rfl) (pv 5)))))
      (pss_cons (ps_set (i := 6) nd_l_caught rfl (.inl rfl) (pe_lst (pa_cons (pe_callB (k_isi (K := K) rfl) (by rfl) T.m_isinstance (by decide +kernel) (pa_cons (pv 4) (pa_cons (pe_glob (by rfl) T.g_InvalidLets (show RelV (.ref T.a_InvalidLets) (.ref T.a_InvalidLets) from rfl)) pa_nil))) (pa_cons (pe_callB (k_isi (K := K) rfl) (by rfl) T.m_isinstance (by decide +kernel) (pa_cons (pv 4) (pa_cons (pe_glob (by rfl) T.g_InvalidRow (show RelV (.ref T.a_InvalidRow) (.ref T.a_InvalidRow) from rfl)) pa_nil))) (pa_cons (pe_callB (k_isi (K := K) rfl) (by rfl) T.m_isinstance (by decide +kernel) (pa_cons (pv 4) (pa_cons (pe_glob (by rfl) T.g_InvalidPlace (show RelV (.ref T.a_InvalidPlace) (.ref T.a_InvalidPlace) from rfl)) pa_nil))) pa_nil)))))
      (pss_one (ps_ret (pe_lst (pa_cons (pv 6) (pa_cons (pe_ifExp (pt_cmpR c_isN (pv 4) pe_non (nomark _)) pe_non (pe_callB (k_repr (K := K) rfl hq hr.units) (by rfl) T.m_repr (by decide +kernel) (pa_cons (k_held (K := K) rfl (pv 4)) pa_nil))) pa_nil)))))))), ?_⟩
    apply q_asg (v := .non) ev_c
    intro H1 e1
    apply q_seq
    have fin : ∀ {C : Addr}, ErrC K C → PySem.W.kitOne K (.ref C) (.ref T.a_InvalidLets) = some (decide (0 = k)) → PySem.W.kitOne K (.ref C) (.ref T.a_InvalidRow) = some (decide (1 = k)) → PySem.W.kitOne K (.ref C) (.ref T.a_InvalidPlace) = some (decide (2 = k)) →
        ∀ (a : Addr) (H' : Hp), Ex H H' → Held H' a C z → ∀ (D : Ends), D.rt = Q →
        (tSeq (tAsg (tLst (tCons (tCB (rIsAny K) (tCons (tVar 4) (tCons (tC (.ref T.a_InvalidLets)) tNil))) (tCons (tCB (rIsAny K) (tCons (tVar 4) (tCons (tC (.ref T.a_InvalidRow)) tNil))) (tCons (tCB (rIsAny K) (tCons (tVar 4) (tCons (tC (.ref T.a_InvalidPlace)) tNil))) tNil)))) (gName 6))
          (tRet (tLst (tCons (tVar 6) (tCons (tIf (tTest (tOp rIsNone (tVar 4) (tC .non))) (tC .non) (tCB (rRepr K) (tCons (tHeldV K (tVar 4)) tNil))) tNil))))) D [some (.int i), some l, some v, some u, some (.ref a), none, none] H' := by
      intro C ec k1 k2 k3 a H' e hh D hD
      apply q_asgL (xs := [.bl (decide (0 = k)), .bl (decide (1 = k)), .bl (decide (2 = k))])
      · exact el_lst (ea_cons (ev_isHeld (ev_var rfl) hh ec k1) (ea_cons (ev_isHeld (ev_var rfl) hh ec k2) (ea_cons (ev_isHeld (ev_var rfl) hh ec k3) ea_nil))) (by show 3 ≤ 100000; decide)
      intro p H2 np e2 hp
      have hh2 := hh.mono e2
      refine s_retD (K := K) (d := res k c.shown) (ed_lst (eda_cons (ed_of (ev_var rfl) (.lst (sq_of hp) rp3)) (eda_cons (ed_str ?_) eda_nil)) (by show 2 ≤ 100000; decide)) fun x H3 e3 r => by
        rw [hD]
        exact q x H3 ((e.trans e2).trans e3) r
      apply ev_if (b := false)
      · exact et_test (ev_is (ev_isN (x := .ref a) (ev_var rfl)) (by rfl))
      · intro z; cases z
      · intro _
        exact ev_repr (ed_of (ev_held (ev_var rfl) hh2 ec) (hz.to (e.trans e2))) ok.nd ok.sh ok.dp ok.ln
    rcases hi with rfl | rfl
    · refine s_if (b := true) ?_ ?_ (fun z => by cases z)
      · apply et_test
        exact ev_eqD (d := .int 0) (e := .int 0) (ed_int (ev_var rfl)) (ed_int ev_c) rfl rfl rfl rfl
      intro _ H2 e2
      have e12 := e1.trans e2
      rcases hc with ⟨d, hl, rfl, rfl⟩ | ⟨p, ns, st, d, e, rfl, hl, hd, hu, hb, rfl, rfl⟩ | ⟨p, ns, st, d, e, i1, _⟩
      · refine ⟨z, rfl, v, rfl, z, v, rfl, .inr ⟨d, hl.to e12, ?_⟩⟩
        · intro dd H3 n3 e3 h3
          refine ⟨true, T.m_InvalidLets_GapError, fun _ a na => ?_, fun z => by cases z⟩
          apply s_asg (ev_var rfl)
          intro H4 e4 n4
          exact fin T.e_InvalidLets T.k_InvalidLets_InvalidLets T.k_InvalidLets_InvalidRow T.k_InvalidLets_InvalidPlace a _ (((e12.trans e3).trans e4).trans (Ex.new n4)) ⟨dd, upd_same, Ex.new n4 _ _ (e4 _ _ h3)⟩ _ rfl
      · refine ⟨.ref p, rfl, z, rfl, .ref p, z, rfl, .inl ⟨p, ns, st, d, rfl, hl.mono e12, hd.to e12, fun _ => ?_, fun rs en ht => by rw [hb] at ht; cases ht⟩⟩
        · intro dd H3 n3 e3 h3
          refine ⟨true, T.m_InvalidRow_GapError, fun _ a na => ?_, fun z => by cases z⟩
          apply s_asg (ev_var rfl)
          intro H4 e4 n4
          exact fin T.e_InvalidRow T.k_InvalidRow_InvalidLets T.k_InvalidRow_InvalidRow T.k_InvalidRow_InvalidPlace a _ (((e12.trans e3).trans e4).trans (Ex.new n4)) ⟨dd, upd_same, Ex.new n4 _ _ (e4 _ _ h3)⟩ _ rfl
      · cases i1
    · refine s_if (b := false) ?_ (fun z => by cases z) ?_
      · apply et_test
        exact ev_eqD (d := .int 1) (e := .int 0) (ed_int (ev_var rfl)) (ed_int ev_c) rfl rfl rfl rfl
      intro _ H2 e2
      have e12 := e1.trans e2
      rcases hc with ⟨d, hl, rfl, rfl⟩ | ⟨p, ns, st, d, e, rfl, hl, hd, hu, hb, rfl, rfl⟩ | ⟨p, ns, st, d, e, _, rfl, hl, hd, hu, ht, why, rfl, rfl⟩
      · refine ⟨z, rfl, v, rfl, u, rfl, z, v, u, rfl, .inr ⟨d, hl.to e12, ?_⟩⟩
        · intro dd H3 n3 e3 h3
          refine ⟨true, T.m_InvalidLets_GapError, fun _ a na => ?_, fun z => by cases z⟩
          apply s_asg (ev_var rfl)
          intro H4 e4 n4
          exact fin T.e_InvalidLets T.k_InvalidLets_InvalidLets T.k_InvalidLets_InvalidRow T.k_InvalidLets_InvalidPlace a _ (((e12.trans e3).trans e4).trans (Ex.new n4)) ⟨dd, upd_same, Ex.new n4 _ _ (e4 _ _ h3)⟩ _ rfl
      · refine ⟨.ref p, rfl, z, rfl, u, rfl, .ref p, z, u, rfl, .inl ⟨p, ns, st, d, e, rfl, hl.mono e12, hd.to e12, hu.to e12, fun _ => ?_, (fun ht => by rw [hb] at ht; cases ht), (fun rs j en ht => by rw [hb] at ht; cases ht)⟩⟩
        · intro dd H3 n3 e3 h3
          refine ⟨true, T.m_InvalidRow_GapError, fun _ a na => ?_, fun z => by cases z⟩
          apply s_asg (ev_var rfl)
          intro H4 e4 n4
          exact fin T.e_InvalidRow T.k_InvalidRow_InvalidLets T.k_InvalidRow_InvalidRow T.k_InvalidRow_InvalidPlace a _ (((e12.trans e3).trans e4).trans (Ex.new n4)) ⟨dd, upd_same, Ex.new n4 _ _ (e4 _ _ h3)⟩ _ rfl
      · refine ⟨.ref p, rfl, v, rfl, z, rfl, .ref p, v, z, rfl, .inl ⟨p, ns, st, d, e, rfl, hl.mono e12, hd.to e12, hu.to e12, (fun hb => by rw [ht] at hb; cases hb), fun _ _ => ?_, fun rs j en ht2 ej hj => ⟨fun x y hxy => ?_, fun _ => ?_⟩⟩⟩
        · intro dd H3 n3 e3 h3
          refine ⟨true, T.m_InvalidPlace_GapError, fun _ a na => ?_, fun z => by cases z⟩
          apply s_asg (ev_var rfl)
          intro H4 e4 n4
          exact fin T.e_InvalidPlace T.k_InvalidPlace_InvalidLets T.k_InvalidPlace_InvalidRow T.k_InvalidPlace_InvalidPlace a _ (((e12.trans e3).trans e4).trans (Ex.new n4)) ⟨dd, upd_same, Ex.new n4 _ _ (e4 _ _ h3)⟩ _ rfl
        · exfalso
          rcases why with w2 | ⟨rs2, j2, w3, w4, w5, w6⟩
          · subst en ej
            have ll : lenD (.list (rs.map .int)) = rs.length := List.length_map _
            rw [ll, place_yes hj] at w2
            cases w2
          · subst en ej
            have w7 : rs = rs2 := ints_inj (PyData.list.inj w3)
            have w8 : j = j2 := by have := PyData.int.inj w4; omega
            subst w7 w8
            rw [w6] at hxy
            cases hxy
        · intro dd H3 n3 e3 h3
          refine ⟨true, T.m_InvalidPlace_GapError, fun _ a na => ?_, fun z => by cases z⟩
          apply s_asg (ev_var rfl)
          intro H4 e4 n4
          exact fin T.e_InvalidPlace T.k_InvalidPlace_InvalidLets T.k_InvalidPlace_InvalidRow T.k_InvalidPlace_InvalidPlace a _ (((e12.trans e3).trans e4).trans (Ex.new n4)) ⟨dd, upd_same, Ex.new n4 _ _ (e4 _ _ h3)⟩ _ rfl
end
end K05




set_option Elab.async false
set_option linter.all false
set_option maxRecDepth 100000
set_option maxHeartbeats 1000000
namespace K05
open PySem PySem.Spec PyProof.Rows L2 Evl GS
local macro_rules | `(tactic| walk_at "bits") => `(tactic| first | (refine bits64 ?_; omega) | (apply bitsM; (focus walk_at "bits"); (focus walk_at "bits")))
local macro_rules | `(tactic| walk_at "side") => `(tactic| first
  | (apply CMulX.of; (focus walk_at "bits"); (focus walk_at "bits"); decide)
  | (dsimp only; omega) | assumption | decide)
local macro_rules | `(tactic| walk_at "rv") => `(tactic| first | exact rv_I0 | (apply rv_I; walk_at "side"))
local macro_rules | `(tactic| walk_at "ev") => `(tactic| first
  | exact ev_c
  | exact ev_var rfl
  | (apply ev_op; (focus walk_at "ev"); (focus walk_at "ev"); (focus walk_at "rv"))
  | (apply ev_int1; walk_at "ev")
  | (apply ev_max2; (focus walk_at "ev"); (focus walk_at "ev"))
  | (apply ev_bits; walk_at "ev"))

def done2 (ns : List Int) (st : Option Int) (a b : Int) : Option (Int × Int) :=
  if memB ns st (b - a - 1) = true then some (b - 1, a) else if memB ns st (a - b) = true then some (b, a + 1) else none
theorem done_at (ns : List Int) (st : Option Int) (rs : List Int) (i : Nat) : doneI ns st rs i = done2 ns st (rs.getD i 0) (rs.getD (i + 1) 0) := rfl
theorem let_is {ns : List Int} {st : Option Int} (told : Told (ns.reverse ++ ns) st) (c : Int) : (decide (0 < c) && memB ns st c) = memB ns st c := by
  by_cases h : 0 < c
  · rw [decide_eq_true h, Bool.true_and]
  · rw [memB_neg (fun x hx => (told.pos x (List.mem_append.mpr (.inr hx))).1) (fun s hs => (told.st1 s hs).1) (show c < 1 by omega), Bool.and_false]
def RetP (o : Option (Int × Int)) (H : Hp) (Q : VK) : Prop := match o with
  | none => RetV .non H Q
  | some (x, y) => RetL [.int x, .int y] H Q
def spPair : Sp := fun vs H Q _ => ∃ (t : Addr) (ns : List Int) (st : Option Int) (a b : Int), vs = [.ref t, .int a, .int b] ∧ WayAt H t ns st ∧ Told (ns.reverse ++ ns) st ∧ RetP (done2 ns st a b) H Q
/-- what is near a row: a place, the row with the deed done -/
def nearI (ns : List Int) (st : Option Int) (rs : List Int) (k : Nat) : List (Nat × List Int) := (List.range k).flatMap fun i => match doneI ns st rs i with
  | none => []
  | some (x, y) => [(i, put2 rs i x y)]
theorem near_succ (ns : List Int) (st : Option Int) (rs : List Int) (k : Nat) : nearI ns st rs (k + 1) = nearI ns st rs k ++ (match doneI ns st rs k with | none => [] | some (x, y) => [(k, put2 rs k x y)]) := by
  unfold nearI
  rw [List.range_succ, List.flatMap_append, List.flatMap_singleton]
theorem near_len (ns : List Int) (st : Option Int) (rs : List Int) : ∀ k, (nearI ns st rs k).length ≤ k
  | 0 => Nat.le_refl _
  | k + 1 => by
    have := near_len ns st rs k
    rw [near_succ, List.length_append]
    cases doneI ns st rs k with
    | none => show _ + 0 ≤ _; omega
    | some p => show _ + 1 ≤ _; omega
def IsNear (H0 H : Hp) (v : V) (e : Nat × List Int) : Prop := ∃ t l, v = .ref t ∧ H t = some (.tup [.int e.1, .ref l]) ∧ H l = some (.lst (e.2.map V.int)) ∧ H0 t = none ∧ H0 l = none
def NearAt (H0 H : Hp) (xs : List V) (es : List (Nat × List Int)) : Prop := xs.length = es.length ∧ ∀ (k : Nat) (v : V) (e : Nat × List Int), xs[k]? = some v → es[k]? = some e → IsNear H0 H v e
theorem IsNear.mono {H0 H H2 : Hp} {v : V} {e : Nat × List Int} (x : Ex H H2) (h : IsNear H0 H v e) : IsNear H0 H2 v e := by
  obtain ⟨t, l, h1, h2, h3, h4⟩ := h
  exact ⟨t, l, h1, x _ _ h2, x _ _ h3, h4⟩
theorem NearAt.mono {H0 H H2 : Hp} {xs : List V} {es : List (Nat × List Int)} (x : Ex H H2) (h : NearAt H0 H xs es) : NearAt H0 H2 xs es := ⟨h.1, fun k v e a b => (h.2 k v e a b).mono x⟩
theorem NearAt.snoc {H0 H : Hp} {xs : List V} {es : List (Nat × List Int)} {v : V} {e : Nat × List Int} (h : NearAt H0 H xs es) (hv : IsNear H0 H v e) : NearAt H0 H (xs ++ [v]) (es ++ [e]) := by
  refine ⟨by rw [List.length_append, List.length_append, h.1]; rfl, fun k u d a b => ?_⟩
  rcases Nat.lt_or_ge k xs.length with lt | ge
  · rw [List.getElem?_append_left lt] at a
    rw [List.getElem?_append_left (by rw [← h.1]; exact lt)] at b
    exact h.2 k u d a b
  · rw [List.getElem?_append_right ge] at a
    rw [List.getElem?_append_right (by rw [← h.1]; exact ge), ← h.1] at b
    have e0 : k - xs.length = 0 := by
      rcases Nat.eq_zero_or_pos (k - xs.length) with z | z
      · exact z
      · rw [List.getElem?_eq_none (by rw [List.length_singleton]; exact z)] at a
        cases a
    rw [e0] at a b
    cases a
    cases b
    exact hv
def spNear (K : PySem.W.Frag) : Sp := fun vs H Q _ => ∃ (t a : Addr) (ns rs : List Int) (st : Option Int), vs = [.ref t, .ref a] ∧ WayAt H t ns st ∧ Told (ns.reverse ++ ns) st ∧ SqL K H a (rs.map V.int) ∧ rs.length ≤ 200 ∧
  ∀ p xs H2, H p = none → Ex H H2 → H2 p = some (.lst xs) → NearAt H H2 xs (nearI ns st rs (rs.length - 1)) → Q (.ref p) H2
section
variable {K : PySem.W.Frag} {σ : L2.St} {H : Hp} {D : Ends} {tz tu : TS}
theorem q_forRn {ta : TA} {j : Nat} {n : Int} (h : EvA ta σ H [.int n]) (hn : -100000 ≤ n ∧ n ≤ 100000) (Pv : Nat → L2.St → Hp → Prop) (h0 : ∀ H1, Ex H H1 → Pv 0 σ H1)
    (hs : ∀ (i : Nat) σ' H', (i : Int) < n → Pv i σ' H' → tu { D with nx := Pv (i + 1), ct := Pv (i + 1), bk := tz D } (σ'.set j (some (.int (i : Int)))) H') (hd : ∀ σ' H', Pv n.toNat σ' H' → tz D σ' H') : tSeq (tFor (iRng1 ta) (gName j) tu) tz D σ H :=
  h H (Ex.refl H) _ fun H1 e => ⟨n, rfl, by omega, by omega, for_range (D := { D with nx := tz D }) (lo := 0) (n := n.toNat) Pv (h0 H1 e) (fun i σ' H' hi p => by
    have z := hs i σ' H' (by omega) p
    rw [← Int.zero_add (i : Int)] at z
    exact z) hd⟩
theorem cons_go {te : TE} {ta : TA} {Q : List V → Hp → Prop} (h : te σ H fun x H1 => ta σ H1 fun xs H2 => Q (x :: xs) H2) : tCons te ta σ H Q := h
end
section
variable {P : Program} {w : World} {K : PySem.W.Frag} {mg : Str → Option Value} {base : Heap}
theorem ok_llog (T : Tx K mg) : FnOk P w K mg base CX0 1 T.a_l_log T.fd_l_log P_l_log (spLog K) := by
  refine T.F_l_log.ok sc_l_log (fun vs H Q E h => ?_) (fun cdv A outer s H vs Q E hr h => ?_)
  · obtain ⟨a, ns, rfl, _⟩ := h
    rfl
  · obtain ⟨a, ns, rfl, hs, hl, q⟩ := h
    refine ⟨_, (pss_one (ps_ret (pe_lc (own := [("_law_at", 1)]) rfl nd_l_log (pi_range1 (by rfl) T.m_range (pa_cons (pe_callB (k_len (K := K) rfl) (by rfl) T.m_len (by decide +kernel) (pa_cons (pv 0) pa_nil)) pa_nil)) (blkOk_by (N := N_l_log) (sc := (defScope s_l_log)) (by decide +kernel)) (fun _ _ _ _ _ => pg_name (i := 1) nd_l_log rfl (.inr rfl)) (fun _ _ _ _ _ => pts_nil) (fun _ _ _ _ _ => (pe_callB (k_len (K := K) rfl) (by rfl) T.m_len (by decide +kernel) (pa_cons (pe_lc (own := [("_law_other", 2)]) rfl nd_l_log (k_pil (K := K) rfl (pe_slice (k_sll (K := K) rfl) (pv 0) po_none (po_some (pv 1)))) (blkOk_by (N := N_l_log) (sc := ({ kind := .function, names := [(PySem.Str.ofString ".0", .local), (PySem.Str.ofString "_law_at", .cell), (PySem.Str.ofString "len", .globalImplicit), (PySem.Str.ofString "_law_order_here", .cell)], isGenerator := false, isCoroutine := false } : Scope)) (by decide +kernel)) (fun _ _ _ _ _ => pg_name (i := 2) nd_l_log rfl (.inl rfl)) (fun _ _ _ _ _ => pts_one (pt_cmpR op_lt (pv 2) (pe_ix (k_ixl (K := K) rfl) (pv 0) (pv 1) (fun _ _ => rfl)) (nomark _))) (fun _ _ _ _ _ => (pv 2))) pa_nil)))))), ?_⟩
    apply s_retL (xs := (logOf ns).map V.int)
    · refine el_is' (el_lcR1 (n := (ns.length : Nat)) (fun _ => true) (fun i => .int (((ns.take i).filter fun o => decide (o < ns.getD i 0)).length : Nat)) (ea_cons (ev_is (ev_len (ev_var rfl) hs) (by rw [List.length_map])) ea_nil) ⟨by omega, by omega⟩ (fun x => rfl) ?_ ?_) ?_
      · intro i H1 e1 hi
        exact fun H2 e2 Q2 q2 => q2 H2 (Ex.refl _)
      · intro i H1 e1 hi _
        have lt : i < ns.length := by omega
        have g : ns[i]? = some (ns.getD i 0) := by rw [List.getD_eq_getElem?_getD, List.getElem?_eq_getElem lt]; rfl
        refine ev_count (a := a) (ns := ns) (i := i) (k := ns.getD i 0) (ev_var rfl) (ev_var rfl) (ex_l e1 hs) hl (by show 2 < 3; decide) fun x H2 e2 => ?_
        exact ev_op (ev_var rfl) (ev_var rfl) (rv_ixL (ex_l (e1.trans e2) hs) (atI_int g))
      · rw [given_all, Int.toNat_natCast]
        unfold logOf
        rw [List.map_map]
        rfl
    · exact fun p H1 np e1 hp => q p H1 np e1 hp
theorem ok_pair (T : Tx K mg) : FnOk P w K mg base CX0 2 T.a_l_pair T.fd_l_pair P_l_pair spPair := by
  have c_l_let := ok_let (P := P) (w := w) (base := base) T
  refine T.F_l_pair.ok sc_l_pair (fun vs H Q E h => ?_) (fun cdv A outer s H vs Q E hr h => ?_)
  · obtain ⟨t, ns, st, a, b, rfl, _⟩ := h
    rfl
  · obtain ⟨t, ns, st, a, b, rfl, hw, told, q⟩ := h
    refine ⟨_, (pss_cons (ps_if (pt_val (pe_call c_l_let (hr.mono (by decide)) (by rfl) T.g_l_let T.F_l_let.kp T.b_l_let .nil pass0 (pa_cons (pv 0) (pa_cons (pe_op op_sub (pe_op op_sub (pv 2) (pv 1)) pe_int) pa_nil)))) (pss_one (ps_ret (pe_lst (pa_cons (pe_op op_sub (pv 2) pe_int) (pa_cons (pv 1) pa_nil))))) pss_nil)
      (pss_cons (ps_if (pt_val (pe_call c_l_let (hr.mono (by decide)) (by rfl) T.g_l_let T.F_l_let.kp T.b_l_let .nil pass0 (pa_cons (pv 0) (pa_cons (pe_op op_sub (pv 1) (pv 2)) pa_nil)))) (pss_one (ps_ret (pe_lst (pa_cons (pv 2) (pa_cons (pe_op op_add (pv 1) pe_int) pa_nil))))) pss_nil)
      (pss_one (ps_ret pe_non)))), ?_⟩
    unfold done2 at q
    apply q_when (b := memB ns st (b - a - 1))
    · rw [← let_is told]
      exact et_B (ev_own (ea_cons (ev_var rfl) (ea_cons (ev_op (ev_op (ev_var rfl) (ev_var rfl) rv_I0) ev_c rv_I0) ea_nil)) fun H1 e1 Q1 q1 => ⟨t, ns, st, _, rfl, hw.mono e1, q1⟩)
    · intro hb H1 e1
      rw [if_pos hb] at q
      exact s_retL (el_lst (ea_cons (ev_op (ev_var rfl) ev_c rv_I0) (ea_cons (ev_var rfl) ea_nil)) (by show 2 ≤ 100000; decide)) fun p H2 np e2 hp => q p H2 (free_of e1 np) (e1.trans e2) hp
    intro hb H1 e1
    rw [if_neg (by rw [hb]; decide)] at q
    apply q_when (b := memB ns st (a - b))
    · rw [← let_is told]
      exact et_B (ev_own (ea_cons (ev_var rfl) (ea_cons (ev_op (ev_var rfl) (ev_var rfl) rv_I0) ea_nil)) fun H2 e2 Q1 q1 => ⟨t, ns, st, _, rfl, hw.mono (e1.trans e2), q1⟩)
    · intro hb2 H2 e2
      rw [if_pos hb2] at q
      exact s_retL (el_lst (ea_cons (ev_var rfl) (ea_cons (ev_op (ev_var rfl) ev_c rv_I0) ea_nil)) (by show 2 ≤ 100000; decide)) fun p H3 np e3 hp => q p H3 (free_of (e1.trans e2) np) ((e1.trans e2).trans e3) hp
    intro hb2 H2 e2
    rw [if_neg (by rw [hb2]; decide)] at q
    exact s_ret ev_c fun H3 e3 => q H3 ((e1.trans e2).trans e3)
theorem ok_near (T : Tx K mg) : FnOk P w K mg base CX0 3 T.a_l_near T.fd_l_near P_l_near (spNear K) := by
  have c_l_pair := ok_pair (P := P) (w := w) (base := base) T
  refine T.F_l_near.ok sc_l_near (fun vs H Q E h => ?_) (fun cdv A outer s H vs Q E hr h => ?_)
  · obtain ⟨t, a, ns, rs, st, rfl, _⟩ := h
    rfl
  · obtain ⟨t, a, ns, rs, st, rfl, hw, told, hs, hl, q⟩ := h
    refine ⟨_, (pss_cons (ps_set (i := 2) nd_l_near rfl (.inl rfl) (pe_lst pa_nil))
      (pss_cons (ps_for PassesOwn.never rfl (pi_range1 (by rfl) T.m_range (pa_cons (pe_op op_sub (pe_callB (k_len (K := K) rfl) (by rfl) T.m_len (by decide +kernel) (pa_cons (pv 1) pa_nil)) pe_int) pa_nil)) (pg_name (i := 3) nd_l_near rfl (.inl rfl)) (pss_cons (ps_set (i := 4) nd_l_near rfl (.inl rfl) (pe_call c_l_pair (hr.mono (by decide)) (by rfl) T.g_l_pair T.F_l_pair.kp T.b_l_pair .nil pass0 (pa_cons (pv 0) (pa_cons (pe_ix (k_ixl (K := K) rfl) (pv 1) (pv 3) (fun _ _ => rfl)) (pa_cons (pe_ix (k_ixl (K := K) rfl) (pv 1) (pe_op op_add (pv 3) pe_int) (fun _ _ => rfl)) pa_nil)))))
      (pss_one (ps_if (pt_cmpR c_notN (pv 4) pe_non (nomark _)) (pss_one (ps_expr (pe_bm PySem.F.plainAttrs_list PySem.F.slot_list_append PySem.F.type_list_append mt_append (pv 2) (pa_cons (pe_tup (pa_cons (pv 3) (pa_cons (pe_op op_cat (pe_op op_cat (pe_slice (k_sll (K := K) rfl) (pv 1) po_none (po_some (pv 3))) (pv 4)) (pe_slice (k_sll (K := K) rfl) (pv 1) (po_some (pe_op op_add (pv 3) pe_int)) po_none)) pa_nil))) pa_nil)))) pss_nil))))
      (pss_one (ps_ret (pv 2))))), ?_⟩
    apply q_asgL (xs := [])
    · exact el_lst ea_nil (by decide)
    intro D H1 nD e1 hD
    apply q_forRn (n := (rs.length : Int) - 1)
    · exact ea_cons (ev_op (ev_is (ev_len (ev_var rfl) (ex_l e1 hs)) (by rw [List.length_map])) ev_c rv_I0) ea_nil
    · omega
    rotate_left 3
    · exact fun i σ H' => ∃ (y3 y4 : Option V) (acc : List V), σ = [some (.ref t), some (.ref a), some (.ref D), y3, y4] ∧ Ex H H' ∧ H' D = some (.lst acc) ∧ NearAt H (hid H' D) acc (nearI ns st rs i)
    · intro H2 e2
      exact ⟨none, none, [], rfl, e1.trans e2, e2 _ _ hD, rfl, fun k v e a => by cases a⟩
    · rintro i σ H2 hi0 ⟨y3, y4, acc, rfl, e2, hD2, near⟩
      have hi : i + 1 < rs.length := by omega
      have hs2 := ex_l e2 hs
      have al : acc.length ≤ 200 := by
        have := near_len ns st rs i
        rw [near.1]
        omega
      have g0 : rs[i]? = some (rs.getD i 0) := by rw [List.getD_eq_getElem?_getD, List.getElem?_eq_getElem (by omega)]; rfl
      have g1 : rs[i + 1]? = some (rs.getD (i + 1) 0) := by rw [List.getD_eq_getElem?_getD, List.getElem?_eq_getElem hi]; rfl
      have args : EvA (tCons (tVar 0) (tCons (tOp (rIxL K) (tVar 1) (tVar 3)) (tCons (tOp (rIxL K) (tVar 1) (tOp (rI0 fun i j => V.int (i + j)) (tVar 3) (tC (V.int 1)))) tNil))) [some (.ref t), some (.ref a), some (.ref D), some (.int i), y4] H2 [.ref t, .int (rs.getD i 0), .int (rs.getD (i + 1) 0)] :=
        ea_cons (ev_var rfl) (ea_cons (ev_op (ev_var rfl) (ev_var rfl) (rv_ixL hs2 (atI_int g0))) (ea_cons (ev_op (ev_var rfl) (ev_is (ev_op (ev_var rfl) ev_c rv_I0) (by show V.int ((i : Int) + 1) = .int ((i + 1 : Nat) : Int); push_cast; rfl)) (rv_ixL hs2 (atI_int g1))) ea_nil))
      apply q_set
      refine args H2 (Ex.refl _) _ fun H3 e3 => ⟨t, ns, st, _, _, rfl, hw.mono (e2.trans e3), told, ?_⟩
      cases hdn : done2 ns st (rs.getD i 0) (rs.getD (i + 1) 0) with
      | none =>
        intro H4 e4
        refine s_when (b := false) (et_test (ev_is (ev_notN (x := .non) (ev_var rfl)) rfl)) (fun z => by cases z) fun _ H5 e5 => ?_
        have e25 := (e3.trans e4).trans e5
        refine ⟨_, _, acc, rfl, e2.trans e25, e25 _ _ hD2, ?_⟩
        rw [near_succ, done_at, hdn, List.append_nil]
        exact near.mono (hid_mono e25)
      | some xy =>
        obtain ⟨x, y⟩ := xy
        intro p H4 np e4 hp
        refine s_when (b := true) (et_test (ev_is (ev_notN (x := .ref p) (ev_var rfl)) rfl)) (fun _ H5 e5 => ?_) fun z => by cases z
        have e25 := (e3.trans e4).trans e5
        have hx5 := ex_l e25 hs2
        have hp5 := e5 _ _ hp
        have v1 : Ev (tVar 1) [some (.ref t), some (.ref a), some (.ref D), some (.int i), some (.ref p)] H5 (.ref a) := ev_var rfl
        have v3 : Ev (tVar 3) [some (.ref t), some (.ref a), some (.ref D), some (.int i), some (.ref p)] H5 (.int i) := ev_var rfl
        have v4 : Ev (tVar 4) [some (.ref t), some (.ref a), some (.ref D), some (.int i), some (.ref p)] H5 (.ref p) := ev_var rfl
        have i2 : Ev (tOp (rI0 fun i j => V.int (i + j)) (tVar 3) (tC (V.int 2))) [some (.ref t), some (.ref a), some (.ref D), some (.int i), some (.ref p)] H5 (.int ((i + 2 : Nat) : Int)) := ev_is (ev_op v3 ev_c rv_I0) (by show V.int ((i : Int) + 2) = .int ((i + 2 : Nat) : Int); push_cast; rfl)
        have z := el_cat (el_catL (el_sl v1 eo_none (eo_some v3) hx5) v4 hp5 (by rw [cut_to, List.length_take, List.length_map]; show _ + 2 ≤ _; omega)) (el_sl v1 (eo_some i2) eo_none hx5) (by
          rw [cut_to, cut_from, List.length_append, List.length_take, List.length_drop, List.length_map]; show _ + 2 + _ ≤ _; omega)
        rw [cut_to, cut_from] at z
        have z2 := el_is' (ys := (put2 rs i x y).map V.int) z (by
          unfold put2
          rw [List.map_append, List.map_append, List.map_take, List.map_drop]
          rfl)
        refine ⟨.ref D, rfl, .inl ⟨rfl, _, sq_of (e25 _ _ hD2)⟩, .int i, rfl, ?_⟩
        refine cons_go ?_
        refine z2 H5 (Ex.refl _) _ fun l H6 nl e6 hl6 => ⟨sz_of (by show 2 ≤ 100000; decide), fun u nu => ?_⟩
        have e26 := e25.trans e6
        have eu := Ex.new (o := .tup [V.int i, .ref l]) nu
        have hD6 := eu _ _ (e26 _ _ hD2)
        refine ⟨D, acc, .ref u, rfl, rfl, hD6, sz_lt (by omega), ?_⟩
        have uD : u ≠ D := by
          rintro rfl
          rw [e26 _ _ hD2] at nu
          cases nu
        have lD : l ≠ D := by
          rintro rfl
          rw [e25 _ _ hD2] at nl
          cases nl
        refine ⟨_, _, acc ++ [.ref u], rfl, ((e2.trans e26).trans eu).mut nD, upd_same, ?_⟩
        rw [near_succ, done_at, hdn]
        refine NearAt.snoc (near.mono (((hid_mono e26).trans (hid_mono eu)).trans fun b o hb => ?_)) ⟨u, l, rfl, ?_, ?_, ?_, ?_⟩
        · by_cases q1 : b = D
          · subst q1
            rw [hid_same] at hb
            cases hb
          · rw [hid_ne q1] at hb ⊢
            rw [upd_ne q1]
            exact hb
        · rw [hid_ne uD, upd_ne uD, upd_same]
        · rw [hid_ne lD, upd_ne lD]
          exact eu _ _ hl6
        · exact free_of (e2.trans e26) nu
        · exact free_of (e2.trans e25) nl
    · rintro σ H2 ⟨y3, y4, acc, rfl, e2, hD2, near⟩
      have en : ((rs.length : Int) - 1).toNat = rs.length - 1 := by omega
      rw [en] at near
      apply s_ret (ev_var rfl)
      exact fun H3 e3 => q D acc H3 nD (e2.trans e3) (e3 _ _ hD2) ((near.mono hid_ex).mono e3)
end
end K05




set_option Elab.async false
set_option linter.all false
set_option maxRecDepth 100000
set_option maxHeartbeats 400000
namespace K05
open PySem PySem.Spec PyProof.Rows L2 Evl GS
local macro_rules | `(tactic| walk_at "bits") => `(tactic| first | (refine bits64 ?_; omega) | (apply bitsM; (focus walk_at "bits"); (focus walk_at "bits")))
local macro_rules | `(tactic| walk_at "side") => `(tactic| first
  | (apply CMulX.of; (focus walk_at "bits"); (focus walk_at "bits"); decide)
  | (dsimp only; omega) | assumption | decide)
local macro_rules | `(tactic| walk_at "rv") => `(tactic| first | exact rv_I0 | (apply rv_I; walk_at "side"))
local macro_rules | `(tactic| walk_at "ev") => `(tactic| first
  | exact ev_c
  | exact ev_var rfl
  | (apply ev_op; (focus walk_at "ev"); (focus walk_at "ev"); (focus walk_at "rv"))
  | (apply ev_int1; walk_at "ev")
  | (apply ev_max2; (focus walk_at "ev"); (focus walk_at "ev"))
  | (apply ev_bits; walk_at "ev"))

structure OrdOk (ns : List Int) : Prop where
  is : isOrder (.list (ns.map .int)) = true
  len : ns.length ≤ 200
theorem OrdOk.nn {ns : List Int} (h : OrdOk ns) : ∀ x ∈ ns, 0 ≤ x := by
  obtain ⟨h1, h2⟩ := Bool.and_eq_true_iff.mp h.is
  obtain ⟨h3, h4⟩ := Bool.and_eq_true_iff.mp h1
  rw [isCount_ints] at h4
  exact of_decide_eq_true h4
theorem OrdOk.perm {ns ms : List Int} (h : OrdOk ns) (p : ms.Perm ns) : OrdOk ms := by
  have hl : ms.length ≤ 200 := by rw [p.length_eq]; exact h.len
  refine ⟨?_, hl⟩
  rw [isOrder_eq hl fun x hx => h.nn x (p.mem_iff.mp hx), isort_of_perm p, p.length_eq, ← isOrder_eq h.len h.nn]
  exact h.is
theorem mid_sym (a b x : Int) : mid a b x = mid b a x := Bool.or_comm _ _
section
variable {ms : List Int} {i : Nat}
theorem split_at (hi : i + 1 < ms.length) : ms = ms.take i ++ [ms.getD i 0, ms.getD (i + 1) 0] ++ ms.drop (i + 2) := by
  have e : ms.drop i = ms.getD i 0 :: ms.getD (i + 1) 0 :: ms.drop (i + 2) := by
    rw [List.drop_eq_getElem_cons (by omega), List.drop_eq_getElem_cons hi, List.getD_eq_getElem?_getD, List.getD_eq_getElem?_getD, List.getElem?_eq_getElem (by omega), List.getElem?_eq_getElem hi]
    rfl
  have z := (List.take_append_drop i ms).symm
  rw [e] at z
  rw [List.append_assoc]
  exact z
theorem exch_len (hi : i + 1 < ms.length) : (exch ms i).length = ms.length := by
  unfold exch
  rw [List.length_append, List.length_append, List.length_take, List.length_drop]
  show min i ms.length + 2 + _ = _
  omega
theorem exch_perm (hi : i + 1 < ms.length) : (exch ms i).Perm ms := by
  have z := split_at hi
  have p : (exch ms i).Perm (ms.take i ++ [ms.getD i 0, ms.getD (i + 1) 0] ++ ms.drop (i + 2)) := (((List.Perm.swap _ _ _).append_left _).append_right _)
  rwa [← z] at p
theorem exch_take (hi : i + 1 < ms.length) : (exch ms i).take i = ms.take i := by
  unfold exch
  rw [List.append_assoc, List.take_append_of_le_length (by rw [List.length_take]; omega), List.take_take, Nat.min_self]
theorem exch_at (hi : i + 1 < ms.length) : (exch ms i).getD i 0 = ms.getD (i + 1) 0 ∧ (exch ms i).getD (i + 1) 0 = ms.getD i 0 := by
  have tl : (ms.take i).length = i := by rw [List.length_take]; omega
  unfold exch
  rw [List.append_assoc]
  constructor
  · rw [List.getD_eq_getElem?_getD, List.getElem?_append_right (by omega), tl, Nat.sub_self]
    rfl
  · rw [List.getD_eq_getElem?_getD, List.getElem?_append_right (by omega), tl, Nat.add_sub_cancel_left]
    rfl
theorem exch_drop (hi : i + 1 < ms.length) : (exch ms i).drop (i + 2) = ms.drop (i + 2) := by
  unfold exch
  rw [List.drop_append_of_le_length (by rw [List.length_append, List.length_take]; show i + 2 ≤ min i ms.length + 2; omega), List.drop_of_length_le (by rw [List.length_append, List.length_take]; show min i ms.length + 2 ≤ i + 2; omega), List.nil_append]
theorem exch_exch (hi : i + 1 < ms.length) : exch (exch ms i) i = ms := by
  have z := split_at hi
  have e : exch (exch ms i) i = (exch ms i).take i ++ [(exch ms i).getD (i + 1) 0, (exch ms i).getD i 0] ++ (exch ms i).drop (i + 2) := rfl
  rw [e, exch_take hi, exch_drop hi, (exch_at hi).1, (exch_at hi).2]
  exact z.symm
theorem left_exch (hi : i + 1 < ms.length) : leftI (exch ms i) i = leftI ms i := by
  have e : leftI (exch ms i) i = (((exch ms i).take i).filter (mid ((exch ms i).getD i 0) ((exch ms i).getD (i + 1) 0))).length := rfl
  rw [e, exch_take hi, (exch_at hi).1, (exch_at hi).2]
  have f : mid (ms.getD (i + 1) 0) (ms.getD i 0) = mid (ms.getD i 0) (ms.getD (i + 1) 0) := funext fun x => mid_sym _ _ x
  rw [f]
  rfl
end
theorem mem_rev {ns : List Int} {x : Int} : x ∈ ns.reverse ++ ns ↔ x ∈ ns := by
  rw [List.mem_append, List.mem_reverse]
  exact ⟨fun h => h.elim id id, .inr⟩
theorem mem_way (ns : List Int) (st : Option Int) (c : Int) : memB (formN (ns.reverse ++ ns) st) (formS (ns.reverse ++ ns) st) c = memB ns st c := by
  rw [form_mem]
  unfold memB
  rw [decide_eq_decide.mpr mem_rev]
theorem let_no {ns : List Int} {st : Option Int} {c : Nat} (told : Told (ns.reverse ++ ns) st) (h : (decide (0 < (c : Int)) && memB ns st c) = false) : memB ns st c = false := by
  rcases Nat.eq_zero_or_pos c with rfl | hc
  · unfold memB
    rw [decide_eq_false (fun hm => by have := told.pos _ (mem_rev.mpr hm); omega), Bool.false_or]
    cases st with
    | none => rfl
    | some s =>
      have := told.st1 s rfl
      exact decide_eq_false (by show ¬ s ≤ ((0 : Nat) : Int); omega)
  · rwa [decide_eq_true (by omega), Bool.true_and] at h
def onlyK {α : Type} : List α → List α → List α
  | [], ws => ws
  | _ :: _, _ => []
theorem vals_only : ∀ {vs zs : List V} {us ws : List Value}, Vals vs us → Vals zs ws → Vals (onlyK vs zs) (onlyK us ws)
  | _, _, _, _, .nil, r => r
  | _, _, _, _, .cons _ _, _ => .nil
def rv3 {α : Type} : List α → List α
  | [a, b, c] => [c, b, a]
  | l => l
theorem vals_rv3 : ∀ {zs : List V} {ws : List Value}, Vals zs ws → Vals (rv3 zs) (rv3 ws)
  | _, _, .nil => .nil
  | _, _, .cons a .nil => .cons a .nil
  | _, _, .cons a (.cons b .nil) => .cons a (.cons b .nil)
  | _, _, .cons a (.cons b (.cons c .nil)) => .cons c (.cons b (.cons a .nil))
  | _, _, .cons a (.cons b (.cons c (.cons d r))) => .cons a (.cons b (.cons c (.cons d r)))
def rv2 {α : Type} : List α → List α
  | [a, b] => [b, a]
  | l => l
theorem vals_rv2 : ∀ {zs : List V} {ws : List Value}, Vals zs ws → Vals (rv2 zs) (rv2 ws)
  | _, _, .nil => .nil
  | _, _, .cons a .nil => .cons a .nil
  | _, _, .cons a (.cons b .nil) => .cons b (.cons a .nil)
  | _, _, .cons a (.cons b (.cons c r)) => .cons a (.cons b (.cons c r))
structure RowOk (rs : List Int) : Prop where
  nn : ∀ x ∈ rs, 0 ≤ x
  len : rs.length ≤ 200
theorem RowOk.is {rs : List Int} (h : RowOk rs) : isRow (.list (rs.map .int)) = true := isRow_of h.len h.nn
theorem done_way (ns : List Int) (st : Option Int) (rs : List Int) (i : Nat) : doneI (formN (ns.reverse ++ ns) st) (formS (ns.reverse ++ ns) st) rs i = doneI ns st rs i := by
  unfold doneI
  rw [mem_way, mem_way]
theorem open_way (ns : List Int) (st : Option Int) (rs : List Int) : openI (formN (ns.reverse ++ ns) st) (formS (ns.reverse ++ ns) st) rs = openI ns st rs := by
  unfold openI
  congr 2
  funext i
  rw [done_way]
theorem put2_put2 {rs : List Int} {i : Nat} (h : i + 1 < rs.length) (x y u v : Int) : put2 (put2 rs i x y) i u v = put2 rs i u v := by
  have h2 : i + 1 < (put2 rs i x y).length := by rw [put2_len h]; exact h
  apply List.ext_getElem?
  intro j
  rw [put2_get h2, put2_get h (x := x) (y := y), put2_get h (x := u) (y := v)]
  by_cases h1 : j = i
  · simp [h1]
  · by_cases h3 : j = i + 1
    · simp [h1, h3]
    · simp [h1, h3]
theorem put2_mem {rs : List Int} {i : Nat} (h : i + 1 < rs.length) {x y z : Int} (hz : z ∈ put2 rs i x y) : z = x ∨ z = y ∨ z ∈ rs := by
  obtain ⟨j, hj⟩ := List.getElem?_of_mem hz
  rw [put2_get h] at hj
  by_cases h1 : j = i
  · rw [if_pos h1] at hj
    exact .inl (Option.some.inj hj).symm
  · rw [if_neg h1] at hj
    by_cases h3 : j = i + 1
    · rw [if_pos h3] at hj
      exact .inr (.inl (Option.some.inj hj).symm)
    · rw [if_neg h3] at hj
      exact .inr (.inr (List.mem_of_getElem? hj))
theorem getD_mem {rs : List Int} {i : Nat} (h : i < rs.length) : rs.getD i 0 ∈ rs := by
  rw [List.getD_eq_getElem?_getD, List.getElem?_eq_getElem h]
  exact List.getElem_mem h
/-- a deed: the row behind it is a row, and the deed is undone by itself -/
theorem done_back {ns rs : List Int} {st : Option Int} {i : Nat} {x y : Int} (hn : ∀ x ∈ ns, 1 ≤ x) (hs : ∀ s, st = some s → 1 ≤ s) (ok : RowOk rs) (hi : i + 1 < rs.length) (h : doneI ns st rs i = some (x, y)) :
    RowOk (put2 rs i x y) ∧ doneI ns st (put2 rs i x y) i = some (rs.getD i 0, rs.getD (i + 1) 0) := by
  have a0 := ok.nn _ (getD_mem (show i < rs.length by omega))
  have b0 := ok.nn _ (getD_mem hi)
  have gx : (put2 rs i x y).getD i 0 = x := by rw [List.getD_eq_getElem?_getD, put2_get hi, if_pos rfl]; rfl
  have gy : (put2 rs i x y).getD (i + 1) 0 = y := by rw [List.getD_eq_getElem?_getD, put2_get hi, if_neg (by omega), if_pos rfl]; rfl
  unfold doneI at h ⊢
  rw [gx, gy]
  by_cases h1 : memB ns st (rs.getD (i + 1) 0 - rs.getD i 0 - 1) = true
  · rw [if_pos h1] at h
    cases h
    have big : 1 ≤ rs.getD (i + 1) 0 - rs.getD i 0 - 1 := by
      rcases Int.lt_or_le (rs.getD (i + 1) 0 - rs.getD i 0 - 1) 1 with lt | ge
      · rw [memB_neg hn hs lt] at h1; cases h1
      · exact ge
    refine ⟨⟨fun z hz => ?_, by rw [put2_len hi]; exact ok.len⟩, ?_⟩
    · rcases put2_mem hi hz with rfl | rfl | hz
      · omega
      · exact a0
      · exact ok.nn z hz
    · rw [memB_neg hn hs (show rs.getD i 0 - (rs.getD (i + 1) 0 - 1) - 1 < 1 by omega), if_neg Bool.false_ne_true]
      have e : rs.getD (i + 1) 0 - 1 - rs.getD i 0 = rs.getD (i + 1) 0 - rs.getD i 0 - 1 := by omega
      rw [e, if_pos h1]
      congr 2
      omega
  · rw [if_neg h1] at h
    by_cases h2 : memB ns st (rs.getD i 0 - rs.getD (i + 1) 0) = true
    · rw [if_pos h2] at h
      cases h
      refine ⟨⟨fun z hz => ?_, by rw [put2_len hi]; exact ok.len⟩, ?_⟩
      · rcases put2_mem hi hz with rfl | rfl | hz
        · exact b0
        · omega
        · exact ok.nn z hz
      · have e : rs.getD i 0 + 1 - rs.getD (i + 1) 0 - 1 = rs.getD i 0 - rs.getD (i + 1) 0 := by omega
        rw [e, if_pos h2]
        congr 2
        omega
    · rw [if_neg h2] at h
      cases h
section
variable {K : PySem.W.Frag} {σ : L2.St} {H : Hp} {ta tb tc te tk : TE} {D : Ends} {tz tu : TS} {E : XK}
theorem go_row {L C1 C2 C3 p : Addr} {ns rs : List Int} {st : Option Int} {i : Nat} {x y : Int} {v : V} {Q : VK} (hl : LetsAt L H p ns st) (hv : Rp K H v (.list (rs.map .int))) (ok : RowOk rs) (hi : i + 1 < rs.length) (hd : doneI ns st rs i = some (x, y)) (q : RetL ((put2 rs i x y).map V.int) H Q) :
    spRowDone K L C1 C2 C3 [.ref p, v, .int i] H Q E := by
  have ll : lenD (.list (rs.map .int)) = rs.length := List.length_map _
  refine ⟨.ref p, v, .int i, rfl, .inl ⟨p, ns, st, _, .int i, rfl, hl, hv, .int _, (fun z => by rw [ok.is] at z; cases z), (fun _ z => by rw [ll, place_yes hi] at z; cases z), fun rs2 j em _ ej hj => ?_⟩⟩
  have w5 : rs = rs2 := ints_inj (PyData.list.inj em)
  have w6 : i = j := by have := PyData.int.inj ej; omega
  subst w5 w6
  refine ⟨fun x2 y2 h2 => ?_, fun h2 => by rw [hd] at h2; cases h2⟩
  rw [hd] at h2
  cases h2
  exact q
theorem el_row {L C1 C2 C3 p : Addr} {ns rs : List Int} {st : Option Int} {i : Nat} {x y : Int} (ha : Ev ta σ H (.ref p)) (hl : LetsAt L H p ns st) (h : EvD K te σ H (.list (rs.map .int))) (hu : Ev tk σ H (.int i)) (ok : RowOk rs) (hi : i + 1 < rs.length) (hd : doneI ns st rs i = some (x, y)) :
    EvL (tCall (spRowDone K L C1 C2 C3) [] E (tCons ta (tCons te (tCons tk tNil)))) σ H ((put2 rs i x y).map V.int) := fun H1 a Q q =>
  ha H1 a _ fun H2 e2 => h H2 (a.trans e2) _ fun v H3 e3 hv => hu H3 ((a.trans e2).trans e3) _ fun H4 e4 => go_row (hl.mono (((a.trans e2).trans e3).trans e4)) (hv.to e4) ok hi hd fun r H5 n5 e5 h5 => q r H5 (free_of ((e2.trans e3).trans e4) n5) (((e2.trans e3).trans e4).trans e5) h5
/-- row_done(at = .., row = .., lets = ..) -/
theorem el_rowK {L C1 C2 C3 p : Addr} {ns rs : List Int} {st : Option Int} {i : Nat} {x y : Int} (ha : Ev ta σ H (.ref p)) (hl : LetsAt L H p ns st) (h : EvD K te σ H (.list (rs.map .int))) (hu : Ev tk σ H (.int i)) (ok : RowOk rs) (hi : i + 1 < rs.length) (hd : doneI ns st rs i = some (x, y)) :
    EvL (tCallK (spRowDone K L C1 C2 C3) (fun vs zs => onlyK vs (rv3 zs)) E tNil (tCons tk (tCons te (tCons ta tNil)))) σ H ((put2 rs i x y).map V.int) := fun H1 a Q q =>
  hu H1 a _ fun H2 e2 => h H2 (a.trans e2) _ fun v H3 e3 hv => ha H3 ((a.trans e2).trans e3) _ fun H4 e4 => go_row (hl.mono (((a.trans e2).trans e3).trans e4)) (hv.to e4) ok hi hd fun r H5 n5 e5 h5 => q r H5 (free_of ((e2.trans e3).trans e4) n5) (((e2.trans e3).trans e4).trans e5) h5
theorem go_open {L C1 C2 p : Addr} {ns rs : List Int} {st : Option Int} {v : V} {Q : VK} (hl : LetsAt L H p ns st) (hv : Rp K H v (.list (rs.map .int))) (ok : RowOk rs) (q : RetL ((openI ns st rs).map V.int) H Q) : spOpen K L C1 C2 [.ref p, v] H Q E := by
  refine ⟨.ref p, v, rfl, .inl ⟨p, ns, st, _, rfl, hl, hv, (fun z => by rw [ok.is] at z; cases z), fun rs2 em _ => ?_⟩⟩
  have w5 : rs = rs2 := ints_inj (PyData.list.inj em)
  subst w5
  exact q
theorem el_open {L C1 C2 p : Addr} {ns rs : List Int} {st : Option Int} (ha : Ev ta σ H (.ref p)) (hl : LetsAt L H p ns st) (h : EvD K te σ H (.list (rs.map .int))) (ok : RowOk rs) : EvL (tCall (spOpen K L C1 C2) [] E (tCons ta (tCons te tNil))) σ H ((openI ns st rs).map V.int) := fun H1 a Q q =>
  ha H1 a _ fun H2 e2 => h H2 (a.trans e2) _ fun v H3 e3 hv => go_open (hl.mono ((a.trans e2).trans e3)) hv ok fun r H5 n5 e5 h5 => q r H5 (free_of (e2.trans e3) n5) ((e2.trans e3).trans e5) h5
/-- open_places(row = .., lets = ..) -/
theorem el_openK {L C1 C2 p : Addr} {ns rs : List Int} {st : Option Int} (ha : Ev ta σ H (.ref p)) (hl : LetsAt L H p ns st) (h : EvD K te σ H (.list (rs.map .int))) (ok : RowOk rs) : EvL (tCallK (spOpen K L C1 C2) (fun vs zs => onlyK vs (rv2 zs)) E tNil (tCons te (tCons ta tNil))) σ H ((openI ns st rs).map V.int) := fun H1 a Q q =>
  h H1 a _ fun v H2 e2 hv => ha H2 (a.trans e2) _ fun H3 e3 => go_open (hl.mono ((a.trans e2).trans e3)) (hv.to e3) ok fun r H5 n5 e5 h5 => q r H5 (free_of (e2.trans e3) n5) ((e2.trans e3).trans e5) h5
theorem go_deed {L C1 C2 C3 p : Addr} {ns ms : List Int} {st : Option Int} {i : Nat} {v : V} {Q : VK} (hl : LetsAt L H p ns st) (hv : Rp K H v (.list (ms.map .int))) (ok : OrdOk ms) (hi : i + 1 < ms.length) (hm : memB ns st (leftI ms i : Nat) = true) (q : RetL ((exch ms i).map V.int) H Q) :
    spDeed K L C1 C2 C3 [.ref p, v, .int i] H Q E := by
  have ll : lenD (.list (ms.map .int)) = ms.length := List.length_map _
  refine ⟨.ref p, v, .int i, rfl, .inl ⟨p, ns, st, _, .int i, rfl, hl, hv, .int _, fun z => (by rw [ok.is] at z; cases z), fun _ z => (by rw [ll, place_yes hi] at z; cases z), fun ms2 j em _ ej hj => ?_⟩⟩
  have w5 : ms = ms2 := ints_inj (PyData.list.inj em)
  have w6 : i = j := by have := PyData.int.inj ej; omega
  subst w5 w6
  exact ⟨fun _ => q, fun z => by rw [hm] at z; cases z⟩
theorem el_deed {L C1 C2 C3 p : Addr} {ns ms : List Int} {st : Option Int} {i : Nat} (ha : Ev ta σ H (.ref p)) (hl : LetsAt L H p ns st) (h : EvD K te σ H (.list (ms.map .int))) (hu : Ev tk σ H (.int i)) (ok : OrdOk ms) (hi : i + 1 < ms.length)
    (hm : memB ns st (leftI ms i : Nat) = true) : EvL (tCall (spDeed K L C1 C2 C3) [] E (tCons ta (tCons te (tCons tk tNil)))) σ H ((exch ms i).map V.int) := fun H1 a Q q =>
  ha H1 a _ fun H2 e2 => h H2 (a.trans e2) _ fun v H3 e3 hv => hu H3 ((a.trans e2).trans e3) _ fun H4 e4 => go_deed (hl.mono (((a.trans e2).trans e3).trans e4)) (hv.to e4) ok hi hm fun r H5 n5 e5 h5 => q r H5 (free_of ((e2.trans e3).trans e4) n5) (((e2.trans e3).trans e4).trans e5) h5
end
theorem ev_neInt {K : PySem.W.Frag} {σ : L2.St} {H : Hp} {ta tb : TE} {i : Int} (h1 : Ev ta σ H (.int i)) (h2 : Ev tb σ H (.int i)) : Ev (tOp (rNeD K) ta tb) σ H (.bl false) :=
  ev_is (ev_neD (ed_int h1) (ed_int h2) rfl rfl rfl rfl) (by
    show V.bl (!(i == i)) = .bl false
    rw [beq_self_eq_true]; rfl)
theorem res_shape (k : Int) {s : Str} (h : PyData.canLay0 (.str s) = true) : SeqAt.shaped (res k s) = true := by
  show (((true && (true && (true && true))) && (PyData.canLay0 (.str s) && true)) && decide (max (max 0 (max 0 (max 0 0)) + 1) (max 0 0) + 1 ≤ 64)) = true
  rw [h]
  rfl
theorem res_eqv (k : Int) (s : Str) : PyData.eqv (res k s) (res k s) = true := by
  show ((((decide (0 = k)) == (decide (0 = k))) && (((decide (1 = k)) == (decide (1 = k))) && (((decide (2 = k)) == (decide (2 = k))) && true))) && ((s == s) && true)) = true
  rw [beq_self_eq_true, beq_self_eq_true, beq_self_eq_true, beq_self_eq_true]
  rfl
section
variable {K : PySem.W.Frag} {σ : L2.St} {H : Hp} {ta tb tc td : TE} {E : XK}
theorem ev_neRes {k : Int} {s : Str} (h : PyData.canLay0 (.str s) = true) (h1 : EvD K ta σ H (res k s)) (h2 : EvD K tb σ H (res k s)) : Ev (tOp (rNeD K) ta tb) σ H (.bl false) :=
  ev_is (ev_neD h1 h2 rfl rfl (res_shape k h) (res_shape k h)) (by rw [res_eqv]; rfl)
theorem ed_caughtD {sp : Sp} {i : Int} {l u : V} {d r : PyData} (hi : Ev ta σ H (.int i)) (hl : Ev tb σ H l) (hd : EvD K tc σ H d) (hu : Ev td σ H u) (k : ∀ v H1, Ex H H1 → Rp K H1 v d → ∀ Q, RetD K r H1 Q → sp [.int i, l, v, u] H1 Q E) :
    EvD K (tCall sp [] E (tCons ta (tCons tb (tCons tc (tCons td tNil))))) σ H r := fun H1 a Q q =>
  hi H1 a _ fun H2 e2 => hl H2 (a.trans e2) _ fun H3 e3 => hd H3 ((a.trans e2).trans e3) _ fun v H4 e4 hv => hu H4 (((a.trans e2).trans e3).trans e4) _ fun H5 e5 =>
    k v H5 ((((a.trans e2).trans e3).trans e4).trans e5) (hv.to e5) Q fun x H6 e6 r => q x H6 ((((e2.trans e3).trans e4).trans e5).trans e6) r
theorem ed_only {k : Int} {v : V} {d : PyData} (hk : Ev ta σ H (.int k)) (hv : Ev tb σ H v) (hd : Rp K H v d) (ok : Okc d) : EvD K (tCall (spOnly K) [] E (tCons ta (tCons tb tNil))) σ H (res k d.shown) := fun H1 a Q q =>
  hk H1 a _ fun H2 e2 => hv H2 (a.trans e2) _ fun H3 e3 => ⟨k, v, d, rfl, hd.to ((a.trans e2).trans e3), ok, fun x H4 e4 r => q x H4 ((e2.trans e3).trans e4) r⟩
end
theorem okc_int {i : Nat} (h : i < 201) : Okc (.int i) := by
  have m : (i : Int) ∈ rangeI 201 := List.mem_map.mpr ⟨i, List.mem_range.mpr h, rfl⟩
  have z := okT.small _ m
  have y : ((rangeI 201).all fun n => (PyData.int n).showable) = true := by decide +kernel
  exact ⟨.inl rfl, List.all_eq_true.mp y _ m, by show 0 ≤ 60; decide, sz_of (Nat.le_trans z.1 (by decide)), z.2⟩
end K05




set_option Elab.async false
set_option linter.all false
set_option maxRecDepth 100000
set_option maxHeartbeats 1000000
namespace K05
open PySem PySem.Spec PyProof.Rows L2 Evl GS
local macro_rules | `(tactic| walk_at "bits") => `(tactic| first | (refine bits64 ?_; omega) | (apply bitsM; (focus walk_at "bits"); (focus walk_at "bits")))
local macro_rules | `(tactic| walk_at "side") => `(tactic| first
  | (apply CMulX.of; (focus walk_at "bits"); (focus walk_at "bits"); decide)
  | (dsimp only; omega) | assumption | decide)
local macro_rules | `(tactic| walk_at "rv") => `(tactic| first | exact rv_I0 | (apply rv_I; walk_at "side"))
local macro_rules | `(tactic| walk_at "ev") => `(tactic| first
  | exact ev_c
  | exact ev_var rfl
  | (apply ev_op; (focus walk_at "ev"); (focus walk_at "ev"); (focus walk_at "rv"))
  | (apply ev_int1; walk_at "ev")
  | (apply ev_max2; (focus walk_at "ev"); (focus walk_at "ev"))
  | (apply ev_bits; walk_at "ev"))

theorem rangeI_nd (n : Nat) : (rangeI n).Nodup := by
  unfold rangeI
  exact List.Pairwise.map _ (fun a b h e => h (by omega)) List.nodup_range
def unl (y o : Int) : Int := if o > y then o - 1 else o
theorem unl_lift (y o : Int) : unl y (lift y o) = o := by
  unfold unl lift
  by_cases h : o ≥ y
  · rw [if_pos h, if_pos (by omega)]; omega
  · rw [if_neg h, if_neg (by omega)]
theorem lift_unl {y o : Int} (h : o ≠ y) : lift y (unl y o) = o := by
  unfold unl lift
  by_cases h1 : o > y
  · rw [if_pos h1, if_pos (by omega)]; omega
  · rw [if_neg h1, if_neg (by omega)]
/-- an order, of its log -/
theorem ord_log : ∀ (n : Nat) (f : List Int), f.Perm (rangeI n) → ordOf (logOf f) = f ∧ IsLog (logOf f)
  | 0, f, p => by
    have : f = [] := List.Perm.eq_nil p
    subst this
    exact ⟨rfl, fun i k h => by cases h⟩
  | n + 1, f, p => by
    have hl : f.length = n + 1 := by rw [p.length_eq, rangeI_len]
    obtain ⟨g, y, rfl⟩ : ∃ g y, f = g ++ [y] := by
      refine ⟨f.take n, f.getD n 0, ?_⟩
      have z : f.take (n + 1) = f.take n ++ [f.getD n 0] := GS.take_snoc (by rw [List.getD_eq_getElem?_getD, List.getElem?_eq_getElem (by omega)]; rfl)
      rw [← z, List.take_of_length_le (by omega)]
    have gl : g.length = n := by rw [List.length_append, List.length_singleton] at hl; omega
    have nd : (g ++ [y]).Nodup := p.nodup_iff.mpr (rangeI_nd _)
    have ny : y ∉ g := fun hm => (List.nodup_append.mp nd).2.2 y hm y (List.mem_singleton.mpr rfl) rfl
    have ym : y ∈ rangeI (n + 1) := p.mem_iff.mp (List.mem_append.mpr (.inr (List.mem_singleton.mpr rfl)))
    have yb : 0 ≤ y ∧ y ≤ n := by
      unfold rangeI at ym
      obtain ⟨k, hk, rfl⟩ := List.mem_map.mp ym
      have := List.mem_range.mp hk
      omega
    have eg : (g.map (unl y)).map (lift y) = g := by
      rw [List.map_map]
      have e : g.map (lift y ∘ unl y) = g.map id := List.map_congr_left fun o ho => lift_unl fun e => ny (e ▸ ho)
      rw [e, List.map_id]
    have un : ∀ l : List Int, (l.map (lift y)).map (unl y) = l := fun l => by
      rw [List.map_map]
      have e : l.map (unl y ∘ lift y) = l.map id := List.map_congr_left fun o _ => unl_lift y o
      rw [e, List.map_id]
    have pg : (g.map (unl y)).Perm (rangeI n) := by
      have z := lift_range y yb.1 n yb.2
      have z2 : (g ++ [y]).Perm ((rangeI n).map (lift y) ++ [y]) := p.trans z.symm
      have z3 := ((List.perm_append_right_iff [y]).mp z2).map (unl y)
      rwa [un] at z3
    obtain ⟨i1, i2⟩ := ord_log n _ pg
    have cnt : ((g.filter fun o => decide (o < y)).length : Int) = y := by
      have z := range_count (n + 1) y yb.1 (by push_cast; omega)
      rw [← (p.filter _).length_eq, List.filter_append, List.length_append] at z
      have e : ([y].filter fun o => decide (o < y)).length = 0 := by
        rw [List.filter_cons, if_neg (by rw [decide_eq_false (by omega)]; decide)]
        rfl
      rw [e] at z
      exact z
    have el : logOf (g ++ [y]) = logOf (g.map (unl y)) ++ [y] := by
      rw [logOf_snoc, cnt]
      congr 1
      have z := logOf_lift y (g.map (unl y))
      rwa [eg] at z
    rw [el]
    refine ⟨by rw [ordOf_snoc, i1, eg], fun k c hc => ?_⟩
    have ll : (logOf (g.map (unl y))).length = n := by rw [logOf_len, List.length_map, gl]
    rcases Nat.lt_or_ge k n with lt | ge
    · rw [List.getElem?_append_left (by omega)] at hc
      exact i2 k c hc
    · rw [List.getElem?_append_right (by omega), ll] at hc
      have e0 : k - n = 0 := by
        rcases Nat.eq_zero_or_pos (k - n) with z | z
        · exact z
        · rw [List.getElem?_eq_none (by rw [List.length_singleton]; exact z)] at hc
          cases hc
      rw [e0] at hc
      have e1 : y = c := Option.some.inj hc
      subst e1
      omega
theorem OrdOk.pm {ms : List Int} (h : OrdOk ms) : ms.Perm (rangeI ms.length) := by
  obtain ⟨ns, e, _, hp⟩ := isOrder_ints h.is
  have w : ms = ns := ints_inj (PyData.list.inj e)
  subst w
  exact perm_iff_isort.mpr hp
theorem OrdOk.nd {ms : List Int} (h : OrdOk ms) : ms.Nodup := h.pm.nodup_iff.mpr (rangeI_nd _)
theorem log_row {ms : List Int} (h : ms.length ≤ 200) : RowOk (logOf ms) := by
  refine ⟨fun x hx => ?_, by rw [logOf_len]; exact h⟩
  unfold logOf at hx
  obtain ⟨i, _, rfl⟩ := List.mem_map.mp hx
  exact Int.natCast_nonneg _
section
variable {K : PySem.W.Frag} {σ : L2.St} {H : Hp} {ta tb te : TE}
theorem el_made {C : Addr} {f : PyData → Bool} {g : List Int → List Int} {E : XK} {ns : List Int} (h : EvD K te σ H (.list (ns.map .int))) (ht : f (.list (ns.map .int)) = true) :
    EvL (tCall (spMade K C f g) [] E (tCons te tNil)) σ H ((g ns).map V.int) := fun H1 a Q q =>
  h H1 a _ fun v H2 e2 hv => ⟨v, _, rfl, hv, fun ms em hm => by
    have : ms = ns := by
      have z : ns.map PyData.int = ms.map PyData.int := PyData.list.inj em
      have z2 := congrArg intsD z
      rw [intsD_ints, intsD_ints] at z2
      exact z2.symm
    subst this
    exact fun p H3 n e3 hp => q p H3 (fresh_back e2 n) (e2.trans e3) hp, fun hf => by rw [ht] at hf; cases hf⟩
end
section
variable {P : Program} {w : World} {K : PySem.W.Frag} {mg : Str → Option Value} {base : Heap}
def spOR (L : Addr) : Sp := fun vs H Q _ => ∃ (t p a : Addr) (ns ms : List Int) (st : Option Int), vs = [.ref t, .ref p, .ref a] ∧ WayAt H t ns st ∧ LetsAt L H p (formN (ns.reverse ++ ns) st) (formS (ns.reverse ++ ns) st) ∧ Told (ns.reverse ++ ns) st ∧
  H a = some (.lst (ms.map V.int)) ∧ OrdOk ms ∧ RetV (.bl true) H Q
theorem ok_or (T : Tx K mg) : FnG P w K mg base CX0 8 T.a_l_order_right T.fd_l_order_right P_l_order_right (spOR T.a_Lets) := by
  have c_l_log := ok_llog (P := P) (w := w) (base := base) T
  have c_l_let := ok_let (P := P) (w := w) (base := base) T
  have c_l_left := ok_lleft (P := P) (w := w) (base := base) T
  have c_log_of := ok_logof (P := P) (w := w) (base := base) T
  have c_order_of := ok_orderof (P := P) (w := w) (base := base) T
  have c_open_places := ok_open (P := P) (w := w) (base := base) T
  have c_order_done := ok_deed (P := P) (w := w) (base := base) T
  have c_row_done := ok_rowdone (P := P) (w := w) (base := base) T
  refine fun_g T.F_l_order_right sc_l_order_right (fun vs H Q E h => ?_) (fun cdv A outer s H vs Q E hr hq h => ?_)
  · obtain ⟨t, p, a, ns, ms, st, rfl, _⟩ := h
    rfl
  · obtain ⟨t, p, a, ns, ms, st, rfl, hw, hl, told, ha, ok, q⟩ := h
    refine ⟨_, (pss_cons (ps_set (i := 3) nd_l_order_right rfl (.inl rfl) (pe_call c_l_log (hr.mono (by decide)) (by rfl) T.g_l_log T.F_l_log.kp T.b_l_log .nil pass0 (pa_cons (pv 2) pa_nil)))
      (pss_cons (ps_setLc (own := [("_law_at", 4)]) (i := 5) rfl nd_l_order_right rfl rfl (sw_true rfl rfl rfl (by decide +kernel)) (pi_range1 (by rfl) T.m_range (pa_cons (pe_op op_sub (pe_callB (k_len (K := K) rfl) (by rfl) T.m_len (by decide +kernel) (pa_cons (pv 2) pa_nil)) pe_int) pa_nil)) (blkOk_by (N := N_l_order_right) (sc := (defScope s_l_order_right)) (by decide +kernel)) (fun _ _ _ _ _ => pg_name (i := 4) nd_l_order_right rfl (.inl rfl)) (fun _ _ _ _ _ => pts_one (pt_val (pe_call c_l_let (hr.mono (by decide)) (by rfl) T.g_l_let T.F_l_let.kp T.b_l_let .nil pass0 (pa_cons (pv 0) (pa_cons (pe_call c_l_left (hr.mono (by decide)) (by rfl) T.g_l_left T.F_l_left.kp T.b_l_left .nil pass0 (pa_cons (pv 2) (pa_cons (pv 4) pa_nil))) pa_nil))))) (fun _ _ _ _ _ => (pv 4)))
      (pss_cons (ps_if (PW.pt (pw_or (pt_cmpR (k_ne (K := K) rfl hr.units) (pe_call c_log_of (hr.mono (by decide)) (by rfl) T.g_log_of T.F_log_of.kp T.b_log_of .nil passL (pa_cons (pv 2) pa_nil)) (pv 3) (nomark _)) (pw_or1 (pt_cmpR (k_ne (K := K) rfl hr.units) (pe_call c_open_places (hr.mono (by decide)) (by rfl) T.g_open_places T.F_open_places.kp T.b_open_places .nil passL (pa_cons (pv 1) (pa_cons (pv 3) pa_nil))) (pv 5) (nomark _))))) (pss_one (ps_ret pe_bl)) pss_nil)
      (pss_cons (ps_for PassesOwn.never rfl (k_pil (K := K) rfl (pv 5)) (pg_name (i := 4) nd_l_order_right rfl (.inl rfl)) (pss_cons (ps_set (i := 6) nd_l_order_right rfl (.inl rfl) (pe_call c_order_done (hr.mono (by decide)) (by rfl) T.g_order_done T.F_order_done.kp T.b_order_done .nil passL (pa_cons (pv 1) (pa_cons (pv 2) (pa_cons (pv 4) pa_nil)))))
      (pss_one (ps_if (PW.pt (pw_or (pt_cmpR (k_ne (K := K) rfl hr.units) (pe_call c_row_done (hr.mono (by decide)) (by rfl) T.g_row_done T.F_row_done.kp T.b_row_done .nil passL (pa_cons (pv 1) (pa_cons (pv 3) (pa_cons (pv 4) pa_nil)))) (pe_call c_l_log (hr.mono (by decide)) (by rfl) T.g_l_log T.F_l_log.kp T.b_l_log .nil pass0 (pa_cons (pv 6) pa_nil)) (nomark _)) (pw_or1 (pt_cmpR (k_ne (K := K) rfl hr.units) (pe_call c_order_of (hr.mono (by decide)) (by rfl) T.g_order_of T.F_order_of.kp T.b_order_of .nil passL (pa_cons (pe_call c_row_done (hr.mono (by decide)) (by rfl) T.g_row_done T.F_row_done.kp T.b_row_done .nil passL (pa_cons (pv 1) (pa_cons (pv 3) (pa_cons (pv 4) pa_nil)))) pa_nil)) (pv 6) (nomark _))))) (pss_one (ps_ret pe_bl)) pss_nil))))
      (pss_one (ps_ret pe_bl)))))), ?_⟩
    have hn : ∀ x ∈ ns, 1 ≤ x := fun x hx => (told.pos x (List.mem_append.mpr (.inr hx))).1
    have hst : ∀ s, st = some s → 1 ≤ s := fun s hs => (told.st1 s hs).1
    have nl := ok.len
    have lr := log_row nl
    apply q_asgL (xs := (logOf ms).map V.int)
    · exact el_own (ea_cons (ev_var rfl) ea_nil) fun H1 e1 Q1 q1 => ⟨a, ms, rfl, sq_of (e1 _ _ ha), by omega, q1⟩
    intro lg H1 nlg e1 hlg
    have ha1 := e1 _ _ ha
    apply q_asgL (xs := (openI ns st (logOf ms)).map V.int)
    · have en : ((ms.length : Int) - 1).toNat = ms.length - 1 := by omega
      refine el_is' (el_lcRn (n := (ms.length : Int) - 1) (fun i => memB ns st (leftI ms i : Nat)) (fun i => .int (i : Nat)) (ea_cons (ev_op (ev_is (ev_len (ev_var rfl) (sq_of ha1)) (by rw [List.length_map])) ev_c rv_I0) ea_nil) ⟨by omega, by omega⟩ (fun x => rfl) ?_ ?_) ?_
      · intro i H2 e2 hi
        have hi2 : i + 1 < ms.length := by omega
        have z : EvT (tB (tCall (spLet K) [] E0 (tCons (tVar 0) (tCons (tCall (spLeft K) [] E0 (tCons (tVar 2) (tCons (tVar 4) tNil))) tNil)))) [some (.ref t), some (.ref p), some (.ref a), some (.ref lg), some (.int i), none, none] H2 (decide (0 < ((leftI ms i : Nat) : Int)) && memB ns st (leftI ms i : Nat)) :=
          et_B (ev_own (ea_cons (ev_var rfl) (ea_cons (ev_own (v := .int (leftI ms i : Nat)) (ea_cons (ev_var rfl) (ea_cons (ev_var rfl) ea_nil)) fun H3 e3 Q3 q3 => ⟨a, ms, i, rfl, sq_of ((e2.trans e3) _ _ ha1), hi2, nl, q3⟩) ea_nil)) fun H3 e3 Q3 q3 => ⟨t, ns, st, _, rfl, hw.mono ((e1.trans e2).trans e3), q3⟩)
        rw [let_is told] at z
        exact z
      · intro i H2 e2 hi _
        exact ev_var rfl
      · rw [en]
        unfold openI given
        rw [List.map_map, logOf_len]
        have e : ((List.range (ms.length - 1)).filter fun i => memB ns st (leftI ms i : Nat)) = (List.range (ms.length - 1)).filter fun i => (doneI ns st (logOf ms) i).isSome := by
          apply List.filter_congr
          intro i hi
          have hi2 := List.mem_range.mp hi
          obtain ⟨d1, d2⟩ := done_log (i := i) hn hst ok.nd (by omega)
          cases hb : memB ns st (leftI ms i : Nat) with
          | true =>
            obtain ⟨x, y, e1, _⟩ := d1 hb
            rw [e1]; rfl
          | false => rw [d2 hb]; rfl
        rw [e]
        rfl
    intro dd H2 nd e2 hdd
    have e12 := e1.trans e2
    have hlg2 := e2 _ _ hlg
    refine no_if (et_or2 (et_test (ev_neSame (ed_newI (el_made (g := logOf) (ed_ints (ev_var rfl) (sq_of (e12 _ _ ha))) ok.is)) (ed_ints (ev_var rfl) (sq_of hlg2))))
      (et_test (ev_neSame (ed_newI (el_is' (el_open (ev_var rfl) (hl.mono e12) (ed_ints (ev_var rfl) (sq_of hlg2)) lr) (by rw [open_way]))) (ed_ints (ev_var rfl) (sq_of hdd))))) fun H3 e3 => ?_
    have e13 := e12.trans e3
    apply q_forLn (xs := (openI ns st (logOf ms)).map V.int) (ev_var rfl) (sq_of (e3 _ _ hdd))
    rotate_left 4
    · exact fun k σ H' => (∃ y4 y6 : Option V, σ = [some (.ref t), some (.ref p), some (.ref a), some (.ref lg), y4, some (.ref dd), y6]) ∧ Ex H3 H'
    · intro H4 e4
      exact ⟨⟨_, _, rfl⟩, e4⟩
    · rintro k σ H4 hk ⟨_, e4⟩
      exact sq_of (e4 _ _ (e3 _ _ hdd))
    · rintro k x σ H4 hk ⟨⟨y4, y6, rfl⟩, e4⟩
      obtain ⟨c, hc, rfl⟩ := getI hk
      obtain ⟨i, hi, rfl⟩ := List.mem_map.mp (List.mem_of_getElem? hc)
      obtain ⟨hr, hsome⟩ := List.mem_filter.mp hi
      have hr2 := List.mem_range.mp hr
      rw [logOf_len] at hr2
      have hi2 : i + 1 < ms.length := by omega
      have e14 := e13.trans e4
      have hlg4 := e4 _ _ (e3 _ _ hlg2)
      have ha4 := e14 _ _ ha
      obtain ⟨d1, d2⟩ := done_log (i := i) hn hst ok.nd hi2
      have yes : memB ns st (leftI ms i : Nat) = true := by
        cases hb : memB ns st (leftI ms i : Nat) with
        | true => rfl
        | false => rw [d2 hb] at hsome; cases hsome
      obtain ⟨x, y, dx, lx⟩ := d1 yes
      have okx : OrdOk (exch ms i) := ok.perm (exch_perm hi2)
      have li : i + 1 < (logOf ms).length := by rw [logOf_len]; exact hi2
      obtain ⟨o1, o2⟩ := ord_log _ _ okx.pm
      have row : ∀ {Hx : Hp} {o : Addr}, Ex H4 Hx → EvL (tCall (spRowDone K T.a_Lets T.a_InvalidRow T.a_InvalidPlace T.a_InvalidLets) [] E0 (tCons (tVar 1) (tCons (tVar 3) (tCons (tVar 4) tNil)))) [some (.ref t), some (.ref p), some (.ref a), some (.ref lg), some (.int i), some (.ref dd), some (.ref o)] Hx ((logOf (exch ms i)).map V.int) := fun ex => by
        rw [lx]
        exact el_row (ev_var rfl) (hl.mono (e14.trans ex)) (ed_ints (ev_var rfl) (sq_of (ex _ _ hlg4))) (ev_var rfl) lr li (by rw [done_way]; exact dx)
      apply q_asgL (xs := (exch ms i).map V.int)
      · exact el_deed (ev_var rfl) (hl.mono e14) (ed_ints (ev_var rfl) (sq_of ha4)) (ev_var rfl) ok hi2 (by rw [mem_way]; exact yes)
      intro o H5 no e5 ho
      refine s_when (b := false) ?_ (fun z => by cases z) fun _ H6 e6 => ⟨⟨_, _, rfl⟩, (e4.trans e5).trans e6⟩
      refine et_or2 (et_test (ev_neSame (ed_newI (row e5)) (ed_newI (el_own (ea_cons (ev_var rfl) ea_nil) fun H6 e6 Q6 q6 => ⟨o, exch ms i, rfl, sq_of (e6 _ _ ho), by rw [exch_len hi2]; omega, q6⟩)))) (et_test (ev_neSame (a := exch ms i) (ed_newI (el_is' (el_made (g := ordOf) (ed_newI (row e5)) (log_yes o2 (by rw [logOf_len, exch_len hi2]; exact nl))) (by rw [o1]))) (ed_ints (ev_var rfl) (sq_of ho))))
    · rintro σ H4 ⟨⟨y4, y6, rfl⟩, e4⟩
      apply s_ret (v := .bl true) ev_c
      exact fun H5 e5 => q H5 ((e13.trans e4).trans e5)
end
end K05




set_option Elab.async false
set_option linter.all false
set_option maxRecDepth 100000
set_option maxHeartbeats 1000000
namespace K05
open PySem PySem.Spec PyProof.Rows L2 Evl GS
local macro_rules | `(tactic| walk_at "bits") => `(tactic| first | (refine bits64 ?_; omega) | (apply bitsM; (focus walk_at "bits"); (focus walk_at "bits")))
local macro_rules | `(tactic| walk_at "side") => `(tactic| first
  | (apply CMulX.of; (focus walk_at "bits"); (focus walk_at "bits"); decide)
  | (dsimp only; omega) | assumption | decide)
local macro_rules | `(tactic| walk_at "rv") => `(tactic| first | exact rv_I0 | (apply rv_I; walk_at "side"))
local macro_rules | `(tactic| walk_at "ev") => `(tactic| first
  | exact ev_c
  | exact ev_var rfl
  | (apply ev_op; (focus walk_at "ev"); (focus walk_at "ev"); (focus walk_at "rv"))
  | (apply ev_int1; walk_at "ev")
  | (apply ev_max2; (focus walk_at "ev"); (focus walk_at "ev"))
  | (apply ev_bits; walk_at "ev"))

/-! lists of what is near -/
theorem near_fst (ns : List Int) (st : Option Int) (rs : List Int) : ∀ k, (nearI ns st rs k).map (fun e => (e.1 : Int)) = ((List.range k).filter fun i => (doneI ns st rs i).isSome).map fun i : Nat => (i : Int)
  | 0 => rfl
  | k + 1 => by
    rw [near_succ, List.map_append, near_fst ns st rs k, List.range_succ, List.filter_append, List.map_append]
    congr 1
    cases h : doneI ns st rs k with
    | none => rw [List.filter_cons, if_neg (by rw [h]; decide)]; rfl
    | some p => rw [List.filter_cons, if_pos (by rw [h]; rfl)]; rfl
theorem near_mem {ns rs : List Int} {st : Option Int} : ∀ {k : Nat} {e : Nat × List Int}, e ∈ nearI ns st rs k → ∃ x y, e.1 < k ∧ doneI ns st rs e.1 = some (x, y) ∧ e.2 = put2 rs e.1 x y
  | 0, e, h => by cases h
  | k + 1, e, h => by
    rw [near_succ] at h
    rcases List.mem_append.mp h with h | h
    · obtain ⟨x, y, h1, h2⟩ := near_mem h
      exact ⟨x, y, by omega, h2⟩
    · cases hd : doneI ns st rs k with
      | none => rw [hd] at h; cases h
      | some p =>
        obtain ⟨x, y⟩ := p
        rw [hd] at h
        rw [List.mem_singleton.mp h]
        exact ⟨x, y, by show k < k + 1; omega, hd, rfl⟩
def EvNr (tl : TE) (σ : L2.St) (H : Hp) (es : List (Nat × List Int)) : Prop := ∀ H1, Ex H H1 → ∀ Q : VK, (∀ p xs H0 H2, Ex H1 H2 → H2 p = some (.lst xs) → NearAt H0 H2 xs es → Q (.ref p) H2) → tl σ H1 Q
section
variable {K : PySem.W.Frag} {σ : L2.St} {H : Hp} {ta tb tl : TE} {D : Ends} {tz : TS} {tr : TA} {g : TG} {E : XK}
theorem q_tupL {xs : List V} (ha : EvL ta σ H xs)
    (k : ∀ a H1, H a = none → Ex H H1 → H1 a = some (.lst xs) → tr σ H1 fun vs H2 => (V.ref a :: vs).length ≤ sizeLine ∧ ∀ p, H2 p = none → g (.ref p) σ (upd H2 p (.tup (V.ref a :: vs))) fun σ2 H3 => tz D σ2 H3) :
    tSeq (tAsg (tTup (tCons ta tr)) g) tz D σ H := ha H (Ex.refl H) _ fun a H1 n1 e1 h1 => k a H1 n1 e1 h1
theorem q_setAll {ys : List V} (h : EvL ta σ H ys) (k : ∀ b H1, H b = none → Ex H H1 → H1 b = some (.lst ys) → gAll tb (.ref b) σ H1 fun σ' H' => tz D σ' H') : tSeq (tAsg ta (gAll tb)) tz D σ H := h H (Ex.refl H) _ fun b H1 n e hb => k b H1 n e hb
theorem nr_var {i : Nat} {p : Addr} {xs : List V} {H0 : Hp} {es : List (Nat × List Int)} (hi : σ[i]? = some (some (.ref p))) (hp : H p = some (.lst xs)) (h : NearAt H0 H xs es) : EvNr (tVar i) σ H es := fun H1 e Q q => ⟨.ref p, hi, q p xs H0 H1 (Ex.refl _) (e _ _ hp) (h.mono e)⟩
/-- [e[0] for e in near] -/
theorem el_firsts {j : Nat} {es : List (Nat × List Int)} (h : EvNr tl σ H es) (hl : es.length ≤ 1000) (hj : j < σ.length) : EvL (tLc (iList K tl) (gName j) tYes (tOp (rIxT K) (tVar j) (tC (.int 0))) [j]) σ H (es.map fun e => .int (e.1 : Nat)) := fun H0 e Q q =>
  h H0 e _ fun a xs HZ H1 e1 hx near => ⟨a, rfl, ⟨xs, sq_of hx⟩, fun Dl hD =>
    lc_list (xs := xs) (Cw H1 (fun _ => true) (fun k => .int ((es.getD k (0, [])).1 : Nat)) Dl) ⟨hD, Ex.new hD, upd_same⟩ (fun i H' _ p => sq_of (p.2.1 a _ hx))
      (fun i x H' hi p => ⟨by
          show ((σ.set j none).set j (some x)).set j none = σ.set j none
          rw [List.set_set, List.set_set], cw_turn p (by have := (List.getElem?_eq_some_iff.mp hi).1; have := near.1; omega) (fun H2 e2 Q2 q2 => q2 H2 (Ex.refl _)) (fun _ => by
        have lt := (List.getElem?_eq_some_iff.mp hi).1
        have le : i < es.length := by rw [← near.1]; exact lt
        have ge : es[i]? = some (es.getD i (0, [])) := by rw [List.getD_eq_getElem?_getD, List.getElem?_eq_getElem le]; rfl
        obtain ⟨t, l, rfl, h1, h2, _⟩ := near.2 i x _ hi ge
        exact ev_ixT (ev_var (by rw [List.getElem?_set_self (by rw [wipe_length]; exact hj)])) ev_c (st_of h1) rfl)⟩)
      (fun H' p => q Dl H' (fresh_back e1 p.1) (e1.trans p.2.1) (by
        have z := p.2.2
        rw [given_all, near.1, range_getD es (0, []) (fun e => V.int (e.1 : Nat))] at z
        exact z))⟩
/-- [v(i) for i in range(lo, n) if f(i)] -/
theorem el_lcR2 {tas : TA} {tt : TT} {te : TE} {vs : List Nat} {j : Nat} {lo n : Int} (f : Nat → Bool) (v : Nat → V) (h : EvA tas σ H [.int lo, .int n]) (hn : -1000 ≤ lo ∧ lo ≤ n ∧ n ≤ 1000) (hw : ∀ x, wipe ((wipe σ vs).set j (some x)) vs = wipe σ vs)
    (ht : ∀ (i : Nat) H1, Ex H H1 → lo + (i : Int) < n → EvT tt ((wipe σ vs).set j (some (.int (lo + (i : Int))))) H1 (f i)) (he : ∀ (i : Nat) H1, Ex H H1 → lo + (i : Int) < n → f i = true → Ev te ((wipe σ vs).set j (some (.int (lo + (i : Int))))) H1 (v i)) :
    EvL (tLc (iRng2 tas) (gName j) tt te vs) σ H (given (n - lo).toNat f v) := fun H0 e Q q =>
  h H0 e _ fun H1 e1 => ⟨lo, n, rfl, ⟨by omega, by omega, by omega, by omega⟩, fun D hD => by
    refine ⟨fun i m H2 => m = (n - lo).toNat - i ∧ i ≤ (n - lo).toNat ∧ Cw H1 f v D i H2, ⟨(n - lo).toNat, by simp, Nat.zero_le _, hD, Ex.new hD, upd_same⟩, ?_⟩
    rintro i m H2 ⟨rfl, hi, p⟩
    rcases Nat.lt_or_ge i (n - lo).toNat with lt | ge
    · refine .inr ⟨lt, fun H3 => Cw H1 f v D (i + 1) H3, fun H3 p3 => ⟨(n - lo).toNat - (i + 1), by omega, rfl, lt, p3⟩, ?_⟩
      rintro x H3 ⟨rfl, rfl⟩
      exact ⟨hw _, cw_turn p (by omega) (ht i H1 (e.trans e1) (by omega)) (fun hf => he i H1 (e.trans e1) (by omega) hf)⟩
    · have en : i = (n - lo).toNat := by omega
      subst en
      exact .inl ⟨Nat.le_refl _, q D H2 (fresh_back e1 p.1) (e1.trans p.2.1) p.2.2⟩⟩
end
theorem given_none (n : Nat) (v : Nat → V) : given n (fun _ => false) v = [] := by
  unfold given
  rw [List.filter_eq_nil_iff.mpr (fun _ _ => Bool.false_ne_true)]
  rfl
theorem inV_end (k : Int) (ns : List Int) : inV (.int k) (ns.map V.int ++ [V.non]) = decide (k ∈ ns) := by
  induction ns with
  | nil => rfl
  | cons n l ih =>
    show ((n == k) || inV (.int k) (l.map V.int ++ [V.non])) = _
    rw [ih, Bool.eq_iff_iff, Bool.or_eq_true, beq_iff_eq, decide_eq_true_eq, decide_eq_true_eq, List.mem_cons]
    exact ⟨fun h => h.imp (fun e => e.symm) fun e => e, fun h => h.imp (fun e => e.symm) fun e => e⟩
theorem okc_m1 : Okc (.int (-1)) := by
  have h := OkBad.of (f := fun _ => false) (d := .int (-1)) (by decide +kernel)
  exact ⟨h.nd, h.sh, h.dp, h.ln, h.st⟩
def spRR (L : Addr) : Sp := fun vs H Q _ => ∃ (t p a : Addr) (ns rs : List Int) (st : Option Int), vs = [.ref t, .ref p, .ref a] ∧ WayAt H t ns st ∧ LetsAt L H p (formN (ns.reverse ++ ns) st) (formS (ns.reverse ++ ns) st) ∧ Told (ns.reverse ++ ns) st ∧
  H a = some (.lst (rs.map V.int)) ∧ RowOk rs ∧ rs.length ≤ 100 ∧ RetV (.bl true) H Q
theorem k_inS {X : Cx} {K : PySem.W.Frag} (h : X.K = K) : OpR X (compareOp .In) (rIn K false) := h ▸ op_in_seq
theorem k_notInS {X : Cx} {K : PySem.W.Frag} (h : X.K = K) : OpR X (compareOp .NotIn) (rIn K true) := h ▸ op_notIn_seq
section
variable {P : Program} {w : World} {K : PySem.W.Frag} {mg : Str → Option Value} {base : Heap}
theorem kb_row_done_0_at_row_lets (T : Tx K mg) : KBinds K T.fd_row_done P_row_done ["at", "row", "lets"] (fun us ws => onlyK us (rv3 ws)) (fun vs zs => onlyK vs (rv3 zs)) := by
  obtain ⟨oc, od, kV, doc, pm, an, cdv, ct, osl, e, lk, hcd⟩ := T.F_row_done.ex
  refine ⟨fun s us ws _ hl => ?_, fun r rz => vals_only r (vals_rv3 rz)⟩
  rw [e]
  match us, ws, hl with
  | [], [_, _, _], _ => exact .of_eq rfl
theorem kb_open_places_0_row_lets (T : Tx K mg) : KBinds K T.fd_open_places P_open_places ["row", "lets"] (fun us ws => onlyK us (rv2 ws)) (fun vs zs => onlyK vs (rv2 zs)) := by
  obtain ⟨oc, od, kV, doc, pm, an, cdv, ct, osl, e, lk, hcd⟩ := T.F_open_places.ex
  refine ⟨fun s us ws _ hl => ?_, fun r rz => vals_only r (vals_rv2 rz)⟩
  rw [e]
  match us, ws, hl with
  | [], [_, _], _ => exact .of_eq rfl
theorem ok_rr (T : Tx K mg) : FnG P w K mg base CX0 8 T.a_l_row_right T.fd_l_row_right P_l_row_right (spRR T.a_Lets) := by
  have c_l_near := ok_near (P := P) (w := w) (base := base) T
  have c_l_caught := ok_caught (P := P) (w := w) (base := base) T
  have c_l_only := ok_only (P := P) (w := w) (base := base) T
  have c_open_places := ok_open (P := P) (w := w) (base := base) T
  have c_row_done := ok_rowdone (P := P) (w := w) (base := base) T
  refine fun_g T.F_l_row_right sc_l_row_right (fun vs H Q E h => ?_) (fun cdv A outer s H vs Q E hr hq h => ?_)
  · obtain ⟨t, p, a, ns, rs, st, rfl, _⟩ := h
    rfl
  · obtain ⟨t, p, a, ns, rs, st, rfl, hw, hl, told, ha, ok, l100, q⟩ := h
    refine ⟨_, (pss_cons (ps_asg (pe_tup (pa_cons (pe_callTy (k_list (K := K) rfl) (by rfl) T.m_list (by decide +kernel) (pa_cons (pv 2) pa_nil)) (pa_cons (pe_call c_l_near (hr.mono (by decide)) (by rfl) T.g_l_near T.F_l_near.kp T.b_l_near .nil pass0 (pa_cons (pv 0) (pa_cons (pv 2) pa_nil))) pa_nil))) (k_gtup (K := K) (n := 2) rfl rfl (pgs_cons (pg_name (i := 3) nd_l_row_right rfl (.inr rfl)) (pgs_cons (pg_name (i := 4) nd_l_row_right rfl (.inl rfl)) pgs_nil))))
      (pss_cons (ps_set (i := 5) nd_l_row_right rfl (.inr rfl) (pe_call c_open_places (hr.mono (by decide)) (by rfl) T.g_open_places T.F_open_places.kp T.b_open_places .nil passL (pa_cons (pv 1) (pa_cons (pv 3) pa_nil))))
      (pss_cons (ps_if (PW.pt (pw_or (pt_cmpR (k_ne (K := K) rfl hr.units) (pv 5) (pe_lc (own := [("_law_pair_here", 10)]) rfl nd_l_row_right (k_pil (K := K) rfl (pv 4)) (blkOk_by (N := N_l_row_right) (sc := (defScope s_l_row_right)) (by decide +kernel)) (fun _ _ _ _ _ => pg_name (i := 10) nd_l_row_right rfl (.inl rfl)) (fun _ _ _ _ _ => pts_nil) (fun _ _ _ _ _ => (pe_ix (k_ixt (K := K) rfl) (pv 10) pe_int (fun _ _ => rfl)))) (nomark _)) (pw_or1 (pt_cmpR (k_ne (K := K) rfl hr.units) (pv 3) (pv 2) (nomark _))))) (pss_one (ps_ret pe_bl)) pss_nil)
      (pss_cons (ps_expr (pe_bm PySem.F.plainAttrs_list PySem.F.slot_list_append PySem.F.type_list_append mt_append (pv 5) (pa_cons pe_non pa_nil)))
      (pss_cons (ps_for PassesOwn.never rfl (k_pil (K := K) rfl (pv 4)) (k_gtup (K := K) (n := 2) rfl rfl (pgs_cons (pg_name (i := 6) nd_l_row_right rfl (.inl rfl)) (pgs_cons (pg_name (i := 7) nd_l_row_right rfl (.inl rfl)) pgs_nil))) (pss_cons (ps_set (i := 8) nd_l_row_right rfl (.inl rfl) (pe_call c_row_done (hr.mono (by decide)) (by rfl) T.g_row_done T.F_row_done.kp T.b_row_done .nil passL (pa_cons (pv 1) (pa_cons (pv 3) (pa_cons (pv 6) pa_nil)))))
      (pss_cons (ps_if (PW.pt (pw_or (pt_cmpR (k_ne (K := K) rfl hr.units) (pv 8) (pv 7) (nomark _)) (pw_or (pt_cmpR (k_ne (K := K) rfl hr.units) (pe_callK0 c_row_done (hr.mono (by decide)) (by rfl) T.g_row_done T.F_row_done.kp (kb_row_done_0_at_row_lets T) passL (pk_cons (pv 6) (pk_cons (pe_callTy (k_list (K := K) rfl) (by rfl) T.m_list (by decide +kernel) (pa_cons (pv 8) pa_nil)) (pk_cons (pv 1) pk_nil)))) (pv 2) (nomark _)) (pw_or1 (pt_cmpR (k_ne (K := K) rfl hr.units) (pv 3) (pv 2) (nomark _)))))) (pss_one (ps_ret pe_bl)) pss_nil)
      (pss_cons (ps_expr (pe_bm PySem.F.plainAttrs_list PySem.F.slot_list_append PySem.F.type_list_append mt_append (pv 8) (pa_cons pe_non pa_nil)))
      (pss_cons (ps_if (pt_cmpR (k_ne (K := K) rfl hr.units) (pe_call c_row_done (hr.mono (by decide)) (by rfl) T.g_row_done T.F_row_done.kp T.b_row_done .nil passL (pa_cons (pv 1) (pa_cons (pv 3) (pa_cons (pv 6) pa_nil)))) (pv 7) (nomark _)) (pss_one (ps_ret pe_bl)) pss_nil)
      (pss_cons (ps_asg (pv 7) (k_allL (K := K) rfl (pv 3)))
      (pss_cons (ps_if (PW.pt (pw_or (pt_cmpR (k_ne (K := K) rfl hr.units) (pe_call c_row_done (hr.mono (by decide)) (by rfl) T.g_row_done T.F_row_done.kp T.b_row_done .nil passL (pa_cons (pv 1) (pa_cons (pv 3) (pa_cons (pv 6) pa_nil)))) (pv 2) (nomark _)) (pw_or1 (pt_cmpR (k_ne (K := K) rfl hr.units) (pv 3) (pv 7) (nomark _))))) (pss_one (ps_ret pe_bl)) pss_nil)
      (pss_one (ps_asg (pv 2) (k_allL (K := K) rfl (pv 3)))))))))))
      (pss_cons (ps_setLc (own := [("_law_at", 6)]) (i := 9) rfl nd_l_row_right rfl rfl (sw_true rfl rfl rfl (by decide +kernel)) (pi_range2 (by rfl) T.m_range (pa_cons (pe_un un_neg pe_int) (pa_cons (pe_op op_add (pe_callB (k_len (K := K) rfl) (by rfl) T.m_len (by decide +kernel) (pa_cons (pv 2) pa_nil)) pe_int) pa_nil))) (blkOk_by (N := N_l_row_right) (sc := (defScope s_l_row_right)) (by decide +kernel)) (fun _ _ _ _ _ => pg_name (i := 6) nd_l_row_right rfl (.inl rfl)) (fun _ _ _ _ _ => pts_one (pt_cmpR (k_notInS (K := K) rfl) (pv 6) (pv 5) rfl)) (fun _ _ _ _ _ => (pv 6)))
      (pss_cons (ps_if (pt_cmpR (k_ne (K := K) rfl hr.units) (pe_lc (own := [("_law_at", 6)]) rfl nd_l_row_right (k_pil (K := K) rfl (pv 9)) (blkOk_by (N := N_l_row_right) (sc := (defScope s_l_row_right)) (by decide +kernel)) (fun _ _ _ _ _ => pg_name (i := 6) nd_l_row_right rfl (.inl rfl)) (fun _ _ _ _ _ => pts_one (pt_cmpR (k_ne (K := K) rfl hr.units) (pe_callG c_l_caught (hr.mono (by decide)) hq (by rfl) T.g_l_caught T.F_l_caught.kp T.b_l_caught .nil pass0 (pa_cons pe_int (pa_cons (pv 1) (pa_cons (pv 3) (pa_cons (pv 6) pa_nil))))) (pe_callG c_l_only (hr.mono (by decide)) hq (by rfl) T.g_l_only T.F_l_only.kp T.b_l_only .nil pass0 (pa_cons pe_int (pa_cons (pv 6) pa_nil))) (nomark _))) (fun _ _ _ _ _ => (pv 6))) (pe_lst pa_nil) (nomark _)) (pss_one (ps_ret pe_bl)) pss_nil)
      (pss_cons (ps_if (PW.pt (pw_or (pt_cmpR (k_ne (K := K) rfl hr.units) (pe_callK0 c_open_places (hr.mono (by decide)) (by rfl) T.g_open_places T.F_open_places.kp (kb_open_places_0_row_lets T) passL (pk_cons (pv 3) (pk_cons (pv 1) pk_nil))) (pe_lc (own := [("_law_pair_here", 10)]) rfl nd_l_row_right (k_pil (K := K) rfl (pv 4)) (blkOk_by (N := N_l_row_right) (sc := (defScope s_l_row_right)) (by decide +kernel)) (fun _ _ _ _ _ => pg_name (i := 10) nd_l_row_right rfl (.inl rfl)) (fun _ _ _ _ _ => pts_nil) (fun _ _ _ _ _ => (pe_ix (k_ixt (K := K) rfl) (pv 10) pe_int (fun _ _ => rfl)))) (nomark _)) (pw_or1 (pt_cmpR (k_ne (K := K) rfl hr.units) (pv 3) (pv 2) (nomark _))))) (pss_one (ps_ret pe_bl)) pss_nil)
      (pss_cons (ps_asg (k_revL (K := K) rfl (pv 2)) (k_allL (K := K) rfl (pv 3)))
      (pss_one (ps_ret (pe_and (pe_cmpR (k_eq (K := K) rfl hr.units) (pe_call c_open_places (hr.mono (by decide)) (by rfl) T.g_open_places T.F_open_places.kp T.b_open_places .nil passL (pa_cons (pv 1) (pa_cons (pv 3) pa_nil))) (pe_lc (own := [("_law_pair_here", 10)]) rfl nd_l_row_right (k_pil (K := K) rfl (pe_call c_l_near (hr.mono (by decide)) (by rfl) T.g_l_near T.F_l_near.kp T.b_l_near .nil pass0 (pa_cons (pv 0) (pa_cons (k_revL (K := K) rfl (pv 2)) pa_nil)))) (blkOk_by (N := N_l_row_right) (sc := (defScope s_l_row_right)) (by decide +kernel)) (fun _ _ _ _ _ => pg_name (i := 10) nd_l_row_right rfl (.inl rfl)) (fun _ _ _ _ _ => pts_nil) (fun _ _ _ _ _ => (pe_ix (k_ixt (K := K) rfl) (pv 10) pe_int (fun _ _ => rfl)))) (nomark _)) (pe_one (pe_cmpR (k_eq (K := K) rfl hr.units) (pv 3) (k_revL (K := K) rfl (pv 2)) (nomark _))))))))))))))), ?_⟩
    have hn1 : ∀ x ∈ ns, 1 ≤ x := fun x hx => (told.pos x (List.mem_append.mpr (.inr hx))).1
    have hs1 : ∀ s, st = some s → 1 ≤ s := fun s hs => (told.st1 s hs).1
    have fst : ∀ qs : List Int, (nearI ns st qs (qs.length - 1)).map (fun e => V.int (e.1 : Nat)) = (openI ns st qs).map V.int := fun qs => by
      have z := near_fst ns st qs (qs.length - 1)
      have z2 := congrArg (List.map V.int) z
      rw [List.map_map] at z2
      exact z2
    refine q_tupL (el_list (ev_var rfl) (sq_of ha)) fun gv H1 ng e1 hg => ?_
    have ag : a ≠ gv := ne_of_none ha ng
    refine ⟨.ref t, rfl, .ref a, rfl, t, a, ns, rs, st, rfl, hw.mono e1, told, sq_of (e1 _ _ ha), ok.len, fun nr xs H2 nn e2 hnr near => ⟨sz_of (by show 2 ≤ 100000; decide), fun z nz => ⟨z, _, rfl, st_of upd_same, rfl, _, _, rfl, _, _, rfl, rfl, ?_⟩⟩⟩
    have ez : Ex H1 (upd H2 z (.tup [.ref gv, .ref nr])) := e2.trans (Ex.new nz)
    have n3 : (upd H2 z (.tup [.ref gv, .ref nr])) nr = some (.lst xs) := Ex.new nz _ _ hnr
    have near3 : NearAt H1 (upd H2 z (.tup [.ref gv, .ref nr])) xs (nearI ns st rs (rs.length - 1)) := near.mono (Ex.new nz)
    dsimp only
    generalize upd H2 z (.tup [.ref gv, .ref nr]) = H3 at ez n3 near3 ⊢
    have g3 := ez _ _ hg
    have e03 := e1.trans ez
    have el : (nearI ns st rs (rs.length - 1)).length ≤ 200 := by
      have := near_len ns st rs (rs.length - 1)
      omega
    have oil : (openI ns st rs).length ≤ 200 := by
      have := congrArg List.length (fst rs)
      rw [List.length_map, List.length_map] at this
      omega
    apply q_asgL (xs := (openI ns st rs).map V.int)
    · exact el_is' (el_open (ev_var rfl) (hl.mono e03) (ed_ints (ev_var rfl) (sq_of g3)) ok) (by rw [open_way])
    intro td H4 ntd e4 htd
    refine no_if (et_or2 (et_test (ev_neSame (a := openI ns st rs) (ed_ints (ev_var rfl) (sq_of htd)) (ed_newI (el_is' (el_firsts (nr_var rfl (e4 _ _ n3) (near3.mono e4)) (by omega) (by show 10 < 11; decide)) (fst rs))))) (et_test (ev_neSame (ed_ints (ev_var rfl) (sq_of (e4 _ _ g3))) (ed_ints (ev_var rfl) (sq_of ((e03.trans e4) _ _ ha)))))) fun H5 e5 => ?_
    refine q_app (l := td) (xs := (openI ns st rs).map V.int) (v := .non) (e5 _ _ htd) (ev_var rfl) ev_c (by rw [List.length_map]; omega) fun H6 e6 => ?_
    have e37 : Ex H3 (upd H6 td (.lst ((openI ns st rs).map V.int ++ [V.non]))) := ((e4.trans e5).trans e6).mut ntd
    have t7 : (upd H6 td (.lst ((openI ns st rs).map V.int ++ [V.non]))) td = some (.lst ((openI ns st rs).map V.int ++ [V.non])) := upd_same
    generalize upd H6 td (.lst ((openI ns st rs).map V.int ++ [V.non])) = H7 at e37 t7 ⊢
    have tg : td ≠ gv := by
      rintro rfl
      rw [ntd] at g3
      cases g3
    have rg : nr ≠ gv := by
      rintro rfl
      rw [nn] at hg
      cases hg
    have J : ∀ {Hx : Hp}, Ex (hid H7 gv) Hx → Ex H Hx ∧ Hx nr = some (.lst xs) ∧ NearAt H1 Hx xs (nearI ns st rs (rs.length - 1)) ∧ Hx td = some (.lst ((openI ns st rs).map V.int ++ [V.non])) := fun {Hx} ex => by
      have st0 : ∀ {b : Addr} {o : HO}, b ≠ gv → H7 b = some o → Hx b = some o := fun nb hb => ex _ _ (by rw [hid_ne nb]; exact hb)
      refine ⟨fun b o hb => st0 (ne_of_none hb ng) ((e03.trans e37) _ _ hb), st0 rg (e37 _ _ n3), ⟨near3.1, fun k v e hk he => ?_⟩, st0 tg t7⟩
      obtain ⟨tt, l, h1, h2, h3, h4, h5⟩ := near3.2 k v e hk he
      have tn : tt ≠ gv := fun c => by rw [c, hg] at h4; cases h4
      have ln : l ≠ gv := fun c => by rw [c, hg] at h5; cases h5
      exact ⟨tt, l, h1, st0 tn (e37 _ _ h2), st0 ln (e37 _ _ h3), h4, h5⟩
    apply q_forL (a := nr) (xs := xs) (ev_var rfl) (sq_of (e37 _ _ n3))
    rotate_left 4
    · exact fun k σ H' => (∃ y6 y7 y8 : Option V, σ = [some (.ref t), some (.ref p), some (.ref a), some (.ref gv), some (.ref nr), some (.ref td), y6, y7, y8, none, none]) ∧ Ex (hid H7 gv) H' ∧ H' gv = some (.lst (rs.map V.int))
    · intro H8 e8
      exact ⟨⟨none, none, none, rfl⟩, hid_ex.trans e8, e8 _ _ (e37 _ _ g3)⟩
    · rintro k σ H8 hk ⟨_, e8, _⟩
      exact sq_of (J e8).2.1
    · rintro k x σ H8 hk ⟨⟨y6, y7, y8, rfl⟩, e8, g8⟩
      obtain ⟨j0, jn, jnear, jt⟩ := J e8
      have lk := (List.getElem?_eq_some_iff.mp hk).1
      have le : k < (nearI ns st rs (rs.length - 1)).length := by rw [← near3.1]; exact lk
      have ge := List.getElem?_eq_getElem le
      obtain ⟨tt, l, rfl, s1, s2, s3, s4⟩ := jnear.2 k x _ hk ge
      obtain ⟨x1, y1, li, dx, eq⟩ := near_mem (List.mem_of_getElem? ge)
      generalize (nearI ns st rs (rs.length - 1))[k] = en at s1 s2 li dx eq
      obtain ⟨i, r2⟩ := en
      dsimp only at s1 s2 li dx eq
      subst eq
      have hi : i + 1 < rs.length := by omega
      obtain ⟨okx, back⟩ := done_back hn1 hs1 ok hi dx
      have hix : i + 1 < (put2 rs i x1 y1).length := by rw [put2_len hi]; exact hi
      have again : put2 (put2 rs i x1 y1) i (rs.getD i 0) (rs.getD (i + 1) 0) = rs := by rw [put2_put2 hi, put2_self hi]
      have pl := put2_len (x := x1) (y := y1) hi
      have lg : l ≠ gv := fun c => by rw [c, hg] at s4; cases s4
      refine ⟨tt, _, rfl, st_of s1, rfl, _, _, rfl, _, _, rfl, rfl, ?_⟩
      apply q_asgL (xs := (put2 rs i x1 y1).map V.int)
      · exact el_row (ev_var rfl) (hl.mono j0) (ed_ints (ev_var rfl) (sq_of g8)) (ev_var rfl) ok hi (by rw [done_way]; exact dx)
      intro o H9 no e9 ho
      have og : o ≠ gv := by
        rintro rfl
        rw [no] at g8
        cases g8
      have ol : o ≠ l := by
        rintro rfl
        rw [no] at s2
        cases s2
      have j9 := j0.trans e9
      refine no_if (et_is (et_or (et_test (ev_neSame (ed_ints (ev_var rfl) (sq_of ho)) (ed_ints (ev_var rfl) (sq_of (e9 _ _ s2))))) fun _ => et_or (et_test (ev_neSame (a := rs) (ed_newI (el_is' (el_rowK (ev_var rfl) (hl.mono j9) (ed_newI (el_list (ev_var rfl) (sq_of ho))) (ev_var rfl) okx hix (by rw [done_way]; exact back)) (by rw [again]))) (ed_ints (ev_var rfl) (sq_of (j9 _ _ ha))))) fun _ => et_test (ev_neSame (ed_ints (ev_var rfl) (sq_of (e9 _ _ g8))) (ed_ints (ev_var rfl) (sq_of (j9 _ _ ha))))) rfl) fun HA eA => ?_
      refine q_app (l := o) (xs := (put2 rs i x1 y1).map V.int) (v := .non) (eA _ _ ho) (ev_var rfl) ev_c (by rw [List.length_map, pl]; omega) fun HB eB => ?_
      have eC : Ex (hid H7 gv) (upd HB o (.lst ((put2 rs i x1 y1).map V.int ++ [V.non]))) := (((e8.trans e9).trans eA).trans eB).mut (free_of e8 no)
      have gC : (upd HB o (.lst ((put2 rs i x1 y1).map V.int ++ [V.non]))) gv = some (.lst (rs.map V.int)) := by
        rw [upd_ne (Ne.symm og)]
        exact eB _ _ (eA _ _ (e9 _ _ g8))
      have sC : (upd HB o (.lst ((put2 rs i x1 y1).map V.int ++ [V.non]))) l = some (.lst ((put2 rs i x1 y1).map V.int)) := by
        rw [upd_ne (Ne.symm ol)]
        exact eB _ _ (eA _ _ (e9 _ _ s2))
      generalize upd HB o (.lst ((put2 rs i x1 y1).map V.int ++ [V.non])) = HC at eC gC sC ⊢
      refine no_if (et_test (ev_neSame (ed_newI (el_row (ev_var rfl) (hl.mono (J eC).1) (ed_ints (ev_var rfl) (sq_of gC)) (ev_var rfl) ok hi (by rw [done_way]; exact dx))) (ed_ints (ev_var rfl) (sq_of sC)))) fun HD eD => ?_
      refine ⟨.ref l, rfl, .ref gv, rfl, gv, l, _, _, rfl, rfl, eD _ _ gC, eD _ _ sC, Ne.symm lg, sz_of (by rw [List.length_map, List.length_map, pl]; omega), ?_⟩
      have eE : Ex (hid H7 gv) (upd HD gv (.lst ((put2 rs i x1 y1).map V.int))) := (eC.trans eD).mut hid_same
      have gE : (upd HD gv (.lst ((put2 rs i x1 y1).map V.int))) gv = some (.lst ((put2 rs i x1 y1).map V.int)) := upd_same
      have sE : (upd HD gv (.lst ((put2 rs i x1 y1).map V.int))) l = some (.lst ((put2 rs i x1 y1).map V.int)) := by
        rw [upd_ne lg]
        exact eD _ _ sC
      generalize upd HD gv (.lst ((put2 rs i x1 y1).map V.int)) = HE at eE gE sE ⊢
      refine no_if (et_or2 (et_test (ev_neSame (a := rs) (ed_newI (el_is' (el_row (ev_var rfl) (hl.mono (J eE).1) (ed_ints (ev_var rfl) (sq_of gE)) (ev_var rfl) okx hix (by rw [done_way]; exact back)) (by rw [again]))) (ed_ints (ev_var rfl) (sq_of ((J eE).1 _ _ ha))))) (et_test (ev_neSame (ed_ints (ev_var rfl) (sq_of gE)) (ed_ints (ev_var rfl) (sq_of sE))))) fun HF eF => ?_
      exact ⟨.ref a, rfl, .ref gv, rfl, gv, a, _, _, rfl, rfl, eF _ _ gE, eF _ _ ((J eE).1 _ _ ha), Ne.symm ag, sz_of (by rw [List.length_map, List.length_map, pl]; omega), ⟨⟨_, _, _, rfl⟩, (eE.trans eF).mut hid_same, upd_same⟩⟩
    rintro σ H8 ⟨⟨y6, y7, y8, rfl⟩, e8, g8⟩
    obtain ⟨j0, jn, jnear, jt⟩ := J e8
    have ha8 := j0 _ _ ha
    have flat : ((openI ns st rs).map V.int ++ [V.non]).all flatV = true := by
      rw [List.all_append, List.all_map]
      exact Bool.and_eq_true_iff.mpr ⟨List.all_eq_true.mpr fun _ _ => rfl, rfl⟩
    apply q_asgL (xs := given (((rs.length : Int) + 1) - (-1)).toNat (fun i => !inV (.int (-1 + (i : Int))) ((openI ns st rs).map V.int ++ [V.non])) fun i => .int (-1 + (i : Int)))
    · refine el_lcR2 (lo := -1) (n := (rs.length : Int) + 1) _ _ (ea_cons (ev_neg ev_c) (ea_cons (ev_op (ev_is (ev_len (ev_var rfl) (sq_of ha8)) (by rw [List.length_map])) ev_c rv_I0) ea_nil)) ⟨by omega, by omega, by omega⟩ (fun x => rfl) ?_ ?_
      · intro i H9 e9 hi
        exact et_test (ev_op (ev_var rfl) (ev_var rfl) (rv_niL (sq_of (e9 _ _ jt)) rfl flat))
      · intro i H9 e9 hi _
        exact ev_var rfl
    intro sh H9 nsh e9 hsh
    have j9 := j0.trans e9
    refine no_if (et_test (ev_neSame (a := []) (ed_newI (ns := []) (el_is' (el_lcL (a := sh) (fun _ => false) (fun _ => .non) (ev_var rfl) (sq_of hsh) ?_ (fun x => rfl) ?_ (fun k x H1 _ _ hf => by cases hf)) (given_none _ _))) (ed_newI (ns := []) (el_lst ea_nil (by decide))))) fun HA eA => ?_
    · unfold given
      rw [List.length_map]
      have := List.length_filter_le (fun i : Nat => !inV (.int (-1 + (i : Int))) ((openI ns st rs).map V.int ++ [V.non])) (List.range (((rs.length : Int) + 1) - (-1)).toNat)
      rw [List.length_range] at this
      omega
    · intro k x HA eA hk
      unfold given at hk
      obtain ⟨i, hm, rfl⟩ := List.mem_map.mp (List.mem_of_getElem? hk)
      obtain ⟨hr, hf⟩ := List.mem_filter.mp hm
      have hr2 := List.mem_range.mp hr
      rw [inV_end] at hf
      have no : (-1 + (i : Int)) ∉ openI ns st rs := fun h => by
        rw [decide_eq_true h] at hf
        cases hf
      have oc : Okc (.int (-1 + (i : Int))) := by
        rcases Nat.eq_zero_or_pos i with rfl | hp
        · exact okc_m1
        · have e : (-1 + (i : Int)) = ((i - 1 : Nat) : Int) := by omega
          rw [e]
          exact okc_int (by omega)
      have why : placeNo (lenD (.list (rs.map .int))) (.int (-1 + (i : Int))) = true ∨ ∃ (qs : List Int) (j : Nat), PyData.list (rs.map .int) = .list (qs.map .int) ∧ PyData.int (-1 + (i : Int)) = .int j ∧ j + 1 < qs.length ∧ doneI (formN (ns.reverse ++ ns) st) (formS (ns.reverse ++ ns) st) qs j = none := by
        have ll : lenD (.list (rs.map .int)) = rs.length := List.length_map _
        rw [ll]
        rcases Nat.eq_zero_or_pos i with rfl | hp
        · exact .inl rfl
        · have e : (-1 + (i : Int)) = ((i - 1 : Nat) : Int) := by omega
          rw [e] at no ⊢
          rcases Nat.lt_or_ge (i - 1 + 1) rs.length with lt | ge
          · refine .inr ⟨rs, i - 1, rfl, rfl, lt, ?_⟩
            rw [done_way]
            cases hd : doneI ns st rs (i - 1) with
            | none => rfl
            | some q =>
              exfalso
              apply no
              unfold openI
              exact List.mem_map.mpr ⟨i - 1, List.mem_filter.mpr ⟨List.mem_range.mpr (by omega), by rw [hd]; rfl⟩, rfl⟩
          · left
            show (!decide (0 ≤ ((i - 1 : Nat) : Int)) || decide (((i - 1 : Nat) : Int) > (rs.length : Int) - 2)) = true
            rw [decide_eq_true (show ((i - 1 : Nat) : Int) > (rs.length : Int) - 2 by omega), Bool.or_true]
      have jA := j9.trans eA
      exact et_test (ev_neRes (k := 2) oc.st (ed_caughtD ev_c (ev_var rfl) (ed_ints (ev_var rfl) (sq_of ((e9.trans eA) _ _ g8))) (ev_var rfl) fun v HB eB hv Q7 q7 => ⟨1, .ref p, v, .int (-1 + (i : Int)), .int (-1 + (i : Int)), .int (-1 + (i : Int)), 2, rfl, .int _, oc, q7, .inr rfl, .inr (.inr ⟨p, _, _, _, .int (-1 + (i : Int)), rfl, rfl, (hl.mono jA).mono eB, hv, .int _, ok.is, why, rfl, rfl⟩)⟩)
        (ed_only ev_c (ev_var rfl) (.int _) oc))
    have jA := j9.trans eA
    have gA := (e9.trans eA) _ _ g8
    refine no_if (et_or2 (et_test (ev_neSame (a := openI ns st rs) (ed_newI (el_is' (el_openK (ev_var rfl) (hl.mono jA) (ed_ints (ev_var rfl) (sq_of gA)) ok) (by rw [open_way]))) (ed_newI (el_is' (el_firsts (nr_var rfl ((e9.trans eA) _ _ jn) (jnear.mono (e9.trans eA))) (by omega) (by show 10 < 11; decide)) (fst rs))))) (et_test (ev_neSame (ed_ints (ev_var rfl) (sq_of gA)) (ed_ints (ev_var rfl) (sq_of (jA _ _ ha)))))) fun HB eB => ?_
    have jB := jA.trans eB
    have zr : EvL (tRevL K (tVar 2)) [some (.ref t), some (.ref p), some (.ref a), some (.ref gv), some (.ref nr), some (.ref td), y6, y7, y8, some (.ref sh), none] HB (rs.map V.int).reverse := el_rev (ev_var rfl) (sq_of (jB _ _ ha))
    refine q_setAll zr fun b HC nb eC hb => ?_
    have bg : gv ≠ b := by
      rintro rfl
      rw [eB _ _ gA] at nb
      cases nb
    refine ⟨.ref gv, rfl, gv, b, _, _, rfl, rfl, eC _ _ (eB _ _ gA), hb, bg, sz_of (by rw [List.length_reverse, List.length_map]; omega), ?_⟩
    have eD : Ex H (upd HC gv (.lst (rs.map V.int).reverse)) := (jB.trans eC).mut ng
    have gD : (upd HC gv (.lst (rs.map V.int).reverse)) gv = some (.lst (rs.reverse.map V.int)) := by rw [upd_same, List.map_reverse]
    generalize upd HC gv (.lst (rs.map V.int).reverse) = HD at eD gD ⊢
    have okr : RowOk rs.reverse := ⟨fun x hx => ok.nn x (List.mem_reverse.mp hx), by rw [List.length_reverse]; exact ok.len⟩
    apply s_ret (v := .bl true)
    · refine ev_is (ev_andV (ev_eqSame (a := openI ns st rs.reverse) (ed_newI (el_is' (el_open (ev_var rfl) (hl.mono eD) (ed_ints (ev_var rfl) (sq_of gD)) okr) (by rw [open_way]))) (ed_newI (el_is' (el_firsts (es := nearI ns st rs.reverse (rs.reverse.length - 1)) (fun H1 e Q1 q1 => ⟨.ref t, rfl, (el_rev (ev_var rfl) (sq_of ((eD.trans e) _ _ ha))) H1 (Ex.refl _) _ fun b2 H2 nb2 e2 hb2 => ⟨t, b2, ns, rs.reverse, st, rfl, hw.mono ((eD.trans e).trans e2), told, sq_of (by rw [List.map_reverse]; exact hb2), okr.len, fun p3 xs3 H3 np3 e3 hp3 nr3 => q1 p3 xs3 H2 H3 (e2.trans e3) hp3 nr3⟩⟩) (by have z1 := near_len ns st rs.reverse (rs.reverse.length - 1); have z2 := okr.len; omega) (by show 10 < 11; decide)) (fst rs.reverse)))) fun _ =>
        ev_eqSame (a := rs.reverse) (ed_ints (ev_var rfl) (sq_of gD)) (ed_newI (el_is' (el_rev (ev_var rfl) (sq_of (eD _ _ ha))) (by rw [List.map_reverse])))) rfl
    · exact fun HE eE => q HE (eD.trans eE)
end
end K05




set_option Elab.async false
set_option linter.all false
set_option maxRecDepth 100000
set_option maxHeartbeats 1000000
namespace K05
open PySem PySem.Spec PyProof.Rows L2 Evl GS
local macro_rules | `(tactic| walk_at "bits") => `(tactic| first | (refine bits64 ?_; omega) | (apply bitsM; (focus walk_at "bits"); (focus walk_at "bits")))
local macro_rules | `(tactic| walk_at "side") => `(tactic| first
  | (apply CMulX.of; (focus walk_at "bits"); (focus walk_at "bits"); decide)
  | (dsimp only; omega) | assumption | decide)
local macro_rules | `(tactic| walk_at "rv") => `(tactic| first | exact rv_I0 | (apply rv_I; walk_at "side"))
local macro_rules | `(tactic| walk_at "ev") => `(tactic| first
  | exact ev_c
  | exact ev_var rfl
  | (apply ev_op; (focus walk_at "ev"); (focus walk_at "ev"); (focus walk_at "rv"))
  | (apply ev_int1; walk_at "ev")
  | (apply ev_max2; (focus walk_at "ev"); (focus walk_at "ev"))
  | (apply ev_bits; walk_at "ev"))

local macro_rules | `(tactic| walk_at "dat") => `(tactic| repeat (first
  | exact ed_int ev_c
  | exact ed_bl ev_c
  | exact ed_non ev_c
  | exact ed_str ev_c
  | exact ed_neg
  | exact ed_emp
  | exact eda_nil
  | (apply eda_cons)
  | (refine ed_lst ?_ (by decide))
  | (refine ed_tup ?_ (by decide))))
theorem Okc.of {f : PyData → Bool} {d : PyData} (h : OkBad f d) : Okc d := ⟨h.nd, h.sh, h.dp, h.ln, h.st⟩
def badA : List PyData := [.none, .int 1, .list [.int 1], .tuple [.int 1], .str "1", .dict [], .bool true]
def badB1 : List PyData := [.list [.none, .int 0], .list [.int (-1), .int 0], .list [.bool true, .int 0], .list [.str "0", .int 0], .list [.int 0, .int (-1), .int 0], .list [.list [.int 0], .int 0], .none, .int 0, .bool true, .str "0", .tuple [.int 0], .list [.int (-1)],
  .list [.int 0, .none], .list [.bool true], .list [.list [.int 0]], .dict []]
def z201b : PyData := .list ((List.replicate 201 0).map .int)
def badB : List PyData := badB1 ++ [z201b]
def badC : List PyData := [.none, .int (-1), .bool true, .bool false, .str "0", .list [.int 0], .int 2, .int (10 ^ 29)]
theorem okA : badA.all (okBad fun _ => false) = true := by decide +kernel
theorem okB1 : badB1.all (okBad isRow) = true := by decide +kernel
theorem okC : badC.all (okBad fun e => !placeNo 3 e) = true := by decide +kernel
theorem ok_z201b : OkBad isRow z201b := by
  have z : okT (2 + (List.replicate 201 (0 : Int)).length * 5) (PyData.shown (.list ((List.replicate 201 (0 : Int)).map .int))) := okT.ints fun n hn => by
    rw [(List.mem_replicate.mp hn).2]
    exact okT.small 0 (by decide +kernel)
  exact ⟨by decide +kernel, .inl (by decide +kernel), by decide +kernel, by decide +kernel, sz_of (Nat.le_trans z.1 (by decide)), z.2⟩
theorem okB {d : PyData} (h : d ∈ badB) : OkBad isRow d := by
  rcases List.mem_append.mp h with h | h
  · exact .of (List.all_eq_true.mp okB1 d h)
  · rw [List.mem_singleton.mp h]
    exact ok_z201b
theorem el_rep {σ : L2.St} {H : Hp} {ta tb : TE} {xs : List V} {n : Int} (ha : EvL ta σ H xs) (hb : Ev tb σ H (.int n)) (h1 : -(2 ^ 63) ≤ n) (h2 : n < 2 ^ 63) (hz : xs.length * n.toNat ≤ 100000) : EvL (tOp rRep ta tb) σ H (List.replicate n.toNat xs).flatten := fun H1 e Q q =>
  ha H1 e _ fun p H2 np e2 hp => hb H2 (e.trans e2) _ fun H3 e3 => ⟨p, n, xs, rfl, rfl, e3 _ _ hp, h1, h2, sz_of hz, fun r nr => q r _ (free_of (e2.trans e3) nr) ((e2.trans e3).trans (Ex.new nr)) upd_same⟩
section
variable {K : PySem.W.Frag} {σ : L2.St} {H : Hp} {E E2 : XK} {ta tb tc td : TE} {L : Addr}
theorem ed_row1 {d e : PyData} {u : V} {p : Addr} {ns : List Int} {st : Option Int} (hp : Ev tb σ H (.ref p)) (hl : LetsAt L H p ns st) (hc : EvD K tc σ H d) (hu : Ev td σ H u) (hr : Rp K H u e) (is : isRow d = true) (no : placeNo (lenD d) e = true) (oc : Okc e) :
    EvD K (tCall (spCaught K L) [] E (tCons (tC (.int 1)) (tCons tb (tCons tc (tCons td tNil))))) σ H (res 2 e.shown) :=
  ed_caughtD ev_c hp hc hu fun v H1 e1 hv Q q => ⟨1, .ref p, v, u, u, e, 2, rfl, hr.to e1, oc, q, .inr rfl, .inr (.inr ⟨p, ns, st, d, e, rfl, rfl, hl.mono e1, hv, hr.to e1, is, .inl no, rfl, rfl⟩)⟩
theorem no1 {d e : PyData} {u : V} {p : Addr} {ns : List Int} {st : Option Int} (hp : Ev tb σ H (.ref p)) (hl : LetsAt L H p ns st) (hc : EvD K tc σ H d) (hu : Ev td σ H u) (hr : Rp K H u e) (is : isRow d = true) (no : placeNo (lenD d) e = true) (oc : Okc e) :
    Ev (tOp (rNeD K) (tCall (spCaught K L) [] E (tCons (tC (.int 1)) (tCons tb (tCons tc (tCons td tNil))))) (tCall (spOnly K) [] E2 (tCons (tC (.int 2)) (tCons td tNil)))) σ H (.bl false) := ev_neRes (k := 2) oc.st (ed_row1 hp hl hc hu hr is no oc) (ed_only ev_c hu hr oc)
theorem yes1 {d e : PyData} {u : V} {p : Addr} {ns : List Int} {st : Option Int} (hp : Ev tb σ H (.ref p)) (hl : LetsAt L H p ns st) (hc : EvD K tc σ H d) (hu : Ev td σ H u) (hr : Rp K H u e) (is : isRow d = true) (no : placeNo (lenD d) e = true) (oc : Okc e) :
    Ev (tOp (rEqD K) (tCall (spCaught K L) [] E (tCons (tC (.int 1)) (tCons tb (tCons tc (tCons td tNil))))) (tCall (spOnly K) [] E2 (tCons (tC (.int 2)) (tCons td tNil)))) σ H (.bl true) :=
  ev_is (ev_eqD (ed_row1 hp hl hc hu hr is no oc) (ed_only ev_c hu hr oc) rfl rfl (res_shape 2 oc.st) (res_shape 2 oc.st)) (by rw [res_eqv])
end
def spRef (L : Addr) : Sp := fun vs H Q _ => ∃ p ns st, vs = [.ref p] ∧ LetsAt L H p ns st ∧ RetV (.bl true) H Q
section
variable {P : Program} {w : World} {K : PySem.W.Frag} {mg : Str → Option Value} {base : Heap}
theorem ok_refused (T : Tx K mg) : FnG P w K mg base CX0 8 T.a_l_refused T.fd_l_refused P_l_refused (spRef T.a_Lets) := by
  have c_l_caught := ok_caught (P := P) (w := w) (base := base) T
  have c_l_only := ok_only (P := P) (w := w) (base := base) T
  have c_open_places := ok_open (P := P) (w := w) (base := base) T
  refine fun_g T.F_l_refused sc_l_refused (fun vs H Q E h => ?_) (fun cdv A outer s H vs Q E hr hq h => ?_)
  · obtain ⟨p, ns, st, rfl, _⟩ := h
    rfl
  · obtain ⟨p, ns, st, rfl, hl, q⟩ := h
    refine ⟨_, (pss_cons (ps_for PassesOwn.never rfl (k_pil (K := K) rfl (pe_lst (pa_cons pe_non (pa_cons pe_int (pa_cons (pe_lst (pa_cons pe_int pa_nil)) (pa_cons (pe_tup (pa_cons pe_int pa_nil)) (pa_cons pe_str (pa_cons pe_dnewK (pa_cons pe_bl pa_nil))))))))) (pg_name (i := 1) nd_l_refused rfl (.inr rfl)) (pss_cons (ps_if (pt_cmpR (k_ne (K := K) rfl hr.units) (pe_lc (own := [("_law_which", 2)]) rfl nd_l_refused (pi_range1 (by rfl) T.m_range (pa_cons pe_int pa_nil)) (blkOk_by (N := N_l_refused) (sc := (defScope s_l_refused)) (by decide +kernel)) (fun _ _ _ _ _ => pg_name (i := 2) nd_l_refused rfl (.inl rfl)) (fun _ _ _ _ _ => pts_one (pt_cmpR (k_ne (K := K) rfl hr.units) (pe_callG c_l_caught (hr.mono (by decide)) hq (by rfl) T.g_l_caught T.F_l_caught.kp T.b_l_caught .nil pass0 (pa_cons (pv 2) (pa_cons (pv 1) (pa_cons pe_non (pa_cons pe_non pa_nil))))) (pe_callG c_l_only (hr.mono (by decide)) hq (by rfl) T.g_l_only T.F_l_only.kp T.b_l_only .nil pass0 (pa_cons pe_int (pa_cons (pv 1) pa_nil))) (nomark _))) (fun _ _ _ _ _ => (pv 2))) (pe_lst pa_nil) (nomark _)) (pss_one (ps_ret pe_bl)) pss_nil)
      (pss_one (ps_if (pt_cmpR (k_ne (K := K) rfl hr.units) (pe_callG c_l_caught (hr.mono (by decide)) hq (by rfl) T.g_l_caught T.F_l_caught.kp T.b_l_caught .nil pass0 (pa_cons pe_int (pa_cons (pv 1) (pa_cons (pe_lst pa_nil) (pa_cons pe_non pa_nil))))) (pe_callG c_l_only (hr.mono (by decide)) hq (by rfl) T.g_l_only T.F_l_only.kp T.b_l_only .nil pass0 (pa_cons pe_int (pa_cons (pv 1) pa_nil))) (nomark _)) (pss_one (ps_ret pe_bl)) pss_nil))))
      (pss_cons (ps_for PassesOwn.never rfl (k_pil (K := K) rfl (pe_lst (pa_cons (pe_lst (pa_cons pe_non (pa_cons pe_int pa_nil))) (pa_cons (pe_lst (pa_cons (pe_un un_neg pe_int) (pa_cons pe_int pa_nil))) (pa_cons (pe_lst (pa_cons pe_bl (pa_cons pe_int pa_nil))) (pa_cons (pe_lst (pa_cons pe_str (pa_cons pe_int pa_nil))) (pa_cons (pe_lst (pa_cons pe_int (pa_cons (pe_un un_neg pe_int) (pa_cons pe_int pa_nil)))) (pa_cons (pe_lst (pa_cons (pe_lst (pa_cons pe_int pa_nil)) (pa_cons pe_int pa_nil))) (pa_cons pe_non (pa_cons pe_int (pa_cons pe_bl (pa_cons pe_str (pa_cons (pe_tup (pa_cons pe_int pa_nil)) (pa_cons (pe_lst (pa_cons (pe_un un_neg pe_int) pa_nil)) (pa_cons (pe_lst (pa_cons pe_int (pa_cons pe_non pa_nil))) (pa_cons (pe_lst (pa_cons pe_bl pa_nil)) (pa_cons (pe_lst (pa_cons (pe_lst (pa_cons pe_int pa_nil)) pa_nil)) (pa_cons pe_dnewK (pa_cons (pe_op op_rep (pe_lst (pa_cons pe_int pa_nil)) pe_int) pa_nil))))))))))))))))))) (pg_name (i := 1) nd_l_refused rfl (.inr rfl)) (pss_one (ps_if (pt_cmpR (k_ne (K := K) rfl hr.units) (pe_lc (own := [("_law_which", 2)]) rfl nd_l_refused (pi_range1 (by rfl) T.m_range (pa_cons pe_int pa_nil)) (blkOk_by (N := N_l_refused) (sc := (defScope s_l_refused)) (by decide +kernel)) (fun _ _ _ _ _ => pg_name (i := 2) nd_l_refused rfl (.inl rfl)) (fun _ _ _ _ _ => pts_one (pt_cmpR (k_ne (K := K) rfl hr.units) (pe_callG c_l_caught (hr.mono (by decide)) hq (by rfl) T.g_l_caught T.F_l_caught.kp T.b_l_caught .nil pass0 (pa_cons (pv 2) (pa_cons (pv 0) (pa_cons (pv 1) (pa_cons pe_non pa_nil))))) (pe_callG c_l_only (hr.mono (by decide)) hq (by rfl) T.g_l_only T.F_l_only.kp T.b_l_only .nil pass0 (pa_cons pe_int (pa_cons (pv 1) pa_nil))) (nomark _))) (fun _ _ _ _ _ => (pv 2))) (pe_lst pa_nil) (nomark _)) (pss_one (ps_ret pe_bl)) pss_nil)))
      (pss_cons (ps_for PassesOwn.never rfl (k_pil (K := K) rfl (pe_lst (pa_cons pe_non (pa_cons (pe_un un_neg pe_int) (pa_cons pe_bl (pa_cons pe_bl (pa_cons pe_str (pa_cons (pe_lst (pa_cons pe_int pa_nil)) (pa_cons pe_int (pa_cons (pe_op op_powX pe_int pe_int) pa_nil)))))))))) (pg_name (i := 1) nd_l_refused rfl (.inr rfl)) (pss_one (ps_if (pt_cmpR (k_ne (K := K) rfl hr.units) (pe_callG c_l_caught (hr.mono (by decide)) hq (by rfl) T.g_l_caught T.F_l_caught.kp T.b_l_caught .nil pass0 (pa_cons pe_int (pa_cons (pv 0) (pa_cons (pe_lst (pa_cons pe_int (pa_cons pe_int (pa_cons pe_int pa_nil)))) (pa_cons (pv 1) pa_nil))))) (pe_callG c_l_only (hr.mono (by decide)) hq (by rfl) T.g_l_only T.F_l_only.kp T.b_l_only .nil pass0 (pa_cons pe_int (pa_cons (pv 1) pa_nil))) (nomark _)) (pss_one (ps_ret pe_bl)) pss_nil)))
      (pss_one (ps_ret (pe_and (pe_cmpR (k_eq (K := K) rfl hr.units) (pe_callG c_l_caught (hr.mono (by decide)) hq (by rfl) T.g_l_caught T.F_l_caught.kp T.b_l_caught .nil pass0 (pa_cons pe_int (pa_cons (pv 0) (pa_cons (pe_lst pa_nil) (pa_cons pe_int pa_nil))))) (pe_callG c_l_only (hr.mono (by decide)) hq (by rfl) T.g_l_only T.F_l_only.kp T.b_l_only .nil pass0 (pa_cons pe_int (pa_cons pe_int pa_nil))) (nomark _)) (pe_and (pe_cmpR (k_eq (K := K) rfl hr.units) (pe_call c_open_places (hr.mono (by decide)) (by rfl) T.g_open_places T.F_open_places.kp T.b_open_places .nil passL (pa_cons (pv 0) (pa_cons (pe_lst pa_nil) pa_nil))) (pe_lst pa_nil) (nomark _)) (pe_one (pe_cmpR (k_eq (K := K) rfl hr.units) (pe_call c_open_places (hr.mono (by decide)) (by rfl) T.g_open_places T.F_open_places.kp T.b_open_places .nil passL (pa_cons (pv 0) (pa_cons (pe_lst (pa_cons pe_int pa_nil)) pa_nil))) (pe_lst pa_nil) (nomark _)))))))))), ?_⟩
    have no2 : ∀ {te : TE} {σ : L2.St} {Hx : Hp}, EvL te σ Hx [] → Ev (tOp (rNeD K) te (tLst tNil)) σ Hx (.bl false) := fun h => ev_neSame (a := []) (ed_newI (ns := []) h) (ed_newI (ns := []) (el_lst ea_nil (by decide)))
    -- no set
    refine q_forD (K := K) (ds := badA) (eld_lst ?_ (by decide)) none rfl ?_ ?_
    · unfold badA
      focus walk_at "dat"
    · intro N H1 x d hN e1 hm hd
      have oc := Okc.of (OkBad.of (List.all_eq_true.mp okA d hm))
      refine no_if (et_test (no2 (el_is' (el_lcRn (n := 2) (fun _ => false) (fun _ => .non) (ea_cons ev_c ea_nil) ⟨by omega, by omega⟩ (fun x => rfl) (fun i H2 e2 hi => et_test (ev_neRes (k := 0) oc.st (ed_caughtD (ev_var rfl) (ev_var rfl) (ed_non ev_c) ev_c fun v H3 e3 hv Q q => ⟨i, x, v, .non, x, d, 0, rfl, hd.to (e2.trans e3), oc, q, by omega, .inl ⟨d, hd.to (e2.trans e3), rfl, rfl⟩⟩) (ed_only ev_c (ev_var rfl) (hd.to e2) oc))) (fun i H2 e2 hi hf => by cases hf)) (given_none _ _)))) fun H2 e2 => ?_
      refine s_when (b := false) ?_ (fun z => by cases z) (fun _ H3 e3 => hN H3 (e2.trans e3))
      exact et_test (ev_neRes (k := 0) oc.st (ed_caughtD ev_c (ev_var rfl) (ed_newI (ns := []) (el_lst ea_nil (by decide))) ev_c fun v H3 e3 hv Q q => ⟨0, x, v, .non, x, d, 0, rfl, hd.to (e2.trans e3), oc, q, .inl rfl, .inl ⟨d, hd.to (e2.trans e3), rfl, rfl⟩⟩) (ed_only ev_c (ev_var rfl) (hd.to e2) oc))
    intro y1 H1 e1
    -- no row
    refine q_forD (K := K) (ds := badB) (eld_lst ?_ (by decide)) y1 (by rfl) ?_ ?_
    · show EvDA K _ _ _ (badB1 ++ [z201b])
      unfold badB1
      show EvDA K _ _ _ [.list [.none, .int 0], .list [.int (-1), .int 0], .list [.bool true, .int 0], .list [.str "0", .int 0], .list [.int 0, .int (-1), .int 0], .list [.list [.int 0], .int 0], .none, .int 0, .bool true, .str "0", .tuple [.int 0], .list [.int (-1)],
        .list [.int 0, .none], .list [.bool true], .list [.list [.int 0]], .dict [], z201b]
      iterate 16 (apply eda_cons; (focus walk_at "dat"))
      apply eda_cons
      · exact ed_newI (el_is' (el_rep (n := 201) (el_lst (vs := [.int 0]) (ea_cons ev_c ea_nil) (by decide)) ev_c (by decide) (by decide) (by decide)) (by decide +kernel))
      exact eda_nil
    · intro N H2 x d hN e2 hm hd
      have ob := okB hm
      have oc := Okc.of ob
      refine s_when (b := false) ?_ (fun z => by cases z) (fun _ => hN)
      exact et_test (no2 (el_is' (el_lcRn (n := 2) (fun _ => false) (fun _ => .non) (ea_cons ev_c ea_nil) ⟨by omega, by omega⟩ (fun x => rfl) (fun i H3 e3 hi => et_test (ev_neRes (k := 1) oc.st (ed_caughtD (ev_var rfl) (ev_var rfl) (ed_var rfl (hd.to e3)) ev_c fun v H4 e4 hv Q q => ⟨i, .ref p, v, .non, v, d, 1, rfl, hv, oc, q, by omega, .inr (.inl ⟨p, ns, st, d, .none, rfl, hl.mono (((e1.trans e2).trans e3).trans e4), hv, .non, ob.no, rfl, rfl⟩)⟩) (ed_only ev_c (ev_var rfl) (hd.to e3) oc))) (fun i H2 e2 hi hf => by cases hf)) (given_none _ _)))
    intro y2 H2 e2
    -- no place
    have big : ∀ {σ : L2.St} {Hx : Hp}, EvD K (tOp (rI CPowX fun i j => V.int (i ^ j.toNat)) (tC (V.int 10)) (tC (V.int 29))) σ Hx (.int (10 ^ 29)) := ed_int (ev_is (ev_op ev_c ev_c (rv_I (i := 10) (j := 29) ⟨by decide, by decide⟩)) rfl)
    refine q_forD (K := K) (ds := badC) (eld_lst ?_ (by decide)) y2 (by rfl) ?_ ?_
    · unfold badC
      iterate 7 (apply eda_cons; (focus walk_at "dat"))
      exact eda_cons big eda_nil
    · intro N H3 x d hN e3 hm hd
      have ob := OkBad.of (List.all_eq_true.mp okC d hm)
      have oc := Okc.of ob
      have no : placeNo 3 d = true := not_false' ob.no
      have is : isRow (.list ([7, 7, 7].map .int)) = true := by decide +kernel
      refine s_when (b := false) ?_ (fun z => by cases z) (fun _ => hN)
      exact et_test (no1 (ev_var rfl) (hl.mono ((e1.trans e2).trans e3)) (ed_newI (ns := [7, 7, 7]) (el_lst (ea_cons ev_c (ea_cons ev_c (ea_cons ev_c ea_nil))) (by decide))) (ev_var rfl) hd is no oc)
    intro y3 H3 e3
    have e03 := (e1.trans e2).trans e3
    have oc0 := okc_int (i := 0) (by decide)
    have is0 : isRow (.list (([] : List Int).map .int)) = true := by decide +kernel
    have r0 : RowOk [] := ⟨(fun x hx => by cases hx), by decide⟩
    have r5 : RowOk [5] := ⟨(fun x hx => by rw [List.mem_singleton.mp hx]; decide), by decide⟩
    apply s_ret (v := .bl true)
    · refine ev_and3 ?_ ?_ ?_
      · exact yes1 (ev_var rfl) (hl.mono e03) (ed_newI (ns := []) (el_lst ea_nil (by decide))) ev_c (.int 0) is0 (by decide +kernel) oc0
      · exact ev_eqSame (a := []) (ed_newI (ns := []) (el_is' (el_open (rs := []) (ev_var rfl) (hl.mono e03) (ed_newI (ns := []) (el_lst ea_nil (by decide))) r0) rfl)) (ed_newI (ns := []) (el_lst ea_nil (by decide)))
      · exact ev_eqSame (a := []) (ed_newI (ns := []) (el_is' (el_open (rs := [5]) (ev_var rfl) (hl.mono e03) (ed_newI (ns := [5]) (el_lst (ea_cons ev_c ea_nil) (by decide))) r5) rfl)) (ed_newI (ns := []) (el_lst ea_nil (by decide)))
    · exact fun H4 e4 => q H4 (e03.trans e4)
end
end K05




set_option Elab.async false
set_option linter.all false
set_option maxRecDepth 100000
set_option maxHeartbeats 1000000
namespace K05
open PySem PySem.Spec PyProof.Rows L2 Evl GS
local macro_rules | `(tactic| walk_at "bits") => `(tactic| first | (refine bits64 ?_; omega) | (apply bitsM; (focus walk_at "bits"); (focus walk_at "bits")))
local macro_rules | `(tactic| walk_at "side") => `(tactic| first
  | (apply CMulX.of; (focus walk_at "bits"); (focus walk_at "bits"); decide)
  | (dsimp only; omega) | assumption | decide)
local macro_rules | `(tactic| walk_at "rv") => `(tactic| first | exact rv_I0 | (apply rv_I; walk_at "side"))
local macro_rules | `(tactic| walk_at "ev") => `(tactic| first
  | exact ev_c
  | exact ev_var rfl
  | (apply ev_op; (focus walk_at "ev"); (focus walk_at "ev"); (focus walk_at "rv"))
  | (apply ev_int1; walk_at "ev")
  | (apply ev_max2; (focus walk_at "ev"); (focus walk_at "ev"))
  | (apply ev_bits; walk_at "ev"))

set_option exponentiation.threshold 2000
theorem op_go {r : V → V → Hp → VK → Prop} {ta tb : TE} {σ : L2.St} {H : Hp} {Q : VK} (h : ta σ H fun x H1 => tb σ H1 fun y H2 => r x y H2 Q) : tOp r ta tb σ H Q := h
theorem gn_ne {H : Hp} {g D : Addr} {m : Int} (h : Gn H g m) (n : H D = none) : D ≠ g := by
  obtain ⟨a, b, c, h1, _⟩ := h
  rintro rfl
  rw [n] at h1
  cases h1
theorem Gn.put {g p : Addr} {H : Hp} {o : HO} {m : Int} (h : Gn H g m) (n : p ≠ g) : Gn (upd H p o) g m := by
  obtain ⟨a, b, c, h1, h2⟩ := h
  exact ⟨a, b, c, by rw [upd_ne (Ne.symm n)]; exact h1, h2⟩
theorem off_put {g p : Addr} {H H1 : Hp} {o : HO} (a : Off g H H1) (n : H p = none) : Off g H (upd H1 p o) := fun x u ng hx => by
  rw [upd_ne (ne_of_none hx n)]
  exact a x u ng hx
theorem LetsN.off {C : Addr} {H0 H H2 : Hp} {p g : Addr} {m : Int} {ns : List Int} {st : Option Int} (h : LetsN C H0 H p ns st) (hg : Gn H0 g m) (np : H0 p = none) (o : Off g H H2) : LetsN C H0 H2 p ns st := by
  obtain ⟨dx, nn, tt, h1, h2, h3, h4, h5⟩ := h
  exact ⟨dx, nn, tt, o _ _ (gn_ne hg np) h1, o _ _ (gn_ne hg h4) h2, o _ _ (gn_ne hg h5) h3, h4, h5⟩
section
variable {K : PySem.W.Frag} {σ : L2.St} {H : Hp} {ta tb tc tl : TE} {D : Ends} {tz tu : TS} {E : XK} {L : Addr}
theorem q_forZ {j : Nat} (Good : Addr → List V → Hp → Prop) (h : ∀ Q : VK, (∀ p xs H1, Good p xs H1 → Q (.ref p) H1) → tl σ H Q) (hg : ∀ p xs H1, Good p xs H1 → H1 p = some (.lst xs)) (Pv : Addr → List V → Nat → L2.St → Hp → Prop)
    (h0 : ∀ p xs H1, Good p xs H1 → Pv p xs 0 σ H1) (hl : ∀ p xs i σ' H', Pv p xs i σ' H' → H' p = some (.lst xs))
    (hs : ∀ p xs i x σ' H', xs[i]? = some x → Pv p xs i σ' H' → tu { D with nx := Pv p xs (i + 1), ct := Pv p xs (i + 1), bk := tz D } (σ'.set j (some x)) H') (hd : ∀ p xs σ' H', Pv p xs xs.length σ' H' → tz D σ' H') : tSeq (tFor (iList K tl) (gName j) tu) tz D σ H :=
  h _ fun p xs H1 g1 => ⟨p, rfl, ⟨xs, sq_of (hg p xs H1 g1)⟩, for_list (D := { D with nx := tz D }) (xs := xs) (fun i σ' H' => Pv p xs i σ' H') (h0 p xs H1 g1) (fun i σ' H' _ z => sq_of (hl p xs i σ' H' z)) (fun i x σ' H' hi z => hs p xs i x σ' H' hi z) (fun σ' H' z => hd p xs σ' H' z)⟩
theorem el_lawlets {t : Addr} {ns : List Int} {st : Option Int} (ha : Ev ta σ H (.ref t)) (hw : WayAt H t ns st) (told : Told (ns.reverse ++ ns) st) : EvLets L (tCall (spLets K L) [] E (tCons ta tNil)) σ H (formN (ns.reverse ++ ns) st) (formS (ns.reverse ++ ns) st) := fun H1 a Q q =>
  ha H1 a _ fun H2 e2 => ⟨t, ns, st, rfl, hw.mono (a.trans e2), told, fun p H3 n3 e3 h3 => q p H3 (free_of e2 n3) (e2.trans e3) (h3.less e2)⟩
theorem ev_isNotT {te : TE} (h : Ev te σ H (.bl true)) : Ev (tOp rNotB te (tC (.bl true))) σ H (.bl false) := ev_is (ev_notB h ev_c) rfl
theorem ev_and2 {a b : TE} (h1 : Ev a σ H (.bl true)) (h2 : Ev b σ H (.bl true)) : Ev (tAndV a b) σ H (.bl true) := ev_is (ev_andV h1 fun _ => h2) rfl
theorem ev_eqInt {i : Int} (h1 : Ev ta σ H (.int i)) (h2 : Ev tb σ H (.int i)) : Ev (tOp (rEqD K) ta tb) σ H (.bl true) :=
  ev_is (ev_eqD (ed_int h1) (ed_int h2) rfl rfl rfl rfl) (by
    show V.bl (i == i) = .bl true
    rw [beq_self_eq_true])
end
theorem next_tz {tz : TS} {D : Ends} {σ : L2.St} {H : Hp} (h : tz D σ H) : tNext { D with nx := tz D } σ H := h
section
variable {K : PySem.W.Frag} {σ : L2.St} {H : Hp} {E E2 : XK} {ta tb tc td : TE} {L : Addr}
theorem no1N {d e : PyData} {u : V} {ns : List Int} {st : Option Int} (ha : EvLets L tb σ H ns st) (hc : EvD K tc σ H d) (hu : Ev td σ H u) (hr : Rp K H u e) (is : isRow d = true) (no : placeNo (lenD d) e = true) (oc : Okc e) :
    Ev (tOp (rNeD K) (tCall (spCaught K L) [] E (tCons (tC (.int 1)) (tCons tb (tCons tc (tCons td tNil))))) (tCall (spOnly K) [] E2 (tCons (tC (.int 2)) (tCons td tNil)))) σ H (.bl false) := by
  refine ev_neRes (k := 2) oc.st (fun H1 a Q q => ha H1 a _ fun p H2 n2 e2 hl => hc H2 (a.trans e2) _ fun v H3 e3 hv => hu H3 ((a.trans e2).trans e3) _ fun H4 e4 => ?_) (ed_only ev_c hu hr oc)
  exact ⟨1, .ref p, v, u, u, e, 2, rfl, hr.to (((a.trans e2).trans e3).trans e4), oc, (fun x H5 e5 r => q x H5 (((e2.trans e3).trans e4).trans e5) r), .inr rfl, .inr (.inr ⟨p, ns, st, d, e, rfl, rfl, hl.at.mono (e3.trans e4), hv.to e4, hr.to (((a.trans e2).trans e3).trans e4), is, .inl no, rfl, rfl⟩)⟩
theorem el_rowN {C1 C2 C3 : Addr} {ns rs : List Int} {st : Option Int} {i : Nat} {x y : Int} (ha : EvLets L ta σ H ns st) (h : EvD K tb σ H (.list (rs.map .int))) (hu : Ev tc σ H (.int i)) (ok : RowOk rs) (hi : i + 1 < rs.length) (hd : doneI ns st rs i = some (x, y)) :
    EvL (tCall (spRowDone K L C1 C2 C3) [] E (tCons ta (tCons tb (tCons tc tNil)))) σ H ((put2 rs i x y).map V.int) := fun H1 a Q q =>
  ha H1 a _ fun p H2 n2 e2 hl => h H2 (a.trans e2) _ fun v H3 e3 hv => hu H3 ((a.trans e2).trans e3) _ fun H4 e4 => go_row (hl.at.mono (e3.trans e4)) (hv.to e4) ok hi hd fun r H5 n5 e5 h5 => q r H5 (free_of ((e2.trans e3).trans e4) n5) (((e2.trans e3).trans e4).trans e5) h5
theorem el_openN {C1 C2 : Addr} {ns rs : List Int} {st : Option Int} (ha : EvLets L ta σ H ns st) (h : EvD K tb σ H (.list (rs.map .int))) (ok : RowOk rs) : EvL (tCall (spOpen K L C1 C2) [] E (tCons ta (tCons tb tNil))) σ H ((openI ns st rs).map V.int) := fun H1 a Q q =>
  ha H1 a _ fun p H2 n2 e2 hl => h H2 (a.trans e2) _ fun v H3 e3 hv => go_open (hl.at.mono e3) hv ok fun r H5 n5 e5 h5 => q r H5 (free_of (e2.trans e3) n5) ((e2.trans e3).trans e5) h5
end
def spLaw (K : PySem.W.Frag) : Sp := fun vs H Q _ => ∃ (a : Addr) (ns : List Int), vs = [.ref a] ∧ SqL K H a (ns.map V.int) ∧ ∀ H2, Q (.bl true) H2
section
variable {P : Program} {w : World} {K : PySem.W.Frag} {mg : Str → Option Value} {base : Heap}
theorem ok_law (T : Tx K mg) : FnG P w K mg base CX0 9 T.a_law T.fd_law P_law (spLaw K) := by
  have c_l_generator := ok_gen (P := P) (w := w) (base := base) T
  have c_l_random := ok_rand (P := P) (w := w) (base := base) T
  have c_l_menu := ok_menu (P := P) (w := w) (base := base) T
  have c_l_lets := ok_lets (P := P) (w := w) (base := base) T
  have c_l_order := ok_ord (P := P) (w := w) (base := base) T
  have c_l_drawn_log := ok_drawn (P := P) (w := w) (base := base) T
  have c_l_row_right := ok_rr (P := P) (w := w) (base := base) T
  have c_l_order_right := ok_or (P := P) (w := w) (base := base) T
  have c_l_refused := ok_refused (P := P) (w := w) (base := base) T
  have c_l_caught := ok_caught (P := P) (w := w) (base := base) T
  have c_l_only := ok_only (P := P) (w := w) (base := base) T
  have c_open_places := ok_open (P := P) (w := w) (base := base) T
  have c_row_done := ok_rowdone (P := P) (w := w) (base := base) T
  have c_Lets_init := ok_linit (P := P) (w := w) (base := base) T
  have c_Lets_numbers := ok_nums (P := P) (w := w) (base := base) T
  have c_Lets_start := ok_start (P := P) (w := w) (base := base) T
  have c_Lets_eq := ok_eq (P := P) (w := w) (base := base) T
  refine fun_g T.F_law sc_law (fun vs H Q E h => ?_) (fun cdv A outer s H vs Q E hr hq h => ?_)
  · obtain ⟨a, ns, rfl, _⟩ := h
    rfl
  · obtain ⟨a, ns, rfl, hs, q⟩ := h
    refine ⟨_, (pss_cons (ps_for PassesOwn.never rfl (pi_range1 (by rfl) T.m_range (pa_cons pe_int pa_nil)) (pg_name (i := 1) nd_law rfl (.inl rfl)) (pss_cons (ps_set (i := 2) nd_law rfl (.inr rfl) (pe_call c_l_generator (hr.mono (by decide)) (by rfl) T.g_l_generator T.F_l_generator.kp T.b_l_generator .nil pass0 (pa_cons (pv 0) (pa_cons (pv 1) pa_nil))))
      (pss_cons (ps_set (i := 3) nd_law rfl (.inl rfl) (pe_ix (k_ixl (K := K) rfl) (pe_call0 c_l_menu (hr.mono (by decide)) (by rfl) T.g_l_menu T.F_l_menu.kp T.b_l_menu .nil pass0) (pe_call c_l_random (hr.mono (by decide)) (by rfl) T.g_l_random T.F_l_random.kp T.b_l_random .nil pass0 (pa_cons (pv 2) (pa_cons pe_int pa_nil))) (fun _ _ => rfl)))
      (pss_cons (ps_set (i := 4) nd_law rfl (.inl rfl) (pe_call c_l_lets (hr.mono (by decide)) (by rfl) T.g_l_lets T.F_l_lets.kp T.b_l_lets .nil pass0 (pa_cons (pv 3) pa_nil)))
      (pss_cons (ps_for PassesOwn.never rfl (k_pil (K := K) rfl (pe_lc (own := [("_law_turn", 8)]) rfl nd_law (pi_range1 (by rfl) T.m_range (pa_cons pe_int pa_nil)) (blkOk_by (N := N_law) (sc := (defScope s_law)) (by decide +kernel)) (fun _ _ _ _ _ => pg_name (i := 8) nd_law rfl (.inl rfl)) (fun _ _ _ _ _ => pts_nil) (fun _ _ _ _ _ => (pe_call c_l_random (hr.mono (by decide)) (by rfl) T.g_l_random T.F_l_random.kp T.b_l_random .nil pass0 (pa_cons (pv 2) (pa_cons pe_int pa_nil)))))) (pg_name (i := 5) nd_law rfl (.inl rfl)) (pss_cons (ps_set (i := 6) nd_law rfl (.inr rfl) (pe_ix (k_ixl (K := K) rfl) (pe_lst (pa_cons pe_int (pa_cons pe_int (pa_cons pe_int (pa_cons (pe_op op_sub (pe_op op_powX pe_int pe_int) pe_int) pa_nil))))) (pe_call c_l_random (hr.mono (by decide)) (by rfl) T.g_l_random T.F_l_random.kp T.b_l_random .nil pass0 (pa_cons (pv 2) (pa_cons pe_int pa_nil))) (fun _ _ => rfl)))
      (pss_cons (ps_if (pt_not (pt_val (pe_callG c_l_row_right (hr.mono (by decide)) hq (by rfl) T.g_l_row_right T.F_l_row_right.kp T.b_l_row_right .nil pass0 (pa_cons (pv 3) (pa_cons (pv 4) (pa_cons (pe_lc (own := [("_law_turn", 8)]) rfl nd_law (pi_range1 (by rfl) T.m_range (pa_cons (pv 5) pa_nil)) (blkOk_by (N := N_law) (sc := (defScope s_law)) (by decide +kernel)) (fun _ _ _ _ _ => pg_name (i := 8) nd_law rfl (.inl rfl)) (fun _ _ _ _ _ => pts_nil) (fun _ _ _ _ _ => (pe_op op_add (pe_op op_mulX (pv 6) (pe_call c_l_random (hr.mono (by decide)) (by rfl) T.g_l_random T.F_l_random.kp T.b_l_random .nil pass0 (pa_cons (pv 2) (pa_cons pe_int pa_nil)))) (pe_call c_l_random (hr.mono (by decide)) (by rfl) T.g_l_random T.F_l_random.kp T.b_l_random .nil pass0 (pa_cons (pv 2) (pa_cons pe_int pa_nil)))))) pa_nil)))))) (pss_one (ps_ret pe_bl)) pss_nil)
      (pss_one (ps_if (pt_not (pt_val (pe_callG c_l_order_right (hr.mono (by decide)) hq (by rfl) T.g_l_order_right T.F_l_order_right.kp T.b_l_order_right .nil pass0 (pa_cons (pv 3) (pa_cons (pv 4) (pa_cons (pe_call c_l_order (hr.mono (by decide)) (by rfl) T.g_l_order T.F_l_order.kp T.b_l_order .nil pass0 (pa_cons (pe_call c_l_drawn_log (hr.mono (by decide)) (by rfl) T.g_l_drawn_log T.F_l_drawn_log.kp T.b_l_drawn_log .nil pass0 (pa_cons (pv 2) (pa_cons (pv 5) pa_nil))) pa_nil)) pa_nil)))))) (pss_one (ps_ret pe_bl)) pss_nil)))))
      (pss_cons (ps_if (PW.pt (pw_or (pt_not (pt_val (pe_callG c_l_refused (hr.mono (by decide)) hq (by rfl) T.g_l_refused T.F_l_refused.kp T.b_l_refused .nil pass0 (pa_cons (pv 4) pa_nil)))) (pw_or1 (pt_cmpR op_notBl (pe_cmpR (k_eqOwn (K := K) rfl T.me_Lets_eq.at_ T.me_Lets_eq.fn c_Lets_eq (hr.mono (by decide)) T.b_Lets_eq pass0) (pv 4) (pe_call c_l_lets (hr.mono (by decide)) (by rfl) T.g_l_lets T.F_l_lets.kp T.b_l_lets .nil pass0 (pa_cons (pv 3) pa_nil)) (nomark _)) pe_bl (nomark _))))) (pss_one (ps_ret pe_bl)) pss_nil)
      (pss_one (ps_if (PW.pt (pw_or (pt_cmpR (k_ne (K := K) rfl hr.units) (pe_meth0 (pv 4) T.cl_Lets T.me_Lets_numbers c_Lets_numbers (hr.mono (by decide)) T.b_Lets_numbers .nil pass0) (pe_meth0 (pe_call c_l_lets (hr.mono (by decide)) (by rfl) T.g_l_lets T.F_l_lets.kp T.b_l_lets .nil pass0 (pa_cons (pv 3) pa_nil)) T.cl_Lets T.me_Lets_numbers c_Lets_numbers (hr.mono (by decide)) T.b_Lets_numbers .nil pass0) (nomark _)) (pw_or1 (pt_cmpR (k_ne (K := K) rfl hr.units) (pe_meth0 (pv 4) T.cl_Lets T.me_Lets_start c_Lets_start (hr.mono (by decide)) T.b_Lets_start .nil pass0) (pe_meth0 (pe_call c_l_lets (hr.mono (by decide)) (by rfl) T.g_l_lets T.F_l_lets.kp T.b_l_lets .nil pass0 (pa_cons (pv 3) pa_nil)) T.cl_Lets T.me_Lets_start c_Lets_start (hr.mono (by decide)) T.b_Lets_start .nil pass0) (nomark _))))) (pss_one (ps_ret pe_bl)) pss_nil))))))))
      (pss_cons (ps_if (PW.pt (pw_or (pt_cmpR (k_ne (K := K) rfl hr.units) (pe_callG c_l_caught (hr.mono (by decide)) hq (by rfl) T.g_l_caught T.F_l_caught.kp T.b_l_caught .nil pass0 (pa_cons pe_int (pa_cons (pe_make T.M_Lets c_Lets_init (hr.mono (by decide)) (by rfl) T.g_Lets T.bd_Lets_init v_none1 passL (pa_cons (pe_lst (pa_cons pe_int pa_nil)) pa_nil)) (pa_cons (pe_lst (pa_cons pe_int (pa_cons pe_int (pa_cons pe_int pa_nil)))) (pa_cons pe_bl pa_nil))))) (pe_callG c_l_only (hr.mono (by decide)) hq (by rfl) T.g_l_only T.F_l_only.kp T.b_l_only .nil pass0 (pa_cons pe_int (pa_cons pe_bl pa_nil))) (nomark _)) (pw_or1 (pt_cmpR (k_ne (K := K) rfl hr.units) (pe_callG c_l_caught (hr.mono (by decide)) hq (by rfl) T.g_l_caught T.F_l_caught.kp T.b_l_caught .nil pass0 (pa_cons pe_int (pa_cons (pe_make T.M_Lets c_Lets_init (hr.mono (by decide)) (by rfl) T.g_Lets T.bd_Lets_init v_none1 passL (pa_cons (pe_lst (pa_cons pe_int pa_nil)) pa_nil)) (pa_cons (pe_lst (pa_cons pe_int (pa_cons pe_int (pa_cons pe_int pa_nil)))) (pa_cons pe_bl pa_nil))))) (pe_callG c_l_only (hr.mono (by decide)) hq (by rfl) T.g_l_only T.F_l_only.kp T.b_l_only .nil pass0 (pa_cons pe_int (pa_cons pe_bl pa_nil))) (nomark _))))) (pss_one (ps_ret pe_bl)) pss_nil)
      (pss_cons (ps_set (i := 7) nd_law rfl (.inl rfl) (pe_op op_powX pe_int pe_int))
      (pss_cons (ps_if (PW.pt (pw_or (pt_cmpR (k_ne (K := K) rfl hr.units) (pe_call c_row_done (hr.mono (by decide)) (by rfl) T.g_row_done T.F_row_done.kp T.b_row_done .nil passL (pa_cons (pe_make T.M_Lets c_Lets_init (hr.mono (by decide)) (by rfl) T.g_Lets T.bd_Lets_init v_none1 passL (pa_cons (pe_lst (pa_cons pe_int (pa_cons pe_int pa_nil))) pa_nil)) (pa_cons (pe_lst (pa_cons pe_int (pa_cons pe_int pa_nil))) (pa_cons pe_int pa_nil)))) (pe_lst (pa_cons pe_int (pa_cons pe_int pa_nil))) (nomark _)) (pw_or1 (pt_cmpR (k_ne (K := K) rfl hr.units) (pe_call c_open_places (hr.mono (by decide)) (by rfl) T.g_open_places T.F_open_places.kp T.b_open_places .nil passL (pa_cons (pe_make T.M_Lets c_Lets_init (hr.mono (by decide)) (by rfl) T.g_Lets T.bd_Lets_init v_none1 passL (pa_cons (pe_lst (pa_cons pe_int (pa_cons pe_int pa_nil))) pa_nil)) (pa_cons (pe_lst (pa_cons pe_int (pa_cons pe_int (pa_cons pe_int pa_nil)))) pa_nil))) (pe_lst (pa_cons pe_int (pa_cons pe_int pa_nil))) (nomark _))))) (pss_one (ps_ret pe_bl)) pss_nil)
      (pss_one (ps_ret (pe_and (pe_cmpR (k_eq (K := K) rfl hr.units) (pe_call c_row_done (hr.mono (by decide)) (by rfl) T.g_row_done T.F_row_done.kp T.b_row_done .nil passL (pa_cons (pe_make T.M_Lets c_Lets_init (hr.mono (by decide)) (by rfl) T.g_Lets T.bd_Lets_init v_none1 passL (pa_cons (pe_lst (pa_cons pe_int pa_nil)) pa_nil)) (pa_cons (pe_lst (pa_cons pe_int (pa_cons pe_int pa_nil))) (pa_cons pe_int pa_nil)))) (pe_lst (pa_cons pe_int (pa_cons pe_int pa_nil))) (nomark _)) (pe_and (pe_cmpR (k_eq (K := K) rfl hr.units) (pe_call c_row_done (hr.mono (by decide)) (by rfl) T.g_row_done T.F_row_done.kp T.b_row_done .nil passL (pa_cons (pe_make T.M_Lets c_Lets_init (hr.mono (by decide)) (by rfl) T.g_Lets T.b_Lets_init .nil passL (pa_cons (pe_lst pa_nil) (pa_cons pe_int pa_nil))) (pa_cons (pe_lst (pa_cons pe_int (pa_cons (pv 7) pa_nil))) (pa_cons pe_int pa_nil)))) (pe_lst (pa_cons (pe_op op_sub (pv 7) pe_int) (pa_cons pe_int pa_nil))) (nomark _)) (pe_one (pe_cmpR (k_eq (K := K) rfl hr.units) (pe_call c_open_places (hr.mono (by decide)) (by rfl) T.g_open_places T.F_open_places.kp T.b_open_places .nil passL (pa_cons (pe_make T.M_Lets c_Lets_init (hr.mono (by decide)) (by rfl) T.g_Lets T.bd_Lets_init v_none1 passL (pa_cons (pe_lst (pa_cons pe_int pa_nil)) pa_nil)) (pa_cons (pe_lst (pa_cons (pe_op op_sub (pv 7) pe_int) (pa_cons (pv 7) pa_nil))) pa_nil))) (pe_lst (pa_cons pe_int pa_nil)) (nomark _))))))))))), ?_⟩
    apply q_forR1 (n := 3)
    · exact ea_cons ev_c ea_nil
    · decide
    rotate_left 3
    · exact fun i σ H3 => (∃ x1 x2 x3 x4 x5 x6 x7 x8 : Option V, σ = [some (.ref a), x1, x2, x3, x4, x5, x6, x7, x8]) ∧ Ex H H3
    · intro H1 e1
      exact ⟨⟨none, none, none, none, none, none, none, none, rfl⟩, e1⟩
    · rintro i σ H1 hi ⟨⟨x1, x2, x3, x4, x5, x6, x7, x8, rfl⟩, e1⟩
      apply q_set
      refine ⟨.ref a, rfl, .int i, rfl, a, ns, i, rfl, ex_l e1 hs, by omega, fun g H2 ng e2 gg => ?_⟩
      have ng0 : H g = none := free_of e1 ng
      apply q_set
      refine op_go ?_
      refine ⟨rfl, fun pm xs H3 npm e3 hpm hlen hway => ?_⟩
      refine ⟨.ref g, rfl, g, 16, _, rfl, gg.ex e3, by omega, by decide, by decide, fun r H4 r0 r1 of4 g4 => ?_⟩
      obtain ⟨k, rfl⟩ := Int.eq_ofNat_of_zero_le r0
      have kl : k < xs.length := by omega
      obtain ⟨t, l, wn, ws, ev, h1, h2, nt, nl, told⟩ := hway xs[k] (List.getElem_mem kl)
      have pmg : pm ≠ g := gn_ne gg npm
      have tg : t ≠ g := gn_ne gg nt
      have lg : l ≠ g := gn_ne gg nl
      refine ⟨pm, xs, k, .ref t, rfl, rfl, sq_of (of4 _ _ pmg hpm), atI_nat (by rw [List.getElem?_eq_getElem kl, ev]), ?_⟩
      have e14 : Ex H H4 := Ex.off ((e1.trans e2).trans e3) ng0 of4
      apply q_set
      refine ⟨.ref t, rfl, t, wn, ws, rfl, ⟨l, of4 _ _ tg h1, of4 _ _ lg h2⟩, told, fun p H5 np e5 hp => ?_⟩
      have g5 := g4.ex e5
      have h15 := e5 _ _ (of4 _ _ tg h1)
      have h25 := e5 _ _ (of4 _ _ lg h2)
      -- what stays
      have st : ∀ {Hx : Hp}, Off g H5 Hx → Ex H Hx ∧ WayAt Hx t wn ws ∧ LetsN T.a_Lets H4 Hx p (formN (wn.reverse ++ wn) ws) (formS (wn.reverse ++ wn) ws) := fun o =>
        ⟨Ex.off (e14.trans e5) ng0 o, ⟨l, o _ _ tg h15, o _ _ lg h25⟩, LetsN.off hp g4 np o⟩
      refine q_forZ (fun z ys Hx => H5 z = none ∧ Off g H5 Hx ∧ Hx z = some (.lst ys) ∧ ys.length = 8 ∧ (∀ v ∈ ys, ∃ n : Nat, n ≤ 9 ∧ v = .int n) ∧ Gn Hx g (1000 * i + 110)) ?_ (fun z ys Hx h => h.2.2.1)
        (fun z ys k σ' Hx => (∃ y5 y6 : Option V, σ' = [some (.ref a), some (.int i), some (.ref g), some (.ref t), some (.ref p), y5, y6, x7, x8]) ∧ z ≠ g ∧ Off g H5 Hx ∧ Hx z = some (.lst ys) ∧ ys.length = 8 ∧ (∀ v ∈ ys, ∃ n : Nat, n ≤ 9 ∧ v = .int n) ∧ Gn Hx g (1000 * i + 110 + 330 * k)) ?_ ?_ ?_ ?_
      · intro Q2 q2
        refine lc_rng (n := 8) (ea_cons ev_c ea_nil) (by decide) (fun x => rfl) (fun D k acc Hx => H5 D = none ∧ D ≠ g ∧ Off g H5 Hx ∧ Hx D = some (.lst acc) ∧ acc.length = k ∧ (∀ v ∈ acc, ∃ n : Nat, n ≤ 9 ∧ v = .int n) ∧ Gn Hx g (1000 * i + 11 + 11 * k)) ?_ ?_ ?_
        · intro D Hx ex hD
          exact ⟨free_of ex hD, gn_ne (g5.ex ex) hD, Off.of (ex.trans (Ex.new hD)), upd_same, rfl, (fun v hv => by cases hv), ((g5.ex ex).ex (Ex.new hD)).up (by omega)⟩
        · rintro D k acc Hx hk ⟨nD, Dg, o, hD, al, lens, gk⟩
          unfold tYes
          refine iteT ?_
          refine ⟨.ref g, rfl, g, 10, _, rfl, gk, by omega, by decide, by decide, fun r Hy s0 s1 oy gy => ?_⟩
          refine ⟨acc, oy _ _ Dg hD, sz_lt (by omega), _, nD, Dg, off_put (o.trans oy) nD, upd_same, by rw [List.length_append, List.length_singleton, al], fun v hv => ?_, (gy.put Dg).up (by push_cast; omega)⟩
          rcases List.mem_append.mp hv with hv | hv
          · exact lens v hv
          · rw [List.mem_singleton.mp hv]
            exact ⟨r.toNat, by omega, by rw [Int.toNat_of_nonneg s0]⟩
        · rintro D acc Hx ⟨nD, Dg, o, hD, al, lens, gk⟩
          exact q2 D acc Hx ⟨nD, o, hD, al, lens, gk.up (by have e8 : (((8 : Int).toNat : Nat) : Int) = 8 := rfl; omega)⟩
      · rintro z ys Hx ⟨nz, o, hz, l9, lens, gk⟩
        exact ⟨⟨_, _, rfl⟩, gn_ne g5 nz, o, hz, l9, lens, gk.up (by omega)⟩
      · rintro z ys k σ' Hx ⟨_, _, _, hz, _⟩
        exact hz
      · rintro z ys k x σ' Hx hk ⟨⟨y5, y6, rfl⟩, zg, o, hz, l9, lens, gk⟩
        obtain ⟨n, hn, rfl⟩ := lens _ (List.mem_of_getElem? hk)
        have k9 : k < 8 := by
          have := (List.getElem?_eq_some_iff.mp hk).1
          omega
        -- the base
        apply q_set
        refine op_go ?_
        have lb : EvL (tLst (tCons (tC (V.int 0)) (tCons (tC (V.int 0)) (tCons (tC (V.int 0)) (tCons (tOp (rI0 fun i j => V.int (i - j)) (tOp (rI CPowX fun i j => V.int (i ^ j.toNat)) (tC (V.int 10)) (tC (V.int 12))) (tC (V.int 40))) tNil)))))
          [some (.ref a), some (.int i), some (.ref g), some (.ref t), some (.ref p), some (.int n), y6, x7, x8] Hx [.int 0, .int 0, .int 0, .int (10 ^ 12 - 40)] :=
          el_lst (ea_cons ev_c (ea_cons ev_c (ea_cons ev_c (ea_cons (ev_op (x := .int (10 ^ 12)) (ev_op ev_c ev_c (rv_I (C := CPowX) (g := fun i j => .int (i ^ j.toNat)) (i := 10) (j := 12) ⟨by decide, by decide⟩)) ev_c rv_I0) ea_nil)))) (by show 4 ≤ 100000; decide)
        refine lb Hx (Ex.refl _) _ fun pb H6 nb e6 hb => ?_
        have pbg : pb ≠ g := gn_ne gk nb
        refine ⟨.ref g, rfl, g, 4, _, rfl, gk.ex e6, by omega, by decide, by decide, fun r H7 s0 s1 o7 g7 => ?_⟩
        have atb : ∃ b : Int, 0 ≤ b ∧ b ≤ 10 ^ 12 ∧ atI [V.int 0, .int 0, .int 0, .int (10 ^ 12 - 40)] r = some (.int b) := by
          have : r = 0 ∨ r = 1 ∨ r = 2 ∨ r = 3 := by omega
          rcases this with rfl | rfl | rfl | rfl
          · exact ⟨0, by decide, by decide, rfl⟩
          · exact ⟨0, by decide, by decide, rfl⟩
          · exact ⟨0, by decide, by decide, rfl⟩
          · exact ⟨10 ^ 12 - 40, by decide, by decide, rfl⟩
        obtain ⟨b, b0, b1, ab⟩ := atb
        refine ⟨pb, _, r, .int b, rfl, rfl, sq_of (o7 _ _ pbg hb), ab, ?_⟩
        have o07 : Off g H5 H7 := (o.ex e6).trans o7
        -- the row
        refine ⟨.ref t, rfl, .ref p, rfl, ?_⟩
        refine cons_go ?_
        refine lc_rng (n := (n : Int)) (ea_cons (ev_var rfl) ea_nil) ⟨by omega, by omega⟩ (fun x => rfl) (fun D k2 acc Hy => ∃ qs : List Int, acc = qs.map V.int ∧ H7 D = none ∧ D ≠ g ∧ Off g H7 Hy ∧ Hy D = some (.lst acc) ∧ qs.length = k2 ∧ (∀ v ∈ qs, 0 ≤ v) ∧ Gn Hy g (1000 * i + 110 + 330 * k + 11 + 22 * k2)) ?_ ?_ ?_
        · intro D Hy ey hD
          exact ⟨[], rfl, free_of ey hD, gn_ne (g7.ex ey) hD, Off.of (ey.trans (Ex.new hD)), upd_same, rfl, (fun v hv => by cases hv), ((g7.ex ey).ex (Ex.new hD)).up (by omega)⟩
        · rintro D k2 acc Hy hk2 ⟨qs, rfl, nD, Dg, oy, hD, ql, qn, gy⟩
          unfold tYes
          refine iteT ?_
          refine op_go (op_go ?_)
          refine ⟨.int b, rfl, ?_⟩
          refine ⟨.ref g, rfl, g, 2, _, rfl, gy, by omega, by decide, by decide, fun r1 Hz u0 u1 oz gz => ?_⟩
          refine ⟨b, r1, rfl, rfl, CMulX.of (bits64 (by omega)) (bits64 (by omega)) (by decide), ?_⟩
          refine ⟨.ref g, rfl, g, 12, _, rfl, gz, by omega, by decide, by decide, fun r2 Hw w0 w1 ow gw => ?_⟩
          refine ⟨b * r1, r2, rfl, rfl, ?_⟩
          refine ⟨qs.map V.int, ow _ _ Dg (oz _ _ Dg hD), sz_lt (by rw [List.length_map]; omega), _, qs ++ [b * r1 + r2], ?_, nD, Dg, off_put ((oy.trans oz).trans ow) nD, upd_same, by rw [List.length_append, List.length_singleton, ql], fun v hv => ?_, (gw.put Dg).up (by push_cast; omega)⟩
          · rw [List.map_append]; rfl
          · rcases List.mem_append.mp hv with hv | hv
            · exact qn v hv
            · rw [List.mem_singleton.mp hv]
              have := Int.mul_nonneg b0 u0
              omega
        · rintro D acc Hy ⟨qs, rfl, nD, Dg, oy, hD, ql, qn, gy⟩
          have oY : Off g H5 Hy := o07.trans oy
          obtain ⟨s1, s2, s3⟩ := st oY
          rw [Int.toNat_natCast] at ql gy
          refine ⟨t, p, D, wn, qs, ws, rfl, s2, s3.at, told, hD, ⟨qn, by omega⟩, by omega, fun He ee => ⟨true, rfl, ?_⟩⟩
          refine Eq.mpr (if_neg (by decide)) ?_
          refine next_tz ?_
          have oE := oY.ex ee
          have gE := gy.ex ee
          -- the order
          refine ⟨.ref t, rfl, .ref p, rfl, .ref g, rfl, .int n, rfl, g, _, n, rfl, gE, by omega, by omega, fun pl lo Hd npl od gd hpl hll il => ?_⟩
          refine ⟨pl, lo, rfl, sq_of hpl, by omega, fun po Hp npo eo hpo => ?_⟩
          obtain ⟨s1, s2, s3⟩ := st ((oE.trans od).ex eo)
          refine ⟨t, p, po, wn, ordOf lo, ws, rfl, s2, s3.at, told, hpo, ⟨ord_yes il (by omega), by rw [ordOf_len]; omega⟩, fun Hf ef => ⟨true, rfl, ?_⟩⟩
          refine Eq.mpr (if_neg (by decide)) ?_
          exact ⟨⟨_, _, rfl⟩, zg, ((oE.trans od).ex eo).ex ef, ef _ _ (eo _ _ (od _ _ zg (ee _ _ (oy _ _ zg (o7 _ _ zg (e6 _ _ hz)))))), l9, lens, ((gd.ex eo).ex ef).up (by push_cast; omega)⟩
      · rintro z ys σ' Hx ⟨⟨y5, y6, rfl⟩, zg, o, hz, l9, lens, gk⟩
        obtain ⟨s1, s2, s3⟩ := st o
        refine no_if (et_or2 (et_is (et_not (et_B (ev_own (ea_cons (ev_var rfl) ea_nil) fun Hy ey Q3 q3 => ⟨p, _, _, rfl, s3.at.mono ey, q3⟩))) rfl)
          (et_test (ev_isNotT (ev_is (ev_eqL T.ins_Lets (ev_var rfl) s3.at (el_lawlets (ev_var rfl) s2 told)) (by rw [decide_eq_true rfl, decide_eq_true rfl]; rfl))))) fun Hy ey => ?_
        have s4 := s3.mono ey
        have s5 := s2.mono ey
        refine s_when (b := false) ?_ (fun z => by cases z) fun _ Hz ez => ⟨⟨_, _, _, _, _, _, _, _, rfl⟩, (s1.trans ey).trans ez⟩
        refine et_or2 (et_test (ev_neSame (ed_newI (el_nums (ev_var rfl) s4.at)) (ed_newI (el_numsN (el_lawlets (ev_var rfl) s5 told))))) (et_test ?_)
        exact ev_is (ev_neD (ed_of (ev_start (ev_var rfl) s4.at) (stRp _)) (ed_of (ev_startN (el_lawlets (ev_var rfl) s5 told)) (stRp _)) (st_flat _).1 (st_flat _).1 (st_flat _).2 (st_flat _).2) (by rw [eqv_st, decide_eq_true rfl]; rfl)
    · rintro σ H1 ⟨⟨x1, x2, x3, x4, x5, x6, x7, x8, rfl⟩, e1⟩
      have two : ∀ {σ : L2.St} {Hx : Hp} {x y : Int} {ta tb : TE}, Ev ta σ Hx (.int x) → Ev tb σ Hx (.int y) → EvD K (tLst (tCons ta (tCons tb tNil))) σ Hx (.list ([x, y].map .int)) := fun h1 h2 => ed_newI (ns := [_, _]) (el_lst (ea_cons h1 (ea_cons h2 ea_nil)) (by show 2 ≤ 100000; decide))
      have three : ∀ {σ : L2.St} {Hx : Hp} {x y z : Int}, EvD K (tLst (tCons (tC (.int x)) (tCons (tC (.int y)) (tCons (tC (.int z)) tNil)))) σ Hx (.list ([x, y, z].map .int)) := ed_newI (ns := [_, _, _]) (el_lst (ea_cons ev_c (ea_cons ev_c (ea_cons ev_c ea_nil))) (by show 3 ≤ 100000; decide))
      have lets0 : ∀ {σ : L2.St} {Hx : Hp} {x : Int}, 1 ≤ x ∧ x ≤ 1000 → EvLets T.a_Lets (tMake T.a_Lets (spSettle K T.a_Lets) [V.non] E0 (tCons (tLst (tCons (tC (.int x)) tNil)) tNil)) σ Hx (formN [x] none) none := fun h => el_makeN0 (ns := [_]) (el_lst (ea_cons ev_c ea_nil) (by show 1 ≤ 100000; decide)) ⟨by show 1 ≤ 200; decide, fun y hy => by rw [List.mem_singleton.mp hy]; exact h, fun _ h => by cases h⟩
      have lets12 : ∀ {σ : L2.St} {Hx : Hp}, EvLets T.a_Lets (tMake T.a_Lets (spSettle K T.a_Lets) [V.non] E0 (tCons (tLst (tCons (tC (.int 1)) (tCons (tC (.int 2)) tNil))) tNil)) σ Hx (formN [1, 2] none) none := el_makeN0 (ns := [1, 2]) (el_lst (ea_cons ev_c (ea_cons ev_c ea_nil)) (by decide)) ⟨by decide, by decide, fun _ h => by cases h⟩
      have okT := Okc.of (OkBad.of (f := fun _ => false) (d := .bool true) (by decide +kernel))
      have okF := Okc.of (OkBad.of (f := fun _ => false) (d := .bool false) (by decide +kernel))
      refine no_if (et_or2 (et_test (no1N (lets0 (by decide)) three ev_c (.bl true) (by decide +kernel) (by decide +kernel) okT)) (et_test (no1N (lets0 (by decide)) three ev_c (.bl false) (by decide +kernel) (by decide +kernel) okF))) fun H2 e2 => ?_
      apply q_asg (v := .int (10 ^ 12))
      · exact ev_op ev_c ev_c (rv_I (C := CPowX) (g := fun i j => .int (i ^ j.toNat)) (i := 10) (j := 12) ⟨by decide, by decide⟩)
      intro H3 e3
      refine no_if (et_or2 (et_test (ev_neSame (a := [2, 0]) (ed_newI (el_is' (el_rowN (i := 0) (x := 2) (y := 0) lets12 (two ev_c ev_c) ev_c ⟨by decide, by decide⟩ (by decide) (by decide +kernel)) (by decide +kernel))) (two ev_c ev_c)))
        (et_test (ev_neSame (a := [0, 1]) (ed_newI (el_is' (el_openN lets12 three ⟨by decide, by decide⟩) (by decide +kernel))) (two ev_c ev_c)))) fun H4 e4 => ?_
      apply s_ret (v := .bl true)
      · refine ev_and3 ?_ ?_ ?_
        · exact ev_eqSame (a := [8, 7]) (ed_newI (el_is' (el_rowN (i := 0) (x := 8) (y := 7) (lets0 (by decide)) (two ev_c ev_c) ev_c ⟨by decide, by decide⟩ (by decide) (by decide +kernel)) (by decide +kernel))) (two ev_c ev_c)
        · exact ev_eqSame (a := [10 ^ 12 - 1, 0]) (ed_newI (el_is' (el_rowN (rs := [0, 10 ^ 12]) (i := 0) (x := 10 ^ 12 - 1) (y := 0) (el_makeN (ns := []) (st := some 5) (el_lst ea_nil (by decide)) ev_c ⟨by decide, by decide, fun s h => by cases h; decide⟩) (two ev_c (ev_var rfl)) ev_c ⟨by decide, by decide⟩ (by decide) (by decide +kernel)) (by decide +kernel))) (two (ev_op (ev_var rfl) ev_c rv_I0) ev_c)
        · exact ev_eqSame (a := [0]) (ed_newI (el_is' (el_openN (rs := [10 ^ 12 - 1001, 10 ^ 12]) (lets0 (by decide)) (two (ev_op (ev_var rfl) ev_c rv_I0) (ev_var rfl)) ⟨by decide, by decide⟩) (by decide +kernel))) (ed_newI (ns := [0]) (el_lst (ea_cons ev_c ea_nil) (by decide)))
      · intro H5 e5
        exact q H5
end
end K05




set_option Elab.async false
set_option linter.all false
set_option maxRecDepth 100000
set_option maxHeartbeats 4000000
namespace K05
open PySem PySem.Spec PyProof.Rows L2 Evl GS
theorem exm_of {K : PySem.W.Frag} {C S : Addr} (h1 : PySem.W.subIn K (.ref S) (.type "BaseException") = some true) (h2 : PySem.W.isClsIn K S = true) (h3 : PySem.W.typeIn K (.ref S) = some (.type "type"))
    (h4 : PySem.W.subIn K (.ref C) (.ref S) = some true) : PySem.W.exmOne K (.ref C) (.ref S) = some true := by
  have h2' : (PySem.W.clsIn K S).isSome = true := h2
  unfold PySem.W.exmOne PySem.W.kitCls
  simp only [h1, h2', h3, h4, BEq.rfl, Bool.and_self, if_true]
theorem kit_same {K : PySem.W.Frag} {C : Addr} : PySem.W.kitOne K (.ref C) (.ref C) = some true := by
  unfold PySem.W.kitOne
  rw [if_pos (by exact BEq.rfl)]
theorem kit_of {K : PySem.W.Frag} {t : Value} {S : Addr} {b : Bool} (h1 : (t == Value.ref S) = false) (h2 : PySem.W.isClsIn K S = true) (h3 : PySem.W.typeIn K (.ref S) = some (.type "type"))
    (h4 : PySem.W.subIn K t (.ref S) = some b) : PySem.W.kitOne K t (.ref S) = some b := by
  have h2' : (PySem.W.clsIn K S).isSome = true := h2
  unfold PySem.W.kitOne PySem.W.kitCls
  rw [h1]
  simp only [h2', h3, h4, BEq.rfl, Bool.and_self, if_true, Bool.false_eq_true, if_false]
theorem kit_bt {K : PySem.W.Frag} {C : Addr} {T : String} {b : Bool} (h : PySem.W.subIn K (.ref C) (.type T) = some b) (hm : PySem.W.kitMeta T = true) : PySem.W.kitOne K (.ref C) (.type T) = some b := by
  unfold PySem.W.kitOne PySem.W.kitCls
  rw [if_neg (by simp)]
  show (if PySem.W.kitMeta T = true then PySem.W.subIn K (.ref C) (.type T) else none) = some b
  rw [if_pos hm]
  exact h
theorem all_mk {P : Program} {w : World} {K : PySem.W.Frag} {h : Heap} {mg : Str → Option Value} {fa : Addr} (X : K.In h) (G : h.Ns mainGlobals mg) (hfa : mg "law" = some (.ref fa))
    {a_is_whole a_is_count a_is_row a_is_order a_is_log a_need_order a_need_row a_log_of a_order_of a_left_count a_exchanged a_may_be_told a_are_numbers a_need_lets a_need_place a_order_done a_done a_row_done a_open_places a_l_hash a_l_random a_l_cell a_l_generator a_l_order a_l_log a_l_drawn_log a_l_menu a_l_let a_l_pair a_l_near a_l_lets a_l_left a_l_caught a_l_only a_l_row_right a_l_order_right a_l_refused a_law a_GapError a_InvalidNumber a_InvalidOrder a_InvalidRow a_InvalidLets a_InvalidList a_InvalidPlace a_Lets ai_InvalidNumber td_InvalidNumber ai_InvalidOrder td_InvalidOrder ai_InvalidRow td_InvalidRow ai_InvalidLets td_InvalidLets ai_InvalidList td_InvalidList ai_InvalidPlace td_InvalidPlace am_Lets_init td_Lets_init am_Letssettle am_Lets_numbers am_Lets_start am_Lets_contains am_Lets_eq : Addr}
    {od_is_whole an_is_whole : Option Addr} {sl_is_whole : Array (Option Value)} {oc_is_whole kV_is_whole dc_is_whole pm_is_whole cd_is_whole ct_is_whole : Value}
    {od_is_count an_is_count : Option Addr} {sl_is_count : Array (Option Value)} {oc_is_count kV_is_count dc_is_count pm_is_count cd_is_count ct_is_count : Value}
    {od_is_row an_is_row : Option Addr} {sl_is_row : Array (Option Value)} {oc_is_row kV_is_row dc_is_row pm_is_row cd_is_row ct_is_row : Value}
    {od_is_order an_is_order : Option Addr} {sl_is_order : Array (Option Value)} {oc_is_order kV_is_order dc_is_order pm_is_order cd_is_order ct_is_order : Value}
    {od_is_log an_is_log : Option Addr} {sl_is_log : Array (Option Value)} {oc_is_log kV_is_log dc_is_log pm_is_log cd_is_log ct_is_log : Value}
    {od_need_order an_need_order : Option Addr} {sl_need_order : Array (Option Value)} {oc_need_order kV_need_order dc_need_order pm_need_order cd_need_order ct_need_order : Value}
    {od_need_row an_need_row : Option Addr} {sl_need_row : Array (Option Value)} {oc_need_row kV_need_row dc_need_row pm_need_row cd_need_row ct_need_row : Value}
    {od_log_of an_log_of : Option Addr} {sl_log_of : Array (Option Value)} {oc_log_of kV_log_of dc_log_of pm_log_of cd_log_of ct_log_of : Value}
    {od_order_of an_order_of : Option Addr} {sl_order_of : Array (Option Value)} {oc_order_of kV_order_of dc_order_of pm_order_of cd_order_of ct_order_of : Value}
    {od_left_count an_left_count : Option Addr} {sl_left_count : Array (Option Value)} {oc_left_count kV_left_count dc_left_count pm_left_count cd_left_count ct_left_count : Value}
    {od_exchanged an_exchanged : Option Addr} {sl_exchanged : Array (Option Value)} {oc_exchanged kV_exchanged dc_exchanged pm_exchanged cd_exchanged ct_exchanged : Value}
    {od_may_be_told an_may_be_told : Option Addr} {sl_may_be_told : Array (Option Value)} {oc_may_be_told kV_may_be_told dc_may_be_told pm_may_be_told cd_may_be_told ct_may_be_told : Value}
    {od_are_numbers an_are_numbers : Option Addr} {sl_are_numbers : Array (Option Value)} {oc_are_numbers kV_are_numbers dc_are_numbers pm_are_numbers cd_are_numbers ct_are_numbers : Value}
    {od_need_lets an_need_lets : Option Addr} {sl_need_lets : Array (Option Value)} {oc_need_lets kV_need_lets dc_need_lets pm_need_lets cd_need_lets ct_need_lets : Value}
    {od_need_place an_need_place : Option Addr} {sl_need_place : Array (Option Value)} {oc_need_place kV_need_place dc_need_place pm_need_place cd_need_place ct_need_place : Value}
    {od_order_done an_order_done : Option Addr} {sl_order_done : Array (Option Value)} {oc_order_done kV_order_done dc_order_done pm_order_done cd_order_done ct_order_done : Value}
    {od_done an_done : Option Addr} {sl_done : Array (Option Value)} {oc_done kV_done dc_done pm_done cd_done ct_done : Value}
    {od_row_done an_row_done : Option Addr} {sl_row_done : Array (Option Value)} {oc_row_done kV_row_done dc_row_done pm_row_done cd_row_done ct_row_done : Value}
    {od_open_places an_open_places : Option Addr} {sl_open_places : Array (Option Value)} {oc_open_places kV_open_places dc_open_places pm_open_places cd_open_places ct_open_places : Value}
    {od_l_hash an_l_hash : Option Addr} {sl_l_hash : Array (Option Value)} {oc_l_hash kV_l_hash dc_l_hash pm_l_hash cd_l_hash ct_l_hash : Value}
    {od_l_random an_l_random : Option Addr} {sl_l_random : Array (Option Value)} {oc_l_random kV_l_random dc_l_random pm_l_random cd_l_random ct_l_random : Value}
    {od_l_cell an_l_cell : Option Addr} {sl_l_cell : Array (Option Value)} {oc_l_cell kV_l_cell dc_l_cell pm_l_cell cd_l_cell ct_l_cell : Value}
    {od_l_generator an_l_generator : Option Addr} {sl_l_generator : Array (Option Value)} {oc_l_generator kV_l_generator dc_l_generator pm_l_generator cd_l_generator ct_l_generator : Value}
    {od_l_order an_l_order : Option Addr} {sl_l_order : Array (Option Value)} {oc_l_order kV_l_order dc_l_order pm_l_order cd_l_order ct_l_order : Value}
    {od_l_log an_l_log : Option Addr} {sl_l_log : Array (Option Value)} {oc_l_log kV_l_log dc_l_log pm_l_log cd_l_log ct_l_log : Value}
    {od_l_drawn_log an_l_drawn_log : Option Addr} {sl_l_drawn_log : Array (Option Value)} {oc_l_drawn_log kV_l_drawn_log dc_l_drawn_log pm_l_drawn_log cd_l_drawn_log ct_l_drawn_log : Value}
    {od_l_menu an_l_menu : Option Addr} {sl_l_menu : Array (Option Value)} {oc_l_menu kV_l_menu dc_l_menu pm_l_menu cd_l_menu ct_l_menu : Value}
    {od_l_let an_l_let : Option Addr} {sl_l_let : Array (Option Value)} {oc_l_let kV_l_let dc_l_let pm_l_let cd_l_let ct_l_let : Value}
    {od_l_pair an_l_pair : Option Addr} {sl_l_pair : Array (Option Value)} {oc_l_pair kV_l_pair dc_l_pair pm_l_pair cd_l_pair ct_l_pair : Value}
    {od_l_near an_l_near : Option Addr} {sl_l_near : Array (Option Value)} {oc_l_near kV_l_near dc_l_near pm_l_near cd_l_near ct_l_near : Value}
    {od_l_lets an_l_lets : Option Addr} {sl_l_lets : Array (Option Value)} {oc_l_lets kV_l_lets dc_l_lets pm_l_lets cd_l_lets ct_l_lets : Value}
    {od_l_left an_l_left : Option Addr} {sl_l_left : Array (Option Value)} {oc_l_left kV_l_left dc_l_left pm_l_left cd_l_left ct_l_left : Value}
    {od_l_caught an_l_caught : Option Addr} {sl_l_caught : Array (Option Value)} {oc_l_caught kV_l_caught dc_l_caught pm_l_caught cd_l_caught ct_l_caught : Value}
    {od_l_only an_l_only : Option Addr} {sl_l_only : Array (Option Value)} {oc_l_only kV_l_only dc_l_only pm_l_only cd_l_only ct_l_only : Value}
    {od_l_row_right an_l_row_right : Option Addr} {sl_l_row_right : Array (Option Value)} {oc_l_row_right kV_l_row_right dc_l_row_right pm_l_row_right cd_l_row_right ct_l_row_right : Value}
    {od_l_order_right an_l_order_right : Option Addr} {sl_l_order_right : Array (Option Value)} {oc_l_order_right kV_l_order_right dc_l_order_right pm_l_order_right cd_l_order_right ct_l_order_right : Value}
    {od_l_refused an_l_refused : Option Addr} {sl_l_refused : Array (Option Value)} {oc_l_refused kV_l_refused dc_l_refused pm_l_refused cd_l_refused ct_l_refused : Value}
    {od_law an_law : Option Addr} {sl_law : Array (Option Value)} {oc_law kV_law dc_law pm_law cd_law ct_law : Value}
    {nm_InvalidNumber q_InvalidNumber : Str} {N_InvalidNumber : Addr} {bs_InvalidNumber bm_InvalidNumber : List Value} {sn_InvalidNumber : List Str} {su_InvalidNumber : List Value} {ab_InvalidNumber : Bool} {co_InvalidNumber : Option Bool} {dd_InvalidNumber : Option Addr} {x0_InvalidNumber x1_InvalidNumber x2_InvalidNumber x3_InvalidNumber x5_InvalidNumber : Option Value}
    {ot_InvalidNumber : Value} {od_InvalidNumber : Option Addr} {nt_InvalidNumber : Nat} {st_InvalidNumber : Array (Option Value)}
    {od_InvalidNumber_init an_InvalidNumber_init : Option Addr} {sl_InvalidNumber_init : Array (Option Value)} {oc_InvalidNumber_init kV_InvalidNumber_init dc_InvalidNumber_init pm_InvalidNumber_init cd_InvalidNumber_init ct_InvalidNumber_init : Value}
    {nm_InvalidOrder q_InvalidOrder : Str} {N_InvalidOrder : Addr} {bs_InvalidOrder bm_InvalidOrder : List Value} {sn_InvalidOrder : List Str} {su_InvalidOrder : List Value} {ab_InvalidOrder : Bool} {co_InvalidOrder : Option Bool} {dd_InvalidOrder : Option Addr} {x0_InvalidOrder x1_InvalidOrder x2_InvalidOrder x3_InvalidOrder x5_InvalidOrder : Option Value}
    {ot_InvalidOrder : Value} {od_InvalidOrder : Option Addr} {nt_InvalidOrder : Nat} {st_InvalidOrder : Array (Option Value)}
    {od_InvalidOrder_init an_InvalidOrder_init : Option Addr} {sl_InvalidOrder_init : Array (Option Value)} {oc_InvalidOrder_init kV_InvalidOrder_init dc_InvalidOrder_init pm_InvalidOrder_init cd_InvalidOrder_init ct_InvalidOrder_init : Value}
    {nm_InvalidRow q_InvalidRow : Str} {N_InvalidRow : Addr} {bs_InvalidRow bm_InvalidRow : List Value} {sn_InvalidRow : List Str} {su_InvalidRow : List Value} {ab_InvalidRow : Bool} {co_InvalidRow : Option Bool} {dd_InvalidRow : Option Addr} {x0_InvalidRow x1_InvalidRow x2_InvalidRow x3_InvalidRow x5_InvalidRow : Option Value}
    {ot_InvalidRow : Value} {od_InvalidRow : Option Addr} {nt_InvalidRow : Nat} {st_InvalidRow : Array (Option Value)}
    {od_InvalidRow_init an_InvalidRow_init : Option Addr} {sl_InvalidRow_init : Array (Option Value)} {oc_InvalidRow_init kV_InvalidRow_init dc_InvalidRow_init pm_InvalidRow_init cd_InvalidRow_init ct_InvalidRow_init : Value}
    {nm_InvalidLets q_InvalidLets : Str} {N_InvalidLets : Addr} {bs_InvalidLets bm_InvalidLets : List Value} {sn_InvalidLets : List Str} {su_InvalidLets : List Value} {ab_InvalidLets : Bool} {co_InvalidLets : Option Bool} {dd_InvalidLets : Option Addr} {x0_InvalidLets x1_InvalidLets x2_InvalidLets x3_InvalidLets x5_InvalidLets : Option Value}
    {ot_InvalidLets : Value} {od_InvalidLets : Option Addr} {nt_InvalidLets : Nat} {st_InvalidLets : Array (Option Value)}
    {od_InvalidLets_init an_InvalidLets_init : Option Addr} {sl_InvalidLets_init : Array (Option Value)} {oc_InvalidLets_init kV_InvalidLets_init dc_InvalidLets_init pm_InvalidLets_init cd_InvalidLets_init ct_InvalidLets_init : Value}
    {nm_InvalidList q_InvalidList : Str} {N_InvalidList : Addr} {bs_InvalidList bm_InvalidList : List Value} {sn_InvalidList : List Str} {su_InvalidList : List Value} {ab_InvalidList : Bool} {co_InvalidList : Option Bool} {dd_InvalidList : Option Addr} {x0_InvalidList x1_InvalidList x2_InvalidList x3_InvalidList x5_InvalidList : Option Value}
    {ot_InvalidList : Value} {od_InvalidList : Option Addr} {nt_InvalidList : Nat} {st_InvalidList : Array (Option Value)}
    {od_InvalidList_init an_InvalidList_init : Option Addr} {sl_InvalidList_init : Array (Option Value)} {oc_InvalidList_init kV_InvalidList_init dc_InvalidList_init pm_InvalidList_init cd_InvalidList_init ct_InvalidList_init : Value}
    {nm_InvalidPlace q_InvalidPlace : Str} {N_InvalidPlace : Addr} {bs_InvalidPlace bm_InvalidPlace : List Value} {sn_InvalidPlace : List Str} {su_InvalidPlace : List Value} {ab_InvalidPlace : Bool} {co_InvalidPlace : Option Bool} {dd_InvalidPlace : Option Addr} {x0_InvalidPlace x1_InvalidPlace x2_InvalidPlace x3_InvalidPlace x5_InvalidPlace : Option Value}
    {ot_InvalidPlace : Value} {od_InvalidPlace : Option Addr} {nt_InvalidPlace : Nat} {st_InvalidPlace : Array (Option Value)}
    {od_InvalidPlace_init an_InvalidPlace_init : Option Addr} {sl_InvalidPlace_init : Array (Option Value)} {oc_InvalidPlace_init kV_InvalidPlace_init dc_InvalidPlace_init pm_InvalidPlace_init cd_InvalidPlace_init ct_InvalidPlace_init : Value}
    {ot_Lets_init : Value} {oz_Lets_init : Option Addr} {nt_Lets_init : Nat} {st_Lets_init : Array (Option Value)}
    {od_Lets_init an_Lets_init : Option Addr} {sl_Lets_init : Array (Option Value)} {oc_Lets_init kV_Lets_init dc_Lets_init pm_Lets_init cd_Lets_init ct_Lets_init : Value}
    {od_Letssettle an_Letssettle : Option Addr} {sl_Letssettle : Array (Option Value)} {oc_Letssettle kV_Letssettle dc_Letssettle pm_Letssettle cd_Letssettle ct_Letssettle : Value}
    {od_Lets_numbers an_Lets_numbers : Option Addr} {sl_Lets_numbers : Array (Option Value)} {oc_Lets_numbers kV_Lets_numbers dc_Lets_numbers pm_Lets_numbers cd_Lets_numbers ct_Lets_numbers : Value}
    {od_Lets_start an_Lets_start : Option Addr} {sl_Lets_start : Array (Option Value)} {oc_Lets_start kV_Lets_start dc_Lets_start pm_Lets_start cd_Lets_start ct_Lets_start : Value}
    {od_Lets_contains an_Lets_contains : Option Addr} {sl_Lets_contains : Array (Option Value)} {oc_Lets_contains kV_Lets_contains dc_Lets_contains pm_Lets_contains cd_Lets_contains ct_Lets_contains : Value}
    {od_Lets_eq an_Lets_eq : Option Addr} {sl_Lets_eq : Array (Option Value)} {oc_Lets_eq kV_Lets_eq dc_Lets_eq pm_Lets_eq cd_Lets_eq ct_Lets_eq : Value}
    {tk_LONGEST : Tok}
    {tk_MOST_NUMBERS : Tok}
    {tk_GREATEST : Tok}
    (g_is_whole : PySem.W.nsIn K mainGlobals "is_whole" = some (some (.ref a_is_whole)))
    (l_is_whole : K.lookup a_is_whole = some ⟨oc_is_whole, od_is_whole, .func (PySem.W.fnOf "is_whole" "is_whole" (defArgs s_is_whole) (defBody s_is_whole) (defScope s_is_whole) .none kV_is_whole dc_is_whole pm_is_whole an_is_whole cd_is_whole ct_is_whole), sl_is_whole⟩)
    (c_is_whole : PySem.W.codeIn K cd_is_whole "is_whole" = true)
    (k_is_whole : PySem.W.keepIn K (.ref a_is_whole) = true)
    (g_is_count : PySem.W.nsIn K mainGlobals "is_count" = some (some (.ref a_is_count)))
    (l_is_count : K.lookup a_is_count = some ⟨oc_is_count, od_is_count, .func (PySem.W.fnOf "is_count" "is_count" (defArgs s_is_count) (defBody s_is_count) (defScope s_is_count) .none kV_is_count dc_is_count pm_is_count an_is_count cd_is_count ct_is_count), sl_is_count⟩)
    (c_is_count : PySem.W.codeIn K cd_is_count "is_count" = true)
    (k_is_count : PySem.W.keepIn K (.ref a_is_count) = true)
    (g_is_row : PySem.W.nsIn K mainGlobals "is_row" = some (some (.ref a_is_row)))
    (l_is_row : K.lookup a_is_row = some ⟨oc_is_row, od_is_row, .func (PySem.W.fnOf "is_row" "is_row" (defArgs s_is_row) (defBody s_is_row) (defScope s_is_row) .none kV_is_row dc_is_row pm_is_row an_is_row cd_is_row ct_is_row), sl_is_row⟩)
    (c_is_row : PySem.W.codeIn K cd_is_row "is_row" = true)
    (k_is_row : PySem.W.keepIn K (.ref a_is_row) = true)
    (g_is_order : PySem.W.nsIn K mainGlobals "is_order" = some (some (.ref a_is_order)))
    (l_is_order : K.lookup a_is_order = some ⟨oc_is_order, od_is_order, .func (PySem.W.fnOf "is_order" "is_order" (defArgs s_is_order) (defBody s_is_order) (defScope s_is_order) .none kV_is_order dc_is_order pm_is_order an_is_order cd_is_order ct_is_order), sl_is_order⟩)
    (c_is_order : PySem.W.codeIn K cd_is_order "is_order" = true)
    (k_is_order : PySem.W.keepIn K (.ref a_is_order) = true)
    (g_is_log : PySem.W.nsIn K mainGlobals "is_log" = some (some (.ref a_is_log)))
    (l_is_log : K.lookup a_is_log = some ⟨oc_is_log, od_is_log, .func (PySem.W.fnOf "is_log" "is_log" (defArgs s_is_log) (defBody s_is_log) (defScope s_is_log) .none kV_is_log dc_is_log pm_is_log an_is_log cd_is_log ct_is_log), sl_is_log⟩)
    (c_is_log : PySem.W.codeIn K cd_is_log "is_log" = true)
    (k_is_log : PySem.W.keepIn K (.ref a_is_log) = true)
    (g_need_order : PySem.W.nsIn K mainGlobals "need_order" = some (some (.ref a_need_order)))
    (l_need_order : K.lookup a_need_order = some ⟨oc_need_order, od_need_order, .func (PySem.W.fnOf "need_order" "need_order" (defArgs s_need_order) (defBody s_need_order) (defScope s_need_order) .none kV_need_order dc_need_order pm_need_order an_need_order cd_need_order ct_need_order), sl_need_order⟩)
    (c_need_order : PySem.W.codeIn K cd_need_order "need_order" = true)
    (k_need_order : PySem.W.keepIn K (.ref a_need_order) = true)
    (g_need_row : PySem.W.nsIn K mainGlobals "need_row" = some (some (.ref a_need_row)))
    (l_need_row : K.lookup a_need_row = some ⟨oc_need_row, od_need_row, .func (PySem.W.fnOf "need_row" "need_row" (defArgs s_need_row) (defBody s_need_row) (defScope s_need_row) .none kV_need_row dc_need_row pm_need_row an_need_row cd_need_row ct_need_row), sl_need_row⟩)
    (c_need_row : PySem.W.codeIn K cd_need_row "need_row" = true)
    (k_need_row : PySem.W.keepIn K (.ref a_need_row) = true)
    (g_log_of : PySem.W.nsIn K mainGlobals "log_of" = some (some (.ref a_log_of)))
    (l_log_of : K.lookup a_log_of = some ⟨oc_log_of, od_log_of, .func (PySem.W.fnOf "log_of" "log_of" (defArgs s_log_of) (defBody s_log_of) (defScope s_log_of) .none kV_log_of dc_log_of pm_log_of an_log_of cd_log_of ct_log_of), sl_log_of⟩)
    (c_log_of : PySem.W.codeIn K cd_log_of "log_of" = true)
    (k_log_of : PySem.W.keepIn K (.ref a_log_of) = true)
    (g_order_of : PySem.W.nsIn K mainGlobals "order_of" = some (some (.ref a_order_of)))
    (l_order_of : K.lookup a_order_of = some ⟨oc_order_of, od_order_of, .func (PySem.W.fnOf "order_of" "order_of" (defArgs s_order_of) (defBody s_order_of) (defScope s_order_of) .none kV_order_of dc_order_of pm_order_of an_order_of cd_order_of ct_order_of), sl_order_of⟩)
    (c_order_of : PySem.W.codeIn K cd_order_of "order_of" = true)
    (k_order_of : PySem.W.keepIn K (.ref a_order_of) = true)
    (g_left_count : PySem.W.nsIn K mainGlobals "left_count" = some (some (.ref a_left_count)))
    (l_left_count : K.lookup a_left_count = some ⟨oc_left_count, od_left_count, .func (PySem.W.fnOf "left_count" "left_count" (defArgs s_left_count) (defBody s_left_count) (defScope s_left_count) .none kV_left_count dc_left_count pm_left_count an_left_count cd_left_count ct_left_count), sl_left_count⟩)
    (c_left_count : PySem.W.codeIn K cd_left_count "left_count" = true)
    (k_left_count : PySem.W.keepIn K (.ref a_left_count) = true)
    (g_exchanged : PySem.W.nsIn K mainGlobals "exchanged" = some (some (.ref a_exchanged)))
    (l_exchanged : K.lookup a_exchanged = some ⟨oc_exchanged, od_exchanged, .func (PySem.W.fnOf "exchanged" "exchanged" (defArgs s_exchanged) (defBody s_exchanged) (defScope s_exchanged) .none kV_exchanged dc_exchanged pm_exchanged an_exchanged cd_exchanged ct_exchanged), sl_exchanged⟩)
    (c_exchanged : PySem.W.codeIn K cd_exchanged "exchanged" = true)
    (k_exchanged : PySem.W.keepIn K (.ref a_exchanged) = true)
    (g_may_be_told : PySem.W.nsIn K mainGlobals "_may_be_told" = some (some (.ref a_may_be_told)))
    (l_may_be_told : K.lookup a_may_be_told = some ⟨oc_may_be_told, od_may_be_told, .func (PySem.W.fnOf "_may_be_told" "_may_be_told" (defArgs s_may_be_told) (defBody s_may_be_told) (defScope s_may_be_told) .none kV_may_be_told dc_may_be_told pm_may_be_told an_may_be_told cd_may_be_told ct_may_be_told), sl_may_be_told⟩)
    (c_may_be_told : PySem.W.codeIn K cd_may_be_told "_may_be_told" = true)
    (k_may_be_told : PySem.W.keepIn K (.ref a_may_be_told) = true)
    (g_are_numbers : PySem.W.nsIn K mainGlobals "_are_numbers" = some (some (.ref a_are_numbers)))
    (l_are_numbers : K.lookup a_are_numbers = some ⟨oc_are_numbers, od_are_numbers, .func (PySem.W.fnOf "_are_numbers" "_are_numbers" (defArgs s_are_numbers) (defBody s_are_numbers) (defScope s_are_numbers) .none kV_are_numbers dc_are_numbers pm_are_numbers an_are_numbers cd_are_numbers ct_are_numbers), sl_are_numbers⟩)
    (c_are_numbers : PySem.W.codeIn K cd_are_numbers "_are_numbers" = true)
    (k_are_numbers : PySem.W.keepIn K (.ref a_are_numbers) = true)
    (g_need_lets : PySem.W.nsIn K mainGlobals "need_lets" = some (some (.ref a_need_lets)))
    (l_need_lets : K.lookup a_need_lets = some ⟨oc_need_lets, od_need_lets, .func (PySem.W.fnOf "need_lets" "need_lets" (defArgs s_need_lets) (defBody s_need_lets) (defScope s_need_lets) .none kV_need_lets dc_need_lets pm_need_lets an_need_lets cd_need_lets ct_need_lets), sl_need_lets⟩)
    (c_need_lets : PySem.W.codeIn K cd_need_lets "need_lets" = true)
    (k_need_lets : PySem.W.keepIn K (.ref a_need_lets) = true)
    (g_need_place : PySem.W.nsIn K mainGlobals "_need_place" = some (some (.ref a_need_place)))
    (l_need_place : K.lookup a_need_place = some ⟨oc_need_place, od_need_place, .func (PySem.W.fnOf "_need_place" "_need_place" (defArgs s_need_place) (defBody s_need_place) (defScope s_need_place) .none kV_need_place dc_need_place pm_need_place an_need_place cd_need_place ct_need_place), sl_need_place⟩)
    (c_need_place : PySem.W.codeIn K cd_need_place "_need_place" = true)
    (k_need_place : PySem.W.keepIn K (.ref a_need_place) = true)
    (g_order_done : PySem.W.nsIn K mainGlobals "order_done" = some (some (.ref a_order_done)))
    (l_order_done : K.lookup a_order_done = some ⟨oc_order_done, od_order_done, .func (PySem.W.fnOf "order_done" "order_done" (defArgs s_order_done) (defBody s_order_done) (defScope s_order_done) .none kV_order_done dc_order_done pm_order_done an_order_done cd_order_done ct_order_done), sl_order_done⟩)
    (c_order_done : PySem.W.codeIn K cd_order_done "order_done" = true)
    (k_order_done : PySem.W.keepIn K (.ref a_order_done) = true)
    (g_done : PySem.W.nsIn K mainGlobals "_done" = some (some (.ref a_done)))
    (l_done : K.lookup a_done = some ⟨oc_done, od_done, .func (PySem.W.fnOf "_done" "_done" (defArgs s_done) (defBody s_done) (defScope s_done) .none kV_done dc_done pm_done an_done cd_done ct_done), sl_done⟩)
    (c_done : PySem.W.codeIn K cd_done "_done" = true)
    (k_done : PySem.W.keepIn K (.ref a_done) = true)
    (g_row_done : PySem.W.nsIn K mainGlobals "row_done" = some (some (.ref a_row_done)))
    (l_row_done : K.lookup a_row_done = some ⟨oc_row_done, od_row_done, .func (PySem.W.fnOf "row_done" "row_done" (defArgs s_row_done) (defBody s_row_done) (defScope s_row_done) .none kV_row_done dc_row_done pm_row_done an_row_done cd_row_done ct_row_done), sl_row_done⟩)
    (c_row_done : PySem.W.codeIn K cd_row_done "row_done" = true)
    (k_row_done : PySem.W.keepIn K (.ref a_row_done) = true)
    (g_open_places : PySem.W.nsIn K mainGlobals "open_places" = some (some (.ref a_open_places)))
    (l_open_places : K.lookup a_open_places = some ⟨oc_open_places, od_open_places, .func (PySem.W.fnOf "open_places" "open_places" (defArgs s_open_places) (defBody s_open_places) (defScope s_open_places) .none kV_open_places dc_open_places pm_open_places an_open_places cd_open_places ct_open_places), sl_open_places⟩)
    (c_open_places : PySem.W.codeIn K cd_open_places "open_places" = true)
    (k_open_places : PySem.W.keepIn K (.ref a_open_places) = true)
    (g_l_hash : PySem.W.nsIn K mainGlobals "_law_hash" = some (some (.ref a_l_hash)))
    (l_l_hash : K.lookup a_l_hash = some ⟨oc_l_hash, od_l_hash, .func (PySem.W.fnOf "_law_hash" "_law_hash" (defArgs s_l_hash) (defBody s_l_hash) (defScope s_l_hash) .none kV_l_hash dc_l_hash pm_l_hash an_l_hash cd_l_hash ct_l_hash), sl_l_hash⟩)
    (c_l_hash : PySem.W.codeIn K cd_l_hash "_law_hash" = true)
    (k_l_hash : PySem.W.keepIn K (.ref a_l_hash) = true)
    (g_l_random : PySem.W.nsIn K mainGlobals "_law_random" = some (some (.ref a_l_random)))
    (l_l_random : K.lookup a_l_random = some ⟨oc_l_random, od_l_random, .func (PySem.W.fnOf "_law_random" "_law_random" (defArgs s_l_random) (defBody s_l_random) (defScope s_l_random) .none kV_l_random dc_l_random pm_l_random an_l_random cd_l_random ct_l_random), sl_l_random⟩)
    (c_l_random : PySem.W.codeIn K cd_l_random "_law_random" = true)
    (k_l_random : PySem.W.keepIn K (.ref a_l_random) = true)
    (g_l_cell : PySem.W.nsIn K mainGlobals "_law_cell" = some (some (.ref a_l_cell)))
    (l_l_cell : K.lookup a_l_cell = some ⟨oc_l_cell, od_l_cell, .func (PySem.W.fnOf "_law_cell" "_law_cell" (defArgs s_l_cell) (defBody s_l_cell) (defScope s_l_cell) .none kV_l_cell dc_l_cell pm_l_cell an_l_cell cd_l_cell ct_l_cell), sl_l_cell⟩)
    (c_l_cell : PySem.W.codeIn K cd_l_cell "_law_cell" = true)
    (k_l_cell : PySem.W.keepIn K (.ref a_l_cell) = true)
    (g_l_generator : PySem.W.nsIn K mainGlobals "_law_generator" = some (some (.ref a_l_generator)))
    (l_l_generator : K.lookup a_l_generator = some ⟨oc_l_generator, od_l_generator, .func (PySem.W.fnOf "_law_generator" "_law_generator" (defArgs s_l_generator) (defBody s_l_generator) (defScope s_l_generator) .none kV_l_generator dc_l_generator pm_l_generator an_l_generator cd_l_generator ct_l_generator), sl_l_generator⟩)
    (c_l_generator : PySem.W.codeIn K cd_l_generator "_law_generator" = true)
    (k_l_generator : PySem.W.keepIn K (.ref a_l_generator) = true)
    (g_l_order : PySem.W.nsIn K mainGlobals "_law_order" = some (some (.ref a_l_order)))
    (l_l_order : K.lookup a_l_order = some ⟨oc_l_order, od_l_order, .func (PySem.W.fnOf "_law_order" "_law_order" (defArgs s_l_order) (defBody s_l_order) (defScope s_l_order) .none kV_l_order dc_l_order pm_l_order an_l_order cd_l_order ct_l_order), sl_l_order⟩)
    (c_l_order : PySem.W.codeIn K cd_l_order "_law_order" = true)
    (k_l_order : PySem.W.keepIn K (.ref a_l_order) = true)
    (g_l_log : PySem.W.nsIn K mainGlobals "_law_log" = some (some (.ref a_l_log)))
    (l_l_log : K.lookup a_l_log = some ⟨oc_l_log, od_l_log, .func (PySem.W.fnOf "_law_log" "_law_log" (defArgs s_l_log) (defBody s_l_log) (defScope s_l_log) .none kV_l_log dc_l_log pm_l_log an_l_log cd_l_log ct_l_log), sl_l_log⟩)
    (c_l_log : PySem.W.codeIn K cd_l_log "_law_log" = true)
    (k_l_log : PySem.W.keepIn K (.ref a_l_log) = true)
    (g_l_drawn_log : PySem.W.nsIn K mainGlobals "_law_drawn_log" = some (some (.ref a_l_drawn_log)))
    (l_l_drawn_log : K.lookup a_l_drawn_log = some ⟨oc_l_drawn_log, od_l_drawn_log, .func (PySem.W.fnOf "_law_drawn_log" "_law_drawn_log" (defArgs s_l_drawn_log) (defBody s_l_drawn_log) (defScope s_l_drawn_log) .none kV_l_drawn_log dc_l_drawn_log pm_l_drawn_log an_l_drawn_log cd_l_drawn_log ct_l_drawn_log), sl_l_drawn_log⟩)
    (c_l_drawn_log : PySem.W.codeIn K cd_l_drawn_log "_law_drawn_log" = true)
    (k_l_drawn_log : PySem.W.keepIn K (.ref a_l_drawn_log) = true)
    (g_l_menu : PySem.W.nsIn K mainGlobals "_law_menu" = some (some (.ref a_l_menu)))
    (l_l_menu : K.lookup a_l_menu = some ⟨oc_l_menu, od_l_menu, .func (PySem.W.fnOf "_law_menu" "_law_menu" (defArgs s_l_menu) (defBody s_l_menu) (defScope s_l_menu) .none kV_l_menu dc_l_menu pm_l_menu an_l_menu cd_l_menu ct_l_menu), sl_l_menu⟩)
    (c_l_menu : PySem.W.codeIn K cd_l_menu "_law_menu" = true)
    (k_l_menu : PySem.W.keepIn K (.ref a_l_menu) = true)
    (g_l_let : PySem.W.nsIn K mainGlobals "_law_let" = some (some (.ref a_l_let)))
    (l_l_let : K.lookup a_l_let = some ⟨oc_l_let, od_l_let, .func (PySem.W.fnOf "_law_let" "_law_let" (defArgs s_l_let) (defBody s_l_let) (defScope s_l_let) .none kV_l_let dc_l_let pm_l_let an_l_let cd_l_let ct_l_let), sl_l_let⟩)
    (c_l_let : PySem.W.codeIn K cd_l_let "_law_let" = true)
    (k_l_let : PySem.W.keepIn K (.ref a_l_let) = true)
    (g_l_pair : PySem.W.nsIn K mainGlobals "_law_pair" = some (some (.ref a_l_pair)))
    (l_l_pair : K.lookup a_l_pair = some ⟨oc_l_pair, od_l_pair, .func (PySem.W.fnOf "_law_pair" "_law_pair" (defArgs s_l_pair) (defBody s_l_pair) (defScope s_l_pair) .none kV_l_pair dc_l_pair pm_l_pair an_l_pair cd_l_pair ct_l_pair), sl_l_pair⟩)
    (c_l_pair : PySem.W.codeIn K cd_l_pair "_law_pair" = true)
    (k_l_pair : PySem.W.keepIn K (.ref a_l_pair) = true)
    (g_l_near : PySem.W.nsIn K mainGlobals "_law_near" = some (some (.ref a_l_near)))
    (l_l_near : K.lookup a_l_near = some ⟨oc_l_near, od_l_near, .func (PySem.W.fnOf "_law_near" "_law_near" (defArgs s_l_near) (defBody s_l_near) (defScope s_l_near) .none kV_l_near dc_l_near pm_l_near an_l_near cd_l_near ct_l_near), sl_l_near⟩)
    (c_l_near : PySem.W.codeIn K cd_l_near "_law_near" = true)
    (k_l_near : PySem.W.keepIn K (.ref a_l_near) = true)
    (g_l_lets : PySem.W.nsIn K mainGlobals "_law_lets" = some (some (.ref a_l_lets)))
    (l_l_lets : K.lookup a_l_lets = some ⟨oc_l_lets, od_l_lets, .func (PySem.W.fnOf "_law_lets" "_law_lets" (defArgs s_l_lets) (defBody s_l_lets) (defScope s_l_lets) .none kV_l_lets dc_l_lets pm_l_lets an_l_lets cd_l_lets ct_l_lets), sl_l_lets⟩)
    (c_l_lets : PySem.W.codeIn K cd_l_lets "_law_lets" = true)
    (k_l_lets : PySem.W.keepIn K (.ref a_l_lets) = true)
    (g_l_left : PySem.W.nsIn K mainGlobals "_law_left" = some (some (.ref a_l_left)))
    (l_l_left : K.lookup a_l_left = some ⟨oc_l_left, od_l_left, .func (PySem.W.fnOf "_law_left" "_law_left" (defArgs s_l_left) (defBody s_l_left) (defScope s_l_left) .none kV_l_left dc_l_left pm_l_left an_l_left cd_l_left ct_l_left), sl_l_left⟩)
    (c_l_left : PySem.W.codeIn K cd_l_left "_law_left" = true)
    (k_l_left : PySem.W.keepIn K (.ref a_l_left) = true)
    (g_l_caught : PySem.W.nsIn K mainGlobals "_law_caught" = some (some (.ref a_l_caught)))
    (l_l_caught : K.lookup a_l_caught = some ⟨oc_l_caught, od_l_caught, .func (PySem.W.fnOf "_law_caught" "_law_caught" (defArgs s_l_caught) (defBody s_l_caught) (defScope s_l_caught) .none kV_l_caught dc_l_caught pm_l_caught an_l_caught cd_l_caught ct_l_caught), sl_l_caught⟩)
    (c_l_caught : PySem.W.codeIn K cd_l_caught "_law_caught" = true)
    (k_l_caught : PySem.W.keepIn K (.ref a_l_caught) = true)
    (g_l_only : PySem.W.nsIn K mainGlobals "_law_only" = some (some (.ref a_l_only)))
    (l_l_only : K.lookup a_l_only = some ⟨oc_l_only, od_l_only, .func (PySem.W.fnOf "_law_only" "_law_only" (defArgs s_l_only) (defBody s_l_only) (defScope s_l_only) .none kV_l_only dc_l_only pm_l_only an_l_only cd_l_only ct_l_only), sl_l_only⟩)
    (c_l_only : PySem.W.codeIn K cd_l_only "_law_only" = true)
    (k_l_only : PySem.W.keepIn K (.ref a_l_only) = true)
    (g_l_row_right : PySem.W.nsIn K mainGlobals "_law_row_right" = some (some (.ref a_l_row_right)))
    (l_l_row_right : K.lookup a_l_row_right = some ⟨oc_l_row_right, od_l_row_right, .func (PySem.W.fnOf "_law_row_right" "_law_row_right" (defArgs s_l_row_right) (defBody s_l_row_right) (defScope s_l_row_right) .none kV_l_row_right dc_l_row_right pm_l_row_right an_l_row_right cd_l_row_right ct_l_row_right), sl_l_row_right⟩)
    (c_l_row_right : PySem.W.codeIn K cd_l_row_right "_law_row_right" = true)
    (k_l_row_right : PySem.W.keepIn K (.ref a_l_row_right) = true)
    (g_l_order_right : PySem.W.nsIn K mainGlobals "_law_order_right" = some (some (.ref a_l_order_right)))
    (l_l_order_right : K.lookup a_l_order_right = some ⟨oc_l_order_right, od_l_order_right, .func (PySem.W.fnOf "_law_order_right" "_law_order_right" (defArgs s_l_order_right) (defBody s_l_order_right) (defScope s_l_order_right) .none kV_l_order_right dc_l_order_right pm_l_order_right an_l_order_right cd_l_order_right ct_l_order_right), sl_l_order_right⟩)
    (c_l_order_right : PySem.W.codeIn K cd_l_order_right "_law_order_right" = true)
    (k_l_order_right : PySem.W.keepIn K (.ref a_l_order_right) = true)
    (g_l_refused : PySem.W.nsIn K mainGlobals "_law_refused" = some (some (.ref a_l_refused)))
    (l_l_refused : K.lookup a_l_refused = some ⟨oc_l_refused, od_l_refused, .func (PySem.W.fnOf "_law_refused" "_law_refused" (defArgs s_l_refused) (defBody s_l_refused) (defScope s_l_refused) .none kV_l_refused dc_l_refused pm_l_refused an_l_refused cd_l_refused ct_l_refused), sl_l_refused⟩)
    (c_l_refused : PySem.W.codeIn K cd_l_refused "_law_refused" = true)
    (k_l_refused : PySem.W.keepIn K (.ref a_l_refused) = true)
    (g_law : PySem.W.nsIn K mainGlobals "law" = some (some (.ref a_law)))
    (l_law : K.lookup a_law = some ⟨oc_law, od_law, .func (PySem.W.fnOf "law" "law" (defArgs s_law) (defBody s_law) (defScope s_law) .none kV_law dc_law pm_law an_law cd_law ct_law), sl_law⟩)
    (c_law : PySem.W.codeIn K cd_law "law" = true)
    (k_law : PySem.W.keepIn K (.ref a_law) = true)
    (g_GapError : PySem.W.nsIn K mainGlobals "GapError" = some (some (.ref a_GapError)))
    (g_InvalidNumber : PySem.W.nsIn K mainGlobals "InvalidNumber" = some (some (.ref a_InvalidNumber)))
    (g_InvalidOrder : PySem.W.nsIn K mainGlobals "InvalidOrder" = some (some (.ref a_InvalidOrder)))
    (g_InvalidRow : PySem.W.nsIn K mainGlobals "InvalidRow" = some (some (.ref a_InvalidRow)))
    (g_InvalidLets : PySem.W.nsIn K mainGlobals "InvalidLets" = some (some (.ref a_InvalidLets)))
    (g_InvalidList : PySem.W.nsIn K mainGlobals "InvalidList" = some (some (.ref a_InvalidList)))
    (g_InvalidPlace : PySem.W.nsIn K mainGlobals "InvalidPlace" = some (some (.ref a_InvalidPlace)))
    (g_Lets : PySem.W.nsIn K mainGlobals "Lets" = some (some (.ref a_Lets)))
    (eb_GapError : PySem.W.subIn K (.ref a_GapError) (.type "BaseException") = some true)
    (ty_GapError : PySem.W.typeIn K (.ref a_GapError) = some (.type "type"))
    (ic_GapError : PySem.W.isClsIn K a_GapError = true)
    (eb_InvalidNumber : PySem.W.subIn K (.ref a_InvalidNumber) (.type "BaseException") = some true)
    (ty_InvalidNumber : PySem.W.typeIn K (.ref a_InvalidNumber) = some (.type "type"))
    (ic_InvalidNumber : PySem.W.isClsIn K a_InvalidNumber = true)
    (eb_InvalidOrder : PySem.W.subIn K (.ref a_InvalidOrder) (.type "BaseException") = some true)
    (ty_InvalidOrder : PySem.W.typeIn K (.ref a_InvalidOrder) = some (.type "type"))
    (ic_InvalidOrder : PySem.W.isClsIn K a_InvalidOrder = true)
    (eb_InvalidRow : PySem.W.subIn K (.ref a_InvalidRow) (.type "BaseException") = some true)
    (ty_InvalidRow : PySem.W.typeIn K (.ref a_InvalidRow) = some (.type "type"))
    (ic_InvalidRow : PySem.W.isClsIn K a_InvalidRow = true)
    (eb_InvalidLets : PySem.W.subIn K (.ref a_InvalidLets) (.type "BaseException") = some true)
    (ty_InvalidLets : PySem.W.typeIn K (.ref a_InvalidLets) = some (.type "type"))
    (ic_InvalidLets : PySem.W.isClsIn K a_InvalidLets = true)
    (eb_InvalidList : PySem.W.subIn K (.ref a_InvalidList) (.type "BaseException") = some true)
    (ty_InvalidList : PySem.W.typeIn K (.ref a_InvalidList) = some (.type "type"))
    (ic_InvalidList : PySem.W.isClsIn K a_InvalidList = true)
    (eb_InvalidPlace : PySem.W.subIn K (.ref a_InvalidPlace) (.type "BaseException") = some true)
    (ty_InvalidPlace : PySem.W.typeIn K (.ref a_InvalidPlace) = some (.type "type"))
    (ic_InvalidPlace : PySem.W.isClsIn K a_InvalidPlace = true)
    (ty_Lets : PySem.W.typeIn K (.ref a_Lets) = some (.type "type"))
    (ic_Lets : PySem.W.isClsIn K a_Lets = true)
    (xl_InvalidNumber : K.lookup a_InvalidNumber = some (excClassObj nm_InvalidNumber q_InvalidNumber a_InvalidNumber N_InvalidNumber bs_InvalidNumber bm_InvalidNumber true sn_InvalidNumber su_InvalidNumber ab_InvalidNumber co_InvalidNumber dd_InvalidNumber x0_InvalidNumber x1_InvalidNumber x2_InvalidNumber x3_InvalidNumber x5_InvalidNumber "ValueError.__new__"))
    (xb_InvalidNumber : PySem.HandSPX.refsVE bm_InvalidNumber = true)
    (sa_InvalidNumber : PySem.W.findIn K (.ref a_InvalidNumber) "__setattr__" = some (some (.builtin "object.__setattr__")))
    (kc_InvalidNumber : PySem.W.keepIn K (.ref a_InvalidNumber) = true)
    (ga_InvalidNumber : PySem.W.findIn K (.ref a_InvalidNumber) "__getattribute__" = some (some (.builtin "BaseException.__getattribute__")))
    (gg_InvalidNumber : PySem.W.findIn K (.ref a_InvalidNumber) "__getattr__" = some none)
    (hd_InvalidNumber : PySem.W.hasDictIn K a_InvalidNumber = true)
    (ca_InvalidNumber : PySem.W.findIn K (.ref a_InvalidNumber) "__class__" = some (some (.builtin "object.__class__")))
    (mo_InvalidNumber : PySem.W.mroIn K a_InvalidNumber (.type "object") = some true)
    (nv_InvalidNumber : PySem.W.findIn K (.ref a_InvalidNumber) "value" = some none)
    (i_InvalidNumber : PySem.W.findIn K (.ref a_InvalidNumber) "__init__" = some (some (.ref ai_InvalidNumber)))
    (t_InvalidNumber : PySem.W.typeIn K (.ref ai_InvalidNumber) = some (.type "function"))
    (l_InvalidNumber_init : K.lookup ai_InvalidNumber = some ⟨oc_InvalidNumber_init, od_InvalidNumber_init, .func (PySem.W.fnOf "__init__" "InvalidNumber.__init__" (defArgs s_InvalidNumber_init) (defBody s_InvalidNumber_init) (defScope s_InvalidNumber_init) (.ref td_InvalidNumber) kV_InvalidNumber_init dc_InvalidNumber_init pm_InvalidNumber_init an_InvalidNumber_init cd_InvalidNumber_init ct_InvalidNumber_init), sl_InvalidNumber_init⟩)
    (c_InvalidNumber_init : PySem.W.codeIn K cd_InvalidNumber_init "InvalidNumber.__init__" = true)
    (ld_InvalidNumber : K.lookup td_InvalidNumber = some ⟨ot_InvalidNumber, od_InvalidNumber, .seq #[.none] nt_InvalidNumber, st_InvalidNumber⟩)
    (s_InvalidNumber_GapError : PySem.W.subIn K (.ref a_InvalidNumber) (.ref a_GapError) = some true)
    (n_InvalidNumber_InvalidOrder : PySem.W.subIn K (.ref a_InvalidNumber) (.ref a_InvalidOrder) = some false)
    (e_InvalidNumber_InvalidOrder : ((Value.ref a_InvalidNumber == Value.ref a_InvalidOrder) = false))
    (n_InvalidNumber_InvalidRow : PySem.W.subIn K (.ref a_InvalidNumber) (.ref a_InvalidRow) = some false)
    (e_InvalidNumber_InvalidRow : ((Value.ref a_InvalidNumber == Value.ref a_InvalidRow) = false))
    (n_InvalidNumber_InvalidLets : PySem.W.subIn K (.ref a_InvalidNumber) (.ref a_InvalidLets) = some false)
    (e_InvalidNumber_InvalidLets : ((Value.ref a_InvalidNumber == Value.ref a_InvalidLets) = false))
    (n_InvalidNumber_InvalidList : PySem.W.subIn K (.ref a_InvalidNumber) (.ref a_InvalidList) = some false)
    (e_InvalidNumber_InvalidList : ((Value.ref a_InvalidNumber == Value.ref a_InvalidList) = false))
    (n_InvalidNumber_InvalidPlace : PySem.W.subIn K (.ref a_InvalidNumber) (.ref a_InvalidPlace) = some false)
    (e_InvalidNumber_InvalidPlace : ((Value.ref a_InvalidNumber == Value.ref a_InvalidPlace) = false))
    (nn_InvalidNumber : PySem.W.subIn K (.type "NoneType") (.ref a_InvalidNumber) = some false)
    (xl_InvalidOrder : K.lookup a_InvalidOrder = some (excClassObj nm_InvalidOrder q_InvalidOrder a_InvalidOrder N_InvalidOrder bs_InvalidOrder bm_InvalidOrder true sn_InvalidOrder su_InvalidOrder ab_InvalidOrder co_InvalidOrder dd_InvalidOrder x0_InvalidOrder x1_InvalidOrder x2_InvalidOrder x3_InvalidOrder x5_InvalidOrder "ValueError.__new__"))
    (xb_InvalidOrder : PySem.HandSPX.refsVE bm_InvalidOrder = true)
    (sa_InvalidOrder : PySem.W.findIn K (.ref a_InvalidOrder) "__setattr__" = some (some (.builtin "object.__setattr__")))
    (kc_InvalidOrder : PySem.W.keepIn K (.ref a_InvalidOrder) = true)
    (ga_InvalidOrder : PySem.W.findIn K (.ref a_InvalidOrder) "__getattribute__" = some (some (.builtin "BaseException.__getattribute__")))
    (gg_InvalidOrder : PySem.W.findIn K (.ref a_InvalidOrder) "__getattr__" = some none)
    (hd_InvalidOrder : PySem.W.hasDictIn K a_InvalidOrder = true)
    (ca_InvalidOrder : PySem.W.findIn K (.ref a_InvalidOrder) "__class__" = some (some (.builtin "object.__class__")))
    (mo_InvalidOrder : PySem.W.mroIn K a_InvalidOrder (.type "object") = some true)
    (nv_InvalidOrder : PySem.W.findIn K (.ref a_InvalidOrder) "value" = some none)
    (i_InvalidOrder : PySem.W.findIn K (.ref a_InvalidOrder) "__init__" = some (some (.ref ai_InvalidOrder)))
    (t_InvalidOrder : PySem.W.typeIn K (.ref ai_InvalidOrder) = some (.type "function"))
    (l_InvalidOrder_init : K.lookup ai_InvalidOrder = some ⟨oc_InvalidOrder_init, od_InvalidOrder_init, .func (PySem.W.fnOf "__init__" "InvalidOrder.__init__" (defArgs s_InvalidOrder_init) (defBody s_InvalidOrder_init) (defScope s_InvalidOrder_init) (.ref td_InvalidOrder) kV_InvalidOrder_init dc_InvalidOrder_init pm_InvalidOrder_init an_InvalidOrder_init cd_InvalidOrder_init ct_InvalidOrder_init), sl_InvalidOrder_init⟩)
    (c_InvalidOrder_init : PySem.W.codeIn K cd_InvalidOrder_init "InvalidOrder.__init__" = true)
    (ld_InvalidOrder : K.lookup td_InvalidOrder = some ⟨ot_InvalidOrder, od_InvalidOrder, .seq #[.none] nt_InvalidOrder, st_InvalidOrder⟩)
    (s_InvalidOrder_GapError : PySem.W.subIn K (.ref a_InvalidOrder) (.ref a_GapError) = some true)
    (n_InvalidOrder_InvalidNumber : PySem.W.subIn K (.ref a_InvalidOrder) (.ref a_InvalidNumber) = some false)
    (e_InvalidOrder_InvalidNumber : ((Value.ref a_InvalidOrder == Value.ref a_InvalidNumber) = false))
    (n_InvalidOrder_InvalidRow : PySem.W.subIn K (.ref a_InvalidOrder) (.ref a_InvalidRow) = some false)
    (e_InvalidOrder_InvalidRow : ((Value.ref a_InvalidOrder == Value.ref a_InvalidRow) = false))
    (n_InvalidOrder_InvalidLets : PySem.W.subIn K (.ref a_InvalidOrder) (.ref a_InvalidLets) = some false)
    (e_InvalidOrder_InvalidLets : ((Value.ref a_InvalidOrder == Value.ref a_InvalidLets) = false))
    (n_InvalidOrder_InvalidList : PySem.W.subIn K (.ref a_InvalidOrder) (.ref a_InvalidList) = some false)
    (e_InvalidOrder_InvalidList : ((Value.ref a_InvalidOrder == Value.ref a_InvalidList) = false))
    (n_InvalidOrder_InvalidPlace : PySem.W.subIn K (.ref a_InvalidOrder) (.ref a_InvalidPlace) = some false)
    (e_InvalidOrder_InvalidPlace : ((Value.ref a_InvalidOrder == Value.ref a_InvalidPlace) = false))
    (nn_InvalidOrder : PySem.W.subIn K (.type "NoneType") (.ref a_InvalidOrder) = some false)
    (xl_InvalidRow : K.lookup a_InvalidRow = some (excClassObj nm_InvalidRow q_InvalidRow a_InvalidRow N_InvalidRow bs_InvalidRow bm_InvalidRow true sn_InvalidRow su_InvalidRow ab_InvalidRow co_InvalidRow dd_InvalidRow x0_InvalidRow x1_InvalidRow x2_InvalidRow x3_InvalidRow x5_InvalidRow "ValueError.__new__"))
    (xb_InvalidRow : PySem.HandSPX.refsVE bm_InvalidRow = true)
    (sa_InvalidRow : PySem.W.findIn K (.ref a_InvalidRow) "__setattr__" = some (some (.builtin "object.__setattr__")))
    (kc_InvalidRow : PySem.W.keepIn K (.ref a_InvalidRow) = true)
    (ga_InvalidRow : PySem.W.findIn K (.ref a_InvalidRow) "__getattribute__" = some (some (.builtin "BaseException.__getattribute__")))
    (gg_InvalidRow : PySem.W.findIn K (.ref a_InvalidRow) "__getattr__" = some none)
    (hd_InvalidRow : PySem.W.hasDictIn K a_InvalidRow = true)
    (ca_InvalidRow : PySem.W.findIn K (.ref a_InvalidRow) "__class__" = some (some (.builtin "object.__class__")))
    (mo_InvalidRow : PySem.W.mroIn K a_InvalidRow (.type "object") = some true)
    (nv_InvalidRow : PySem.W.findIn K (.ref a_InvalidRow) "value" = some none)
    (i_InvalidRow : PySem.W.findIn K (.ref a_InvalidRow) "__init__" = some (some (.ref ai_InvalidRow)))
    (t_InvalidRow : PySem.W.typeIn K (.ref ai_InvalidRow) = some (.type "function"))
    (l_InvalidRow_init : K.lookup ai_InvalidRow = some ⟨oc_InvalidRow_init, od_InvalidRow_init, .func (PySem.W.fnOf "__init__" "InvalidRow.__init__" (defArgs s_InvalidRow_init) (defBody s_InvalidRow_init) (defScope s_InvalidRow_init) (.ref td_InvalidRow) kV_InvalidRow_init dc_InvalidRow_init pm_InvalidRow_init an_InvalidRow_init cd_InvalidRow_init ct_InvalidRow_init), sl_InvalidRow_init⟩)
    (c_InvalidRow_init : PySem.W.codeIn K cd_InvalidRow_init "InvalidRow.__init__" = true)
    (ld_InvalidRow : K.lookup td_InvalidRow = some ⟨ot_InvalidRow, od_InvalidRow, .seq #[.none] nt_InvalidRow, st_InvalidRow⟩)
    (s_InvalidRow_GapError : PySem.W.subIn K (.ref a_InvalidRow) (.ref a_GapError) = some true)
    (n_InvalidRow_InvalidNumber : PySem.W.subIn K (.ref a_InvalidRow) (.ref a_InvalidNumber) = some false)
    (e_InvalidRow_InvalidNumber : ((Value.ref a_InvalidRow == Value.ref a_InvalidNumber) = false))
    (n_InvalidRow_InvalidOrder : PySem.W.subIn K (.ref a_InvalidRow) (.ref a_InvalidOrder) = some false)
    (e_InvalidRow_InvalidOrder : ((Value.ref a_InvalidRow == Value.ref a_InvalidOrder) = false))
    (n_InvalidRow_InvalidLets : PySem.W.subIn K (.ref a_InvalidRow) (.ref a_InvalidLets) = some false)
    (e_InvalidRow_InvalidLets : ((Value.ref a_InvalidRow == Value.ref a_InvalidLets) = false))
    (n_InvalidRow_InvalidList : PySem.W.subIn K (.ref a_InvalidRow) (.ref a_InvalidList) = some false)
    (e_InvalidRow_InvalidList : ((Value.ref a_InvalidRow == Value.ref a_InvalidList) = false))
    (n_InvalidRow_InvalidPlace : PySem.W.subIn K (.ref a_InvalidRow) (.ref a_InvalidPlace) = some false)
    (e_InvalidRow_InvalidPlace : ((Value.ref a_InvalidRow == Value.ref a_InvalidPlace) = false))
    (nn_InvalidRow : PySem.W.subIn K (.type "NoneType") (.ref a_InvalidRow) = some false)
    (xl_InvalidLets : K.lookup a_InvalidLets = some (excClassObj nm_InvalidLets q_InvalidLets a_InvalidLets N_InvalidLets bs_InvalidLets bm_InvalidLets true sn_InvalidLets su_InvalidLets ab_InvalidLets co_InvalidLets dd_InvalidLets x0_InvalidLets x1_InvalidLets x2_InvalidLets x3_InvalidLets x5_InvalidLets "ValueError.__new__"))
    (xb_InvalidLets : PySem.HandSPX.refsVE bm_InvalidLets = true)
    (sa_InvalidLets : PySem.W.findIn K (.ref a_InvalidLets) "__setattr__" = some (some (.builtin "object.__setattr__")))
    (kc_InvalidLets : PySem.W.keepIn K (.ref a_InvalidLets) = true)
    (ga_InvalidLets : PySem.W.findIn K (.ref a_InvalidLets) "__getattribute__" = some (some (.builtin "BaseException.__getattribute__")))
    (gg_InvalidLets : PySem.W.findIn K (.ref a_InvalidLets) "__getattr__" = some none)
    (hd_InvalidLets : PySem.W.hasDictIn K a_InvalidLets = true)
    (ca_InvalidLets : PySem.W.findIn K (.ref a_InvalidLets) "__class__" = some (some (.builtin "object.__class__")))
    (mo_InvalidLets : PySem.W.mroIn K a_InvalidLets (.type "object") = some true)
    (nv_InvalidLets : PySem.W.findIn K (.ref a_InvalidLets) "value" = some none)
    (i_InvalidLets : PySem.W.findIn K (.ref a_InvalidLets) "__init__" = some (some (.ref ai_InvalidLets)))
    (t_InvalidLets : PySem.W.typeIn K (.ref ai_InvalidLets) = some (.type "function"))
    (l_InvalidLets_init : K.lookup ai_InvalidLets = some ⟨oc_InvalidLets_init, od_InvalidLets_init, .func (PySem.W.fnOf "__init__" "InvalidLets.__init__" (defArgs s_InvalidLets_init) (defBody s_InvalidLets_init) (defScope s_InvalidLets_init) (.ref td_InvalidLets) kV_InvalidLets_init dc_InvalidLets_init pm_InvalidLets_init an_InvalidLets_init cd_InvalidLets_init ct_InvalidLets_init), sl_InvalidLets_init⟩)
    (c_InvalidLets_init : PySem.W.codeIn K cd_InvalidLets_init "InvalidLets.__init__" = true)
    (ld_InvalidLets : K.lookup td_InvalidLets = some ⟨ot_InvalidLets, od_InvalidLets, .seq #[.none] nt_InvalidLets, st_InvalidLets⟩)
    (s_InvalidLets_GapError : PySem.W.subIn K (.ref a_InvalidLets) (.ref a_GapError) = some true)
    (n_InvalidLets_InvalidNumber : PySem.W.subIn K (.ref a_InvalidLets) (.ref a_InvalidNumber) = some false)
    (e_InvalidLets_InvalidNumber : ((Value.ref a_InvalidLets == Value.ref a_InvalidNumber) = false))
    (n_InvalidLets_InvalidOrder : PySem.W.subIn K (.ref a_InvalidLets) (.ref a_InvalidOrder) = some false)
    (e_InvalidLets_InvalidOrder : ((Value.ref a_InvalidLets == Value.ref a_InvalidOrder) = false))
    (n_InvalidLets_InvalidRow : PySem.W.subIn K (.ref a_InvalidLets) (.ref a_InvalidRow) = some false)
    (e_InvalidLets_InvalidRow : ((Value.ref a_InvalidLets == Value.ref a_InvalidRow) = false))
    (n_InvalidLets_InvalidList : PySem.W.subIn K (.ref a_InvalidLets) (.ref a_InvalidList) = some false)
    (e_InvalidLets_InvalidList : ((Value.ref a_InvalidLets == Value.ref a_InvalidList) = false))
    (n_InvalidLets_InvalidPlace : PySem.W.subIn K (.ref a_InvalidLets) (.ref a_InvalidPlace) = some false)
    (e_InvalidLets_InvalidPlace : ((Value.ref a_InvalidLets == Value.ref a_InvalidPlace) = false))
    (nn_InvalidLets : PySem.W.subIn K (.type "NoneType") (.ref a_InvalidLets) = some false)
    (xl_InvalidList : K.lookup a_InvalidList = some (excClassObj nm_InvalidList q_InvalidList a_InvalidList N_InvalidList bs_InvalidList bm_InvalidList true sn_InvalidList su_InvalidList ab_InvalidList co_InvalidList dd_InvalidList x0_InvalidList x1_InvalidList x2_InvalidList x3_InvalidList x5_InvalidList "ValueError.__new__"))
    (xb_InvalidList : PySem.HandSPX.refsVE bm_InvalidList = true)
    (sa_InvalidList : PySem.W.findIn K (.ref a_InvalidList) "__setattr__" = some (some (.builtin "object.__setattr__")))
    (kc_InvalidList : PySem.W.keepIn K (.ref a_InvalidList) = true)
    (ga_InvalidList : PySem.W.findIn K (.ref a_InvalidList) "__getattribute__" = some (some (.builtin "BaseException.__getattribute__")))
    (gg_InvalidList : PySem.W.findIn K (.ref a_InvalidList) "__getattr__" = some none)
    (hd_InvalidList : PySem.W.hasDictIn K a_InvalidList = true)
    (ca_InvalidList : PySem.W.findIn K (.ref a_InvalidList) "__class__" = some (some (.builtin "object.__class__")))
    (mo_InvalidList : PySem.W.mroIn K a_InvalidList (.type "object") = some true)
    (nv_InvalidList : PySem.W.findIn K (.ref a_InvalidList) "value" = some none)
    (i_InvalidList : PySem.W.findIn K (.ref a_InvalidList) "__init__" = some (some (.ref ai_InvalidList)))
    (t_InvalidList : PySem.W.typeIn K (.ref ai_InvalidList) = some (.type "function"))
    (l_InvalidList_init : K.lookup ai_InvalidList = some ⟨oc_InvalidList_init, od_InvalidList_init, .func (PySem.W.fnOf "__init__" "InvalidList.__init__" (defArgs s_InvalidList_init) (defBody s_InvalidList_init) (defScope s_InvalidList_init) (.ref td_InvalidList) kV_InvalidList_init dc_InvalidList_init pm_InvalidList_init an_InvalidList_init cd_InvalidList_init ct_InvalidList_init), sl_InvalidList_init⟩)
    (c_InvalidList_init : PySem.W.codeIn K cd_InvalidList_init "InvalidList.__init__" = true)
    (ld_InvalidList : K.lookup td_InvalidList = some ⟨ot_InvalidList, od_InvalidList, .seq #[.none] nt_InvalidList, st_InvalidList⟩)
    (s_InvalidList_GapError : PySem.W.subIn K (.ref a_InvalidList) (.ref a_GapError) = some true)
    (n_InvalidList_InvalidNumber : PySem.W.subIn K (.ref a_InvalidList) (.ref a_InvalidNumber) = some false)
    (e_InvalidList_InvalidNumber : ((Value.ref a_InvalidList == Value.ref a_InvalidNumber) = false))
    (n_InvalidList_InvalidOrder : PySem.W.subIn K (.ref a_InvalidList) (.ref a_InvalidOrder) = some false)
    (e_InvalidList_InvalidOrder : ((Value.ref a_InvalidList == Value.ref a_InvalidOrder) = false))
    (n_InvalidList_InvalidRow : PySem.W.subIn K (.ref a_InvalidList) (.ref a_InvalidRow) = some false)
    (e_InvalidList_InvalidRow : ((Value.ref a_InvalidList == Value.ref a_InvalidRow) = false))
    (n_InvalidList_InvalidLets : PySem.W.subIn K (.ref a_InvalidList) (.ref a_InvalidLets) = some false)
    (e_InvalidList_InvalidLets : ((Value.ref a_InvalidList == Value.ref a_InvalidLets) = false))
    (n_InvalidList_InvalidPlace : PySem.W.subIn K (.ref a_InvalidList) (.ref a_InvalidPlace) = some false)
    (e_InvalidList_InvalidPlace : ((Value.ref a_InvalidList == Value.ref a_InvalidPlace) = false))
    (nn_InvalidList : PySem.W.subIn K (.type "NoneType") (.ref a_InvalidList) = some false)
    (xl_InvalidPlace : K.lookup a_InvalidPlace = some (excClassObj nm_InvalidPlace q_InvalidPlace a_InvalidPlace N_InvalidPlace bs_InvalidPlace bm_InvalidPlace true sn_InvalidPlace su_InvalidPlace ab_InvalidPlace co_InvalidPlace dd_InvalidPlace x0_InvalidPlace x1_InvalidPlace x2_InvalidPlace x3_InvalidPlace x5_InvalidPlace "ValueError.__new__"))
    (xb_InvalidPlace : PySem.HandSPX.refsVE bm_InvalidPlace = true)
    (sa_InvalidPlace : PySem.W.findIn K (.ref a_InvalidPlace) "__setattr__" = some (some (.builtin "object.__setattr__")))
    (kc_InvalidPlace : PySem.W.keepIn K (.ref a_InvalidPlace) = true)
    (ga_InvalidPlace : PySem.W.findIn K (.ref a_InvalidPlace) "__getattribute__" = some (some (.builtin "BaseException.__getattribute__")))
    (gg_InvalidPlace : PySem.W.findIn K (.ref a_InvalidPlace) "__getattr__" = some none)
    (hd_InvalidPlace : PySem.W.hasDictIn K a_InvalidPlace = true)
    (ca_InvalidPlace : PySem.W.findIn K (.ref a_InvalidPlace) "__class__" = some (some (.builtin "object.__class__")))
    (mo_InvalidPlace : PySem.W.mroIn K a_InvalidPlace (.type "object") = some true)
    (nv_InvalidPlace : PySem.W.findIn K (.ref a_InvalidPlace) "value" = some none)
    (i_InvalidPlace : PySem.W.findIn K (.ref a_InvalidPlace) "__init__" = some (some (.ref ai_InvalidPlace)))
    (t_InvalidPlace : PySem.W.typeIn K (.ref ai_InvalidPlace) = some (.type "function"))
    (l_InvalidPlace_init : K.lookup ai_InvalidPlace = some ⟨oc_InvalidPlace_init, od_InvalidPlace_init, .func (PySem.W.fnOf "__init__" "InvalidPlace.__init__" (defArgs s_InvalidPlace_init) (defBody s_InvalidPlace_init) (defScope s_InvalidPlace_init) (.ref td_InvalidPlace) kV_InvalidPlace_init dc_InvalidPlace_init pm_InvalidPlace_init an_InvalidPlace_init cd_InvalidPlace_init ct_InvalidPlace_init), sl_InvalidPlace_init⟩)
    (c_InvalidPlace_init : PySem.W.codeIn K cd_InvalidPlace_init "InvalidPlace.__init__" = true)
    (ld_InvalidPlace : K.lookup td_InvalidPlace = some ⟨ot_InvalidPlace, od_InvalidPlace, .seq #[.none] nt_InvalidPlace, st_InvalidPlace⟩)
    (s_InvalidPlace_GapError : PySem.W.subIn K (.ref a_InvalidPlace) (.ref a_GapError) = some true)
    (n_InvalidPlace_InvalidNumber : PySem.W.subIn K (.ref a_InvalidPlace) (.ref a_InvalidNumber) = some false)
    (e_InvalidPlace_InvalidNumber : ((Value.ref a_InvalidPlace == Value.ref a_InvalidNumber) = false))
    (n_InvalidPlace_InvalidOrder : PySem.W.subIn K (.ref a_InvalidPlace) (.ref a_InvalidOrder) = some false)
    (e_InvalidPlace_InvalidOrder : ((Value.ref a_InvalidPlace == Value.ref a_InvalidOrder) = false))
    (n_InvalidPlace_InvalidRow : PySem.W.subIn K (.ref a_InvalidPlace) (.ref a_InvalidRow) = some false)
    (e_InvalidPlace_InvalidRow : ((Value.ref a_InvalidPlace == Value.ref a_InvalidRow) = false))
    (n_InvalidPlace_InvalidLets : PySem.W.subIn K (.ref a_InvalidPlace) (.ref a_InvalidLets) = some false)
    (e_InvalidPlace_InvalidLets : ((Value.ref a_InvalidPlace == Value.ref a_InvalidLets) = false))
    (n_InvalidPlace_InvalidList : PySem.W.subIn K (.ref a_InvalidPlace) (.ref a_InvalidList) = some false)
    (e_InvalidPlace_InvalidList : ((Value.ref a_InvalidPlace == Value.ref a_InvalidList) = false))
    (nn_InvalidPlace : PySem.W.subIn K (.type "NoneType") (.ref a_InvalidPlace) = some false)
    (pg_Lets : PySem.W.plainGet K a_Lets Str.empty = true)
    (hd_Lets : PySem.W.hasDictIn K a_Lets = true)
    (po_Lets : PySem.W.plainOver K a_Lets = true)
    (sa_Lets : PySem.W.findIn K (.ref a_Lets) "__setattr__" = some (some (.builtin "object.__setattr__")))
    (mk_Lets : PySem.W.makesIn K a_Lets = true)
    (kc_Lets : PySem.W.keepIn K (.ref a_Lets) = true)
    (ca_Lets : PySem.W.findIn K (.ref a_Lets) "__class__" = some (some (.builtin "object.__class__")))
    (mo_Lets : PySem.W.mroIn K a_Lets (.type "object") = some true)
    (na_Lets__start : PySem.W.findIn K (.ref a_Lets) "_start" = some none)
    (na_Lets__numbers : PySem.W.findIn K (.ref a_Lets) "_numbers" = some none)
    (na_Lets__table : PySem.W.findIn K (.ref a_Lets) "_table" = some none)
    (at_Lets_init : PySem.W.findIn K (.ref a_Lets) "__init__" = some (some (.ref am_Lets_init)))
    (fn_Lets_init : PySem.W.isFn K (.ref am_Lets_init) = true)
    (kp_Lets_init : PySem.W.keepIn K (.ref am_Lets_init) = true)
    (l_Lets_init : K.lookup am_Lets_init = some ⟨oc_Lets_init, od_Lets_init, .func (PySem.W.fnOf "__init__" "Lets.__init__" (defArgs s_Lets_init) (defBody s_Lets_init) (defScope s_Lets_init) (.ref td_Lets_init) kV_Lets_init dc_Lets_init pm_Lets_init an_Lets_init cd_Lets_init ct_Lets_init), sl_Lets_init⟩)
    (c_Lets_init : PySem.W.codeIn K cd_Lets_init "Lets.__init__" = true)
    (ld_Lets_init : K.lookup td_Lets_init = some ⟨ot_Lets_init, oz_Lets_init, .seq #[.none] nt_Lets_init, st_Lets_init⟩)
    (at_Letssettle : PySem.W.findIn K (.ref a_Lets) "_settle" = some (some (.ref am_Letssettle)))
    (fn_Letssettle : PySem.W.isFn K (.ref am_Letssettle) = true)
    (kp_Letssettle : PySem.W.keepIn K (.ref am_Letssettle) = true)
    (l_Letssettle : K.lookup am_Letssettle = some ⟨oc_Letssettle, od_Letssettle, .func (PySem.W.fnOf "_settle" "Lets._settle" (defArgs s_Letssettle) (defBody s_Letssettle) (defScope s_Letssettle) .none kV_Letssettle dc_Letssettle pm_Letssettle an_Letssettle cd_Letssettle ct_Letssettle), sl_Letssettle⟩)
    (c_Letssettle : PySem.W.codeIn K cd_Letssettle "Lets._settle" = true)
    (at_Lets_numbers : PySem.W.findIn K (.ref a_Lets) "numbers" = some (some (.ref am_Lets_numbers)))
    (fn_Lets_numbers : PySem.W.isFn K (.ref am_Lets_numbers) = true)
    (kp_Lets_numbers : PySem.W.keepIn K (.ref am_Lets_numbers) = true)
    (l_Lets_numbers : K.lookup am_Lets_numbers = some ⟨oc_Lets_numbers, od_Lets_numbers, .func (PySem.W.fnOf "numbers" "Lets.numbers" (defArgs s_Lets_numbers) (defBody s_Lets_numbers) (defScope s_Lets_numbers) .none kV_Lets_numbers dc_Lets_numbers pm_Lets_numbers an_Lets_numbers cd_Lets_numbers ct_Lets_numbers), sl_Lets_numbers⟩)
    (c_Lets_numbers : PySem.W.codeIn K cd_Lets_numbers "Lets.numbers" = true)
    (at_Lets_start : PySem.W.findIn K (.ref a_Lets) "start" = some (some (.ref am_Lets_start)))
    (fn_Lets_start : PySem.W.isFn K (.ref am_Lets_start) = true)
    (kp_Lets_start : PySem.W.keepIn K (.ref am_Lets_start) = true)
    (l_Lets_start : K.lookup am_Lets_start = some ⟨oc_Lets_start, od_Lets_start, .func (PySem.W.fnOf "start" "Lets.start" (defArgs s_Lets_start) (defBody s_Lets_start) (defScope s_Lets_start) .none kV_Lets_start dc_Lets_start pm_Lets_start an_Lets_start cd_Lets_start ct_Lets_start), sl_Lets_start⟩)
    (c_Lets_start : PySem.W.codeIn K cd_Lets_start "Lets.start" = true)
    (at_Lets_contains : PySem.W.findIn K (.ref a_Lets) "__contains__" = some (some (.ref am_Lets_contains)))
    (fn_Lets_contains : PySem.W.isFn K (.ref am_Lets_contains) = true)
    (kp_Lets_contains : PySem.W.keepIn K (.ref am_Lets_contains) = true)
    (l_Lets_contains : K.lookup am_Lets_contains = some ⟨oc_Lets_contains, od_Lets_contains, .func (PySem.W.fnOf "__contains__" "Lets.__contains__" (defArgs s_Lets_contains) (defBody s_Lets_contains) (defScope s_Lets_contains) .none kV_Lets_contains dc_Lets_contains pm_Lets_contains an_Lets_contains cd_Lets_contains ct_Lets_contains), sl_Lets_contains⟩)
    (c_Lets_contains : PySem.W.codeIn K cd_Lets_contains "Lets.__contains__" = true)
    (at_Lets_eq : PySem.W.findIn K (.ref a_Lets) "__eq__" = some (some (.ref am_Lets_eq)))
    (fn_Lets_eq : PySem.W.isFn K (.ref am_Lets_eq) = true)
    (kp_Lets_eq : PySem.W.keepIn K (.ref am_Lets_eq) = true)
    (l_Lets_eq : K.lookup am_Lets_eq = some ⟨oc_Lets_eq, od_Lets_eq, .func (PySem.W.fnOf "__eq__" "Lets.__eq__" (defArgs s_Lets_eq) (defBody s_Lets_eq) (defScope s_Lets_eq) .none kV_Lets_eq dc_Lets_eq pm_Lets_eq an_Lets_eq cd_Lets_eq ct_Lets_eq), sl_Lets_eq⟩)
    (c_Lets_eq : PySem.W.codeIn K cd_Lets_eq "Lets.__eq__" = true)
    (ns_Lets_NoneType : PySem.W.subIn K (.type "NoneType") (.ref a_Lets) = some false)
    (ns_Lets_bool : PySem.W.subIn K (.type "bool") (.ref a_Lets) = some false)
    (ns_Lets_int : PySem.W.subIn K (.type "int") (.ref a_Lets) = some false)
    (ns_Lets_str : PySem.W.subIn K (.type "str") (.ref a_Lets) = some false)
    (ns_Lets_list : PySem.W.subIn K (.type "list") (.ref a_Lets) = some false)
    (ns_Lets_tuple : PySem.W.subIn K (.type "tuple") (.ref a_Lets) = some false)
    (ns_Lets_dict : PySem.W.subIn K (.type "dict") (.ref a_Lets) = some false)
    (sb_Lets_int : PySem.W.subIn K (.ref a_Lets) (.type "int") = some false)
    (sb_Lets_bool : PySem.W.subIn K (.ref a_Lets) (.type "bool") = some false)
    (sb_Lets_list : PySem.W.subIn K (.ref a_Lets) (.type "list") = some false)
    (cg : PySem.W.specialIn K (.builtin "object.__class__") "__get__" = some (some (.builtin "getset_descriptor.__get__")))
    (ctk : PySem.W.takesIn K (.builtin "object.__class__") = some true)
    (g_LONGEST : PySem.W.nsIn K mainGlobals "LONGEST" = some (some (.int 200 tk_LONGEST)))
    (g_MOST_NUMBERS : PySem.W.nsIn K mainGlobals "MOST_NUMBERS" = some (some (.int 200 tk_MOST_NUMBERS)))
    (g_GREATEST : PySem.W.nsIn K mainGlobals "GREATEST" = some (some (.int 1000 tk_GREATEST)))
    (z_all : PySem.W.nsIn K mainGlobals "all" = some none)
    (z_bool : PySem.W.nsIn K mainGlobals "bool" = some none)
    (z_enumerate : PySem.W.nsIn K mainGlobals "enumerate" = some none)
    (z_int : PySem.W.nsIn K mainGlobals "int" = some none)
    (z_isinstance : PySem.W.nsIn K mainGlobals "isinstance" = some none)
    (z_len : PySem.W.nsIn K mainGlobals "len" = some none)
    (z_list : PySem.W.nsIn K mainGlobals "list" = some none)
    (z_max : PySem.W.nsIn K mainGlobals "max" = some none)
    (z_range : PySem.W.nsIn K mainGlobals "range" = some none)
    (z_repr : PySem.W.nsIn K mainGlobals "repr" = some none)
    (z_sorted : PySem.W.nsIn K mainGlobals "sorted" = some none)
    (z_sum : PySem.W.nsIn K mainGlobals "sum" = some none)
    (z_tuple : PySem.W.nsIn K mainGlobals "tuple" = some none)
    : ∃ fd : FuncData, (∀ (s : Shared) (u : Value), BindsTo s fd ⟨[u], []⟩ [("_law_script", u)]) ∧ ∀ base : Heap, K.In base → base.Ns mainGlobals mg → FnG P w K mg base CX0 9 fa fd ["_law_script"] (spLaw K) := by
  have e := hfa.symm.trans (PySem.W.mg_of X G g_law)
  cases e
  let T : Tx K mg := {
    a_is_whole := a_is_whole, fd_is_whole := _, F_is_whole := fun_mk (st := s_is_whole) l_is_whole c_is_whole k_is_whole, g_is_whole := PySem.W.mg_of X G g_is_whole,
    b_is_whole := (fun_mk (st := s_is_whole) l_is_whole c_is_whole k_is_whole).binds fun _ _ _ _ _ _ us hl => match us, hl with | [_], _ => rfl,
    a_is_count := a_is_count, fd_is_count := _, F_is_count := fun_mk (st := s_is_count) l_is_count c_is_count k_is_count, g_is_count := PySem.W.mg_of X G g_is_count,
    b_is_count := (fun_mk (st := s_is_count) l_is_count c_is_count k_is_count).binds fun _ _ _ _ _ _ us hl => match us, hl with | [_], _ => rfl,
    a_is_row := a_is_row, fd_is_row := _, F_is_row := fun_mk (st := s_is_row) l_is_row c_is_row k_is_row, g_is_row := PySem.W.mg_of X G g_is_row,
    b_is_row := (fun_mk (st := s_is_row) l_is_row c_is_row k_is_row).binds fun _ _ _ _ _ _ us hl => match us, hl with | [_], _ => rfl,
    a_is_order := a_is_order, fd_is_order := _, F_is_order := fun_mk (st := s_is_order) l_is_order c_is_order k_is_order, g_is_order := PySem.W.mg_of X G g_is_order,
    b_is_order := (fun_mk (st := s_is_order) l_is_order c_is_order k_is_order).binds fun _ _ _ _ _ _ us hl => match us, hl with | [_], _ => rfl,
    a_is_log := a_is_log, fd_is_log := _, F_is_log := fun_mk (st := s_is_log) l_is_log c_is_log k_is_log, g_is_log := PySem.W.mg_of X G g_is_log,
    b_is_log := (fun_mk (st := s_is_log) l_is_log c_is_log k_is_log).binds fun _ _ _ _ _ _ us hl => match us, hl with | [_], _ => rfl,
    a_need_order := a_need_order, fd_need_order := _, F_need_order := fun_mk (st := s_need_order) l_need_order c_need_order k_need_order, g_need_order := PySem.W.mg_of X G g_need_order,
    b_need_order := (fun_mk (st := s_need_order) l_need_order c_need_order k_need_order).binds fun _ _ _ _ _ _ us hl => match us, hl with | [_], _ => rfl,
    a_need_row := a_need_row, fd_need_row := _, F_need_row := fun_mk (st := s_need_row) l_need_row c_need_row k_need_row, g_need_row := PySem.W.mg_of X G g_need_row,
    b_need_row := (fun_mk (st := s_need_row) l_need_row c_need_row k_need_row).binds fun _ _ _ _ _ _ us hl => match us, hl with | [_], _ => rfl,
    a_log_of := a_log_of, fd_log_of := _, F_log_of := fun_mk (st := s_log_of) l_log_of c_log_of k_log_of, g_log_of := PySem.W.mg_of X G g_log_of,
    b_log_of := (fun_mk (st := s_log_of) l_log_of c_log_of k_log_of).binds fun _ _ _ _ _ _ us hl => match us, hl with | [_], _ => rfl,
    a_order_of := a_order_of, fd_order_of := _, F_order_of := fun_mk (st := s_order_of) l_order_of c_order_of k_order_of, g_order_of := PySem.W.mg_of X G g_order_of,
    b_order_of := (fun_mk (st := s_order_of) l_order_of c_order_of k_order_of).binds fun _ _ _ _ _ _ us hl => match us, hl with | [_], _ => rfl,
    a_left_count := a_left_count, fd_left_count := _, F_left_count := fun_mk (st := s_left_count) l_left_count c_left_count k_left_count, g_left_count := PySem.W.mg_of X G g_left_count,
    b_left_count := (fun_mk (st := s_left_count) l_left_count c_left_count k_left_count).binds fun _ _ _ _ _ _ us hl => match us, hl with | [_, _], _ => rfl,
    a_exchanged := a_exchanged, fd_exchanged := _, F_exchanged := fun_mk (st := s_exchanged) l_exchanged c_exchanged k_exchanged, g_exchanged := PySem.W.mg_of X G g_exchanged,
    b_exchanged := (fun_mk (st := s_exchanged) l_exchanged c_exchanged k_exchanged).binds fun _ _ _ _ _ _ us hl => match us, hl with | [_, _], _ => rfl,
    a_may_be_told := a_may_be_told, fd_may_be_told := _, F_may_be_told := fun_mk (st := s_may_be_told) l_may_be_told c_may_be_told k_may_be_told, g_may_be_told := PySem.W.mg_of X G g_may_be_told,
    b_may_be_told := (fun_mk (st := s_may_be_told) l_may_be_told c_may_be_told k_may_be_told).binds fun _ _ _ _ _ _ us hl => match us, hl with | [_], _ => rfl,
    a_are_numbers := a_are_numbers, fd_are_numbers := _, F_are_numbers := fun_mk (st := s_are_numbers) l_are_numbers c_are_numbers k_are_numbers, g_are_numbers := PySem.W.mg_of X G g_are_numbers,
    b_are_numbers := (fun_mk (st := s_are_numbers) l_are_numbers c_are_numbers k_are_numbers).binds fun _ _ _ _ _ _ us hl => match us, hl with | [_], _ => rfl,
    a_need_lets := a_need_lets, fd_need_lets := _, F_need_lets := fun_mk (st := s_need_lets) l_need_lets c_need_lets k_need_lets, g_need_lets := PySem.W.mg_of X G g_need_lets,
    b_need_lets := (fun_mk (st := s_need_lets) l_need_lets c_need_lets k_need_lets).binds fun _ _ _ _ _ _ us hl => match us, hl with | [_], _ => rfl,
    a_need_place := a_need_place, fd_need_place := _, F_need_place := fun_mk (st := s_need_place) l_need_place c_need_place k_need_place, g_need_place := PySem.W.mg_of X G g_need_place,
    b_need_place := (fun_mk (st := s_need_place) l_need_place c_need_place k_need_place).binds fun _ _ _ _ _ _ us hl => match us, hl with | [_, _], _ => rfl,
    a_order_done := a_order_done, fd_order_done := _, F_order_done := fun_mk (st := s_order_done) l_order_done c_order_done k_order_done, g_order_done := PySem.W.mg_of X G g_order_done,
    b_order_done := (fun_mk (st := s_order_done) l_order_done c_order_done k_order_done).binds fun _ _ _ _ _ _ us hl => match us, hl with | [_, _, _], _ => rfl,
    a_done := a_done, fd_done := _, F_done := fun_mk (st := s_done) l_done c_done k_done, g_done := PySem.W.mg_of X G g_done,
    b_done := (fun_mk (st := s_done) l_done c_done k_done).binds fun _ _ _ _ _ _ us hl => match us, hl with | [_, _, _], _ => rfl,
    a_row_done := a_row_done, fd_row_done := _, F_row_done := fun_mk (st := s_row_done) l_row_done c_row_done k_row_done, g_row_done := PySem.W.mg_of X G g_row_done,
    b_row_done := (fun_mk (st := s_row_done) l_row_done c_row_done k_row_done).binds fun _ _ _ _ _ _ us hl => match us, hl with | [_, _, _], _ => rfl,
    a_open_places := a_open_places, fd_open_places := _, F_open_places := fun_mk (st := s_open_places) l_open_places c_open_places k_open_places, g_open_places := PySem.W.mg_of X G g_open_places,
    b_open_places := (fun_mk (st := s_open_places) l_open_places c_open_places k_open_places).binds fun _ _ _ _ _ _ us hl => match us, hl with | [_, _], _ => rfl,
    a_l_hash := a_l_hash, fd_l_hash := _, F_l_hash := fun_mk (st := s_l_hash) l_l_hash c_l_hash k_l_hash, g_l_hash := PySem.W.mg_of X G g_l_hash,
    b_l_hash := (fun_mk (st := s_l_hash) l_l_hash c_l_hash k_l_hash).binds fun _ _ _ _ _ _ us hl => match us, hl with | [_, _], _ => rfl,
    a_l_random := a_l_random, fd_l_random := _, F_l_random := fun_mk (st := s_l_random) l_l_random c_l_random k_l_random, g_l_random := PySem.W.mg_of X G g_l_random,
    b_l_random := (fun_mk (st := s_l_random) l_l_random c_l_random k_l_random).binds fun _ _ _ _ _ _ us hl => match us, hl with | [_, _], _ => rfl,
    a_l_cell := a_l_cell, fd_l_cell := _, F_l_cell := fun_mk (st := s_l_cell) l_l_cell c_l_cell k_l_cell, g_l_cell := PySem.W.mg_of X G g_l_cell,
    b_l_cell := (fun_mk (st := s_l_cell) l_l_cell c_l_cell k_l_cell).binds fun _ _ _ _ _ _ us hl => match us, hl with | [_, _], _ => rfl,
    a_l_generator := a_l_generator, fd_l_generator := _, F_l_generator := fun_mk (st := s_l_generator) l_l_generator c_l_generator k_l_generator, g_l_generator := PySem.W.mg_of X G g_l_generator,
    b_l_generator := (fun_mk (st := s_l_generator) l_l_generator c_l_generator k_l_generator).binds fun _ _ _ _ _ _ us hl => match us, hl with | [_, _], _ => rfl,
    a_l_order := a_l_order, fd_l_order := _, F_l_order := fun_mk (st := s_l_order) l_l_order c_l_order k_l_order, g_l_order := PySem.W.mg_of X G g_l_order,
    b_l_order := (fun_mk (st := s_l_order) l_l_order c_l_order k_l_order).binds fun _ _ _ _ _ _ us hl => match us, hl with | [_], _ => rfl,
    a_l_log := a_l_log, fd_l_log := _, F_l_log := fun_mk (st := s_l_log) l_l_log c_l_log k_l_log, g_l_log := PySem.W.mg_of X G g_l_log,
    b_l_log := (fun_mk (st := s_l_log) l_l_log c_l_log k_l_log).binds fun _ _ _ _ _ _ us hl => match us, hl with | [_], _ => rfl,
    a_l_drawn_log := a_l_drawn_log, fd_l_drawn_log := _, F_l_drawn_log := fun_mk (st := s_l_drawn_log) l_l_drawn_log c_l_drawn_log k_l_drawn_log, g_l_drawn_log := PySem.W.mg_of X G g_l_drawn_log,
    b_l_drawn_log := (fun_mk (st := s_l_drawn_log) l_l_drawn_log c_l_drawn_log k_l_drawn_log).binds fun _ _ _ _ _ _ us hl => match us, hl with | [_, _], _ => rfl,
    a_l_menu := a_l_menu, fd_l_menu := _, F_l_menu := fun_mk (st := s_l_menu) l_l_menu c_l_menu k_l_menu, g_l_menu := PySem.W.mg_of X G g_l_menu,
    b_l_menu := (fun_mk (st := s_l_menu) l_l_menu c_l_menu k_l_menu).binds fun _ _ _ _ _ _ us hl => match us, hl with | [], _ => rfl,
    a_l_let := a_l_let, fd_l_let := _, F_l_let := fun_mk (st := s_l_let) l_l_let c_l_let k_l_let, g_l_let := PySem.W.mg_of X G g_l_let,
    b_l_let := (fun_mk (st := s_l_let) l_l_let c_l_let k_l_let).binds fun _ _ _ _ _ _ us hl => match us, hl with | [_, _], _ => rfl,
    a_l_pair := a_l_pair, fd_l_pair := _, F_l_pair := fun_mk (st := s_l_pair) l_l_pair c_l_pair k_l_pair, g_l_pair := PySem.W.mg_of X G g_l_pair,
    b_l_pair := (fun_mk (st := s_l_pair) l_l_pair c_l_pair k_l_pair).binds fun _ _ _ _ _ _ us hl => match us, hl with | [_, _, _], _ => rfl,
    a_l_near := a_l_near, fd_l_near := _, F_l_near := fun_mk (st := s_l_near) l_l_near c_l_near k_l_near, g_l_near := PySem.W.mg_of X G g_l_near,
    b_l_near := (fun_mk (st := s_l_near) l_l_near c_l_near k_l_near).binds fun _ _ _ _ _ _ us hl => match us, hl with | [_, _], _ => rfl,
    a_l_lets := a_l_lets, fd_l_lets := _, F_l_lets := fun_mk (st := s_l_lets) l_l_lets c_l_lets k_l_lets, g_l_lets := PySem.W.mg_of X G g_l_lets,
    b_l_lets := (fun_mk (st := s_l_lets) l_l_lets c_l_lets k_l_lets).binds fun _ _ _ _ _ _ us hl => match us, hl with | [_], _ => rfl,
    a_l_left := a_l_left, fd_l_left := _, F_l_left := fun_mk (st := s_l_left) l_l_left c_l_left k_l_left, g_l_left := PySem.W.mg_of X G g_l_left,
    b_l_left := (fun_mk (st := s_l_left) l_l_left c_l_left k_l_left).binds fun _ _ _ _ _ _ us hl => match us, hl with | [_, _], _ => rfl,
    a_l_caught := a_l_caught, fd_l_caught := _, F_l_caught := fun_mk (st := s_l_caught) l_l_caught c_l_caught k_l_caught, g_l_caught := PySem.W.mg_of X G g_l_caught,
    b_l_caught := (fun_mk (st := s_l_caught) l_l_caught c_l_caught k_l_caught).binds fun _ _ _ _ _ _ us hl => match us, hl with | [_, _, _, _], _ => rfl,
    a_l_only := a_l_only, fd_l_only := _, F_l_only := fun_mk (st := s_l_only) l_l_only c_l_only k_l_only, g_l_only := PySem.W.mg_of X G g_l_only,
    b_l_only := (fun_mk (st := s_l_only) l_l_only c_l_only k_l_only).binds fun _ _ _ _ _ _ us hl => match us, hl with | [_, _], _ => rfl,
    a_l_row_right := a_l_row_right, fd_l_row_right := _, F_l_row_right := fun_mk (st := s_l_row_right) l_l_row_right c_l_row_right k_l_row_right, g_l_row_right := PySem.W.mg_of X G g_l_row_right,
    b_l_row_right := (fun_mk (st := s_l_row_right) l_l_row_right c_l_row_right k_l_row_right).binds fun _ _ _ _ _ _ us hl => match us, hl with | [_, _, _], _ => rfl,
    a_l_order_right := a_l_order_right, fd_l_order_right := _, F_l_order_right := fun_mk (st := s_l_order_right) l_l_order_right c_l_order_right k_l_order_right, g_l_order_right := PySem.W.mg_of X G g_l_order_right,
    b_l_order_right := (fun_mk (st := s_l_order_right) l_l_order_right c_l_order_right k_l_order_right).binds fun _ _ _ _ _ _ us hl => match us, hl with | [_, _, _], _ => rfl,
    a_l_refused := a_l_refused, fd_l_refused := _, F_l_refused := fun_mk (st := s_l_refused) l_l_refused c_l_refused k_l_refused, g_l_refused := PySem.W.mg_of X G g_l_refused,
    b_l_refused := (fun_mk (st := s_l_refused) l_l_refused c_l_refused k_l_refused).binds fun _ _ _ _ _ _ us hl => match us, hl with | [_], _ => rfl,
    a_law := fa, fd_law := _, F_law := fun_mk (st := s_law) l_law c_law k_law, g_law := PySem.W.mg_of X G g_law,
    b_law := (fun_mk (st := s_law) l_law c_law k_law).binds fun _ _ _ _ _ _ us hl => match us, hl with | [_], _ => rfl,
    a_GapError := a_GapError, g_GapError := PySem.W.mg_of X G g_GapError,
    a_InvalidNumber := a_InvalidNumber, g_InvalidNumber := PySem.W.mg_of X G g_InvalidNumber,
    a_InvalidOrder := a_InvalidOrder, g_InvalidOrder := PySem.W.mg_of X G g_InvalidOrder,
    a_InvalidRow := a_InvalidRow, g_InvalidRow := PySem.W.mg_of X G g_InvalidRow,
    a_InvalidLets := a_InvalidLets, g_InvalidLets := PySem.W.mg_of X G g_InvalidLets,
    a_InvalidList := a_InvalidList, g_InvalidList := PySem.W.mg_of X G g_InvalidList,
    a_InvalidPlace := a_InvalidPlace, g_InvalidPlace := PySem.W.mg_of X G g_InvalidPlace,
    a_Lets := a_Lets, g_Lets := PySem.W.mg_of X G g_Lets,
    e_InvalidNumber := ⟨ic_InvalidNumber, ga_InvalidNumber, gg_InvalidNumber, eb_InvalidNumber, hd_InvalidNumber, ca_InvalidNumber, cg, ctk, mo_InvalidNumber, nv_InvalidNumber⟩,
    x_InvalidNumber := ⟨⟨_, _, _, _, _, _, _, _, _, _, _, _, _, _, _, xl_InvalidNumber, xb_InvalidNumber⟩, sa_InvalidNumber, eb_InvalidNumber, ty_InvalidNumber, kc_InvalidNumber⟩,
    ai_InvalidNumber := ai_InvalidNumber, fdi_InvalidNumber := _, i_InvalidNumber := i_InvalidNumber, t_InvalidNumber := t_InvalidNumber, Fi_InvalidNumber := (FunV.mk ⟨_, _, _, _, _, _, _, _, _, _, rfl, l_InvalidNumber_init, c_InvalidNumber_init⟩ : FunV K "__init__" "InvalidNumber.__init__" s_InvalidNumber_init ai_InvalidNumber _), bi_InvalidNumber := fun _ us X hl => match us, hl with | [_, _], _ => PySem.W.binds_K X rfl ld_InvalidNumber rfl rfl rfl,
    nv_InvalidNumber := nv_InvalidNumber,
    m_InvalidNumber_GapError := exm_of eb_GapError ic_GapError ty_GapError s_InvalidNumber_GapError,
    k_InvalidNumber_InvalidNumber := kit_same,
    k_InvalidNumber_InvalidOrder := kit_of e_InvalidNumber_InvalidOrder ic_InvalidOrder ty_InvalidOrder n_InvalidNumber_InvalidOrder,
    k_InvalidNumber_InvalidRow := kit_of e_InvalidNumber_InvalidRow ic_InvalidRow ty_InvalidRow n_InvalidNumber_InvalidRow,
    k_InvalidNumber_InvalidLets := kit_of e_InvalidNumber_InvalidLets ic_InvalidLets ty_InvalidLets n_InvalidNumber_InvalidLets,
    k_InvalidNumber_InvalidList := kit_of e_InvalidNumber_InvalidList ic_InvalidList ty_InvalidList n_InvalidNumber_InvalidList,
    k_InvalidNumber_InvalidPlace := kit_of e_InvalidNumber_InvalidPlace ic_InvalidPlace ty_InvalidPlace n_InvalidNumber_InvalidPlace,
    kn_InvalidNumber := kit_of rfl ic_InvalidNumber ty_InvalidNumber nn_InvalidNumber,
    e_InvalidOrder := ⟨ic_InvalidOrder, ga_InvalidOrder, gg_InvalidOrder, eb_InvalidOrder, hd_InvalidOrder, ca_InvalidOrder, cg, ctk, mo_InvalidOrder, nv_InvalidOrder⟩,
    x_InvalidOrder := ⟨⟨_, _, _, _, _, _, _, _, _, _, _, _, _, _, _, xl_InvalidOrder, xb_InvalidOrder⟩, sa_InvalidOrder, eb_InvalidOrder, ty_InvalidOrder, kc_InvalidOrder⟩,
    ai_InvalidOrder := ai_InvalidOrder, fdi_InvalidOrder := _, i_InvalidOrder := i_InvalidOrder, t_InvalidOrder := t_InvalidOrder, Fi_InvalidOrder := (FunV.mk ⟨_, _, _, _, _, _, _, _, _, _, rfl, l_InvalidOrder_init, c_InvalidOrder_init⟩ : FunV K "__init__" "InvalidOrder.__init__" s_InvalidOrder_init ai_InvalidOrder _), bi_InvalidOrder := fun _ us X hl => match us, hl with | [_, _], _ => PySem.W.binds_K X rfl ld_InvalidOrder rfl rfl rfl,
    nv_InvalidOrder := nv_InvalidOrder,
    m_InvalidOrder_GapError := exm_of eb_GapError ic_GapError ty_GapError s_InvalidOrder_GapError,
    k_InvalidOrder_InvalidNumber := kit_of e_InvalidOrder_InvalidNumber ic_InvalidNumber ty_InvalidNumber n_InvalidOrder_InvalidNumber,
    k_InvalidOrder_InvalidOrder := kit_same,
    k_InvalidOrder_InvalidRow := kit_of e_InvalidOrder_InvalidRow ic_InvalidRow ty_InvalidRow n_InvalidOrder_InvalidRow,
    k_InvalidOrder_InvalidLets := kit_of e_InvalidOrder_InvalidLets ic_InvalidLets ty_InvalidLets n_InvalidOrder_InvalidLets,
    k_InvalidOrder_InvalidList := kit_of e_InvalidOrder_InvalidList ic_InvalidList ty_InvalidList n_InvalidOrder_InvalidList,
    k_InvalidOrder_InvalidPlace := kit_of e_InvalidOrder_InvalidPlace ic_InvalidPlace ty_InvalidPlace n_InvalidOrder_InvalidPlace,
    kn_InvalidOrder := kit_of rfl ic_InvalidOrder ty_InvalidOrder nn_InvalidOrder,
    e_InvalidRow := ⟨ic_InvalidRow, ga_InvalidRow, gg_InvalidRow, eb_InvalidRow, hd_InvalidRow, ca_InvalidRow, cg, ctk, mo_InvalidRow, nv_InvalidRow⟩,
    x_InvalidRow := ⟨⟨_, _, _, _, _, _, _, _, _, _, _, _, _, _, _, xl_InvalidRow, xb_InvalidRow⟩, sa_InvalidRow, eb_InvalidRow, ty_InvalidRow, kc_InvalidRow⟩,
    ai_InvalidRow := ai_InvalidRow, fdi_InvalidRow := _, i_InvalidRow := i_InvalidRow, t_InvalidRow := t_InvalidRow, Fi_InvalidRow := (FunV.mk ⟨_, _, _, _, _, _, _, _, _, _, rfl, l_InvalidRow_init, c_InvalidRow_init⟩ : FunV K "__init__" "InvalidRow.__init__" s_InvalidRow_init ai_InvalidRow _), bi_InvalidRow := fun _ us X hl => match us, hl with | [_, _], _ => PySem.W.binds_K X rfl ld_InvalidRow rfl rfl rfl,
    nv_InvalidRow := nv_InvalidRow,
    m_InvalidRow_GapError := exm_of eb_GapError ic_GapError ty_GapError s_InvalidRow_GapError,
    k_InvalidRow_InvalidNumber := kit_of e_InvalidRow_InvalidNumber ic_InvalidNumber ty_InvalidNumber n_InvalidRow_InvalidNumber,
    k_InvalidRow_InvalidOrder := kit_of e_InvalidRow_InvalidOrder ic_InvalidOrder ty_InvalidOrder n_InvalidRow_InvalidOrder,
    k_InvalidRow_InvalidRow := kit_same,
    k_InvalidRow_InvalidLets := kit_of e_InvalidRow_InvalidLets ic_InvalidLets ty_InvalidLets n_InvalidRow_InvalidLets,
    k_InvalidRow_InvalidList := kit_of e_InvalidRow_InvalidList ic_InvalidList ty_InvalidList n_InvalidRow_InvalidList,
    k_InvalidRow_InvalidPlace := kit_of e_InvalidRow_InvalidPlace ic_InvalidPlace ty_InvalidPlace n_InvalidRow_InvalidPlace,
    kn_InvalidRow := kit_of rfl ic_InvalidRow ty_InvalidRow nn_InvalidRow,
    e_InvalidLets := ⟨ic_InvalidLets, ga_InvalidLets, gg_InvalidLets, eb_InvalidLets, hd_InvalidLets, ca_InvalidLets, cg, ctk, mo_InvalidLets, nv_InvalidLets⟩,
    x_InvalidLets := ⟨⟨_, _, _, _, _, _, _, _, _, _, _, _, _, _, _, xl_InvalidLets, xb_InvalidLets⟩, sa_InvalidLets, eb_InvalidLets, ty_InvalidLets, kc_InvalidLets⟩,
    ai_InvalidLets := ai_InvalidLets, fdi_InvalidLets := _, i_InvalidLets := i_InvalidLets, t_InvalidLets := t_InvalidLets, Fi_InvalidLets := (FunV.mk ⟨_, _, _, _, _, _, _, _, _, _, rfl, l_InvalidLets_init, c_InvalidLets_init⟩ : FunV K "__init__" "InvalidLets.__init__" s_InvalidLets_init ai_InvalidLets _), bi_InvalidLets := fun _ us X hl => match us, hl with | [_, _], _ => PySem.W.binds_K X rfl ld_InvalidLets rfl rfl rfl,
    nv_InvalidLets := nv_InvalidLets,
    m_InvalidLets_GapError := exm_of eb_GapError ic_GapError ty_GapError s_InvalidLets_GapError,
    k_InvalidLets_InvalidNumber := kit_of e_InvalidLets_InvalidNumber ic_InvalidNumber ty_InvalidNumber n_InvalidLets_InvalidNumber,
    k_InvalidLets_InvalidOrder := kit_of e_InvalidLets_InvalidOrder ic_InvalidOrder ty_InvalidOrder n_InvalidLets_InvalidOrder,
    k_InvalidLets_InvalidRow := kit_of e_InvalidLets_InvalidRow ic_InvalidRow ty_InvalidRow n_InvalidLets_InvalidRow,
    k_InvalidLets_InvalidLets := kit_same,
    k_InvalidLets_InvalidList := kit_of e_InvalidLets_InvalidList ic_InvalidList ty_InvalidList n_InvalidLets_InvalidList,
    k_InvalidLets_InvalidPlace := kit_of e_InvalidLets_InvalidPlace ic_InvalidPlace ty_InvalidPlace n_InvalidLets_InvalidPlace,
    kn_InvalidLets := kit_of rfl ic_InvalidLets ty_InvalidLets nn_InvalidLets,
    e_InvalidList := ⟨ic_InvalidList, ga_InvalidList, gg_InvalidList, eb_InvalidList, hd_InvalidList, ca_InvalidList, cg, ctk, mo_InvalidList, nv_InvalidList⟩,
    x_InvalidList := ⟨⟨_, _, _, _, _, _, _, _, _, _, _, _, _, _, _, xl_InvalidList, xb_InvalidList⟩, sa_InvalidList, eb_InvalidList, ty_InvalidList, kc_InvalidList⟩,
    ai_InvalidList := ai_InvalidList, fdi_InvalidList := _, i_InvalidList := i_InvalidList, t_InvalidList := t_InvalidList, Fi_InvalidList := (FunV.mk ⟨_, _, _, _, _, _, _, _, _, _, rfl, l_InvalidList_init, c_InvalidList_init⟩ : FunV K "__init__" "InvalidList.__init__" s_InvalidList_init ai_InvalidList _), bi_InvalidList := fun _ us X hl => match us, hl with | [_, _], _ => PySem.W.binds_K X rfl ld_InvalidList rfl rfl rfl,
    nv_InvalidList := nv_InvalidList,
    m_InvalidList_GapError := exm_of eb_GapError ic_GapError ty_GapError s_InvalidList_GapError,
    k_InvalidList_InvalidNumber := kit_of e_InvalidList_InvalidNumber ic_InvalidNumber ty_InvalidNumber n_InvalidList_InvalidNumber,
    k_InvalidList_InvalidOrder := kit_of e_InvalidList_InvalidOrder ic_InvalidOrder ty_InvalidOrder n_InvalidList_InvalidOrder,
    k_InvalidList_InvalidRow := kit_of e_InvalidList_InvalidRow ic_InvalidRow ty_InvalidRow n_InvalidList_InvalidRow,
    k_InvalidList_InvalidLets := kit_of e_InvalidList_InvalidLets ic_InvalidLets ty_InvalidLets n_InvalidList_InvalidLets,
    k_InvalidList_InvalidList := kit_same,
    k_InvalidList_InvalidPlace := kit_of e_InvalidList_InvalidPlace ic_InvalidPlace ty_InvalidPlace n_InvalidList_InvalidPlace,
    kn_InvalidList := kit_of rfl ic_InvalidList ty_InvalidList nn_InvalidList,
    e_InvalidPlace := ⟨ic_InvalidPlace, ga_InvalidPlace, gg_InvalidPlace, eb_InvalidPlace, hd_InvalidPlace, ca_InvalidPlace, cg, ctk, mo_InvalidPlace, nv_InvalidPlace⟩,
    x_InvalidPlace := ⟨⟨_, _, _, _, _, _, _, _, _, _, _, _, _, _, _, xl_InvalidPlace, xb_InvalidPlace⟩, sa_InvalidPlace, eb_InvalidPlace, ty_InvalidPlace, kc_InvalidPlace⟩,
    ai_InvalidPlace := ai_InvalidPlace, fdi_InvalidPlace := _, i_InvalidPlace := i_InvalidPlace, t_InvalidPlace := t_InvalidPlace, Fi_InvalidPlace := (FunV.mk ⟨_, _, _, _, _, _, _, _, _, _, rfl, l_InvalidPlace_init, c_InvalidPlace_init⟩ : FunV K "__init__" "InvalidPlace.__init__" s_InvalidPlace_init ai_InvalidPlace _), bi_InvalidPlace := fun _ us X hl => match us, hl with | [_, _], _ => PySem.W.binds_K X rfl ld_InvalidPlace rfl rfl rfl,
    nv_InvalidPlace := nv_InvalidPlace,
    m_InvalidPlace_GapError := exm_of eb_GapError ic_GapError ty_GapError s_InvalidPlace_GapError,
    k_InvalidPlace_InvalidNumber := kit_of e_InvalidPlace_InvalidNumber ic_InvalidNumber ty_InvalidNumber n_InvalidPlace_InvalidNumber,
    k_InvalidPlace_InvalidOrder := kit_of e_InvalidPlace_InvalidOrder ic_InvalidOrder ty_InvalidOrder n_InvalidPlace_InvalidOrder,
    k_InvalidPlace_InvalidRow := kit_of e_InvalidPlace_InvalidRow ic_InvalidRow ty_InvalidRow n_InvalidPlace_InvalidRow,
    k_InvalidPlace_InvalidLets := kit_of e_InvalidPlace_InvalidLets ic_InvalidLets ty_InvalidLets n_InvalidPlace_InvalidLets,
    k_InvalidPlace_InvalidList := kit_of e_InvalidPlace_InvalidList ic_InvalidList ty_InvalidList n_InvalidPlace_InvalidList,
    k_InvalidPlace_InvalidPlace := kit_same,
    kn_InvalidPlace := kit_of rfl ic_InvalidPlace ty_InvalidPlace nn_InvalidPlace,
    cl_Lets := ⟨pg_Lets, hd_Lets, po_Lets, sa_Lets⟩, ins_Lets := ⟨⟨pg_Lets, hd_Lets, po_Lets, sa_Lets⟩, ca_Lets, cg, ctk, mo_Lets, kit_same⟩,
    na_Lets__start := na_Lets__start,
    na_Lets__numbers := na_Lets__numbers,
    na_Lets__table := na_Lets__table,
    am_Lets_init := am_Lets_init, fd_Lets_init := _, F_Lets_init := (FunV.mk ⟨_, _, _, _, _, _, _, _, _, _, rfl, l_Lets_init, c_Lets_init⟩ : FunV K "__init__" "Lets.__init__" s_Lets_init am_Lets_init _), b_Lets_init := fun _ us X hl => match us, hl with | [_, _, _], _ => PySem.W.binds_K X rfl ld_Lets_init rfl rfl rfl,
    M_Lets := ⟨mk_Lets, at_Lets_init, fn_Lets_init, kc_Lets⟩,
    bd_Lets_init := fun _ us X hl => by rcases us with _ | ⟨_, _ | ⟨_, _ | ⟨_, _⟩⟩⟩ <;> first | exact PySem.W.binds_K X rfl ld_Lets_init rfl rfl rfl | (exfalso; simp at hl),
    am_Letssettle := am_Letssettle, fd_Letssettle := _, F_Letssettle := (FunV.mk ⟨_, _, _, _, _, _, _, _, _, _, rfl, l_Letssettle, c_Letssettle⟩ : FunV K "_settle" "Lets._settle" s_Letssettle am_Letssettle _), b_Letssettle := (fun_mk (st := s_Letssettle) l_Letssettle c_Letssettle kp_Letssettle).binds fun _ _ _ _ _ _ us hl => match us, hl with | [_, _, _], _ => rfl,
    me_Letssettle := ⟨at_Letssettle, fn_Letssettle, kp_Letssettle⟩,
    am_Lets_numbers := am_Lets_numbers, fd_Lets_numbers := _, F_Lets_numbers := (FunV.mk ⟨_, _, _, _, _, _, _, _, _, _, rfl, l_Lets_numbers, c_Lets_numbers⟩ : FunV K "numbers" "Lets.numbers" s_Lets_numbers am_Lets_numbers _), b_Lets_numbers := (fun_mk (st := s_Lets_numbers) l_Lets_numbers c_Lets_numbers kp_Lets_numbers).binds fun _ _ _ _ _ _ us hl => match us, hl with | [_], _ => rfl,
    me_Lets_numbers := ⟨at_Lets_numbers, fn_Lets_numbers, kp_Lets_numbers⟩,
    am_Lets_start := am_Lets_start, fd_Lets_start := _, F_Lets_start := (FunV.mk ⟨_, _, _, _, _, _, _, _, _, _, rfl, l_Lets_start, c_Lets_start⟩ : FunV K "start" "Lets.start" s_Lets_start am_Lets_start _), b_Lets_start := (fun_mk (st := s_Lets_start) l_Lets_start c_Lets_start kp_Lets_start).binds fun _ _ _ _ _ _ us hl => match us, hl with | [_], _ => rfl,
    me_Lets_start := ⟨at_Lets_start, fn_Lets_start, kp_Lets_start⟩,
    am_Lets_contains := am_Lets_contains, fd_Lets_contains := _, F_Lets_contains := (FunV.mk ⟨_, _, _, _, _, _, _, _, _, _, rfl, l_Lets_contains, c_Lets_contains⟩ : FunV K "__contains__" "Lets.__contains__" s_Lets_contains am_Lets_contains _), b_Lets_contains := (fun_mk (st := s_Lets_contains) l_Lets_contains c_Lets_contains kp_Lets_contains).binds fun _ _ _ _ _ _ us hl => match us, hl with | [_, _], _ => rfl,
    me_Lets_contains := ⟨at_Lets_contains, fn_Lets_contains, kp_Lets_contains⟩,
    am_Lets_eq := am_Lets_eq, fd_Lets_eq := _, F_Lets_eq := (FunV.mk ⟨_, _, _, _, _, _, _, _, _, _, rfl, l_Lets_eq, c_Lets_eq⟩ : FunV K "__eq__" "Lets.__eq__" s_Lets_eq am_Lets_eq _), b_Lets_eq := (fun_mk (st := s_Lets_eq) l_Lets_eq c_Lets_eq kp_Lets_eq).binds fun _ _ _ _ _ _ us hl => match us, hl with | [_, _], _ => rfl,
    me_Lets_eq := ⟨at_Lets_eq, fn_Lets_eq, kp_Lets_eq⟩,
    kt_Lets_NoneType := kit_of rfl ic_Lets ty_Lets ns_Lets_NoneType, ns_Lets_NoneType := ns_Lets_NoneType,
    kt_Lets_bool := kit_of rfl ic_Lets ty_Lets ns_Lets_bool, ns_Lets_bool := ns_Lets_bool,
    kt_Lets_int := kit_of rfl ic_Lets ty_Lets ns_Lets_int, ns_Lets_int := ns_Lets_int,
    kt_Lets_str := kit_of rfl ic_Lets ty_Lets ns_Lets_str, ns_Lets_str := ns_Lets_str,
    kt_Lets_list := kit_of rfl ic_Lets ty_Lets ns_Lets_list, ns_Lets_list := ns_Lets_list,
    kt_Lets_tuple := kit_of rfl ic_Lets ty_Lets ns_Lets_tuple, ns_Lets_tuple := ns_Lets_tuple,
    kt_Lets_dict := kit_of rfl ic_Lets ty_Lets ns_Lets_dict, ns_Lets_dict := ns_Lets_dict,
    kb_Lets_int := kit_bt sb_Lets_int (by decide +kernel),
    kb_Lets_bool := kit_bt sb_Lets_bool (by decide +kernel),
    kb_Lets_list := kit_bt sb_Lets_list (by decide +kernel),
    g_LONGEST := ⟨_, PySem.W.mg_of X G g_LONGEST⟩,
    g_MOST_NUMBERS := ⟨_, PySem.W.mg_of X G g_MOST_NUMBERS⟩,
    g_GREATEST := ⟨_, PySem.W.mg_of X G g_GREATEST⟩,
    m_all := PySem.W.mg_none_of X G z_all,
    m_bool := PySem.W.mg_none_of X G z_bool,
    m_enumerate := PySem.W.mg_none_of X G z_enumerate,
    m_int := PySem.W.mg_none_of X G z_int,
    m_isinstance := PySem.W.mg_none_of X G z_isinstance,
    m_len := PySem.W.mg_none_of X G z_len,
    m_list := PySem.W.mg_none_of X G z_list,
    m_max := PySem.W.mg_none_of X G z_max,
    m_range := PySem.W.mg_none_of X G z_range,
    m_repr := PySem.W.mg_none_of X G z_repr,
    m_sorted := PySem.W.mg_none_of X G z_sorted,
    m_sum := PySem.W.mg_none_of X G z_sum,
    m_tuple := PySem.W.mg_none_of X G z_tuple
  }
  exact ⟨T.fd_law, fun s v => .of_eq rfl, fun base _ _ => ok_law T⟩
end K05


set_option Elab.async false
set_option linter.all false
open PySem PySem.W PyProof.Rows
set_option maxRecDepth 100000 in
set_option maxHeartbeats 0 in
theorem PySem.Challenge.cw_gapswaps_k05_whole_deeds_of_orders_and_r_holds : PySem.Challenge.rw_gapswaps_k05_whole_deeds_of_orders_and_r.Holds := by
  w_on; o_law; k_head; (case hw => w_witness2)
  k_fill
  refine GS.walk_ofG (l := PySem.Challenge.rw_gapswaps_k05_whole_deeds_of_orders_and_r) (n := 63) (k := 9) (x := "_law_script") (sp := fun w => K05.spLaw _) rfl (by decide) rfl ⟨rfl, by decide, by decide⟩ (fun w h Y => PySem.W.kIn_of Y) ?F (fun _ _ a ns hl _ hS => ⟨a, ns, rfl, hS, fun _ => rfl⟩)
  case F =>
    intro w mg fa h KX G hmg
    refine' K05.all_mk KX G hmg ?g_is_whole ?l_is_whole ?c_is_whole ?k_is_whole ?g_is_count ?l_is_count ?c_is_count ?k_is_count ?g_is_row ?l_is_row ?c_is_row ?k_is_row ?g_is_order ?l_is_order ?c_is_order ?k_is_order ?g_is_log ?l_is_log ?c_is_log ?k_is_log ?g_need_order ?l_need_order ?c_need_order ?k_need_order ?g_need_row ?l_need_row ?c_need_row ?k_need_row ?g_log_of ?l_log_of ?c_log_of ?k_log_of ?g_order_of ?l_order_of ?c_order_of ?k_order_of ?g_left_count ?l_left_count ?c_left_count ?k_left_count ?g_exchanged ?l_exchanged ?c_exchanged ?k_exchanged ?g_may_be_told ?l_may_be_told ?c_may_be_told ?k_may_be_told ?g_are_numbers ?l_are_numbers ?c_are_numbers ?k_are_numbers ?g_need_lets ?l_need_lets ?c_need_lets ?k_need_lets ?g_need_place ?l_need_place ?c_need_place ?k_need_place ?g_order_done ?l_order_done ?c_order_done ?k_order_done ?g_done ?l_done ?c_done ?k_done ?g_row_done ?l_row_done ?c_row_done ?k_row_done ?g_open_places ?l_open_places ?c_open_places ?k_open_places ?g_l_hash ?l_l_hash ?c_l_hash ?k_l_hash ?g_l_random ?l_l_random ?c_l_random ?k_l_random ?g_l_cell ?l_l_cell ?c_l_cell ?k_l_cell ?g_l_generator ?l_l_generator ?c_l_generator ?k_l_generator ?g_l_order ?l_l_order ?c_l_order ?k_l_order ?g_l_log ?l_l_log ?c_l_log ?k_l_log ?g_l_drawn_log ?l_l_drawn_log ?c_l_drawn_log ?k_l_drawn_log ?g_l_menu ?l_l_menu ?c_l_menu ?k_l_menu ?g_l_let ?l_l_let ?c_l_let ?k_l_let ?g_l_pair ?l_l_pair ?c_l_pair ?k_l_pair ?g_l_near ?l_l_near ?c_l_near ?k_l_near ?g_l_lets ?l_l_lets ?c_l_lets ?k_l_lets ?g_l_left ?l_l_left ?c_l_left ?k_l_left ?g_l_caught ?l_l_caught ?c_l_caught ?k_l_caught ?g_l_only ?l_l_only ?c_l_only ?k_l_only ?g_l_row_right ?l_l_row_right ?c_l_row_right ?k_l_row_right ?g_l_order_right ?l_l_order_right ?c_l_order_right ?k_l_order_right ?g_l_refused ?l_l_refused ?c_l_refused ?k_l_refused ?g_law ?l_law ?c_law ?k_law ?g_GapError ?g_InvalidNumber ?g_InvalidOrder ?g_InvalidRow ?g_InvalidLets ?g_InvalidList ?g_InvalidPlace ?g_Lets ?eb_GapError ?ty_GapError ?ic_GapError ?eb_InvalidNumber ?ty_InvalidNumber ?ic_InvalidNumber ?eb_InvalidOrder ?ty_InvalidOrder ?ic_InvalidOrder ?eb_InvalidRow ?ty_InvalidRow ?ic_InvalidRow ?eb_InvalidLets ?ty_InvalidLets ?ic_InvalidLets ?eb_InvalidList ?ty_InvalidList ?ic_InvalidList ?eb_InvalidPlace ?ty_InvalidPlace ?ic_InvalidPlace ?ty_Lets ?ic_Lets ?xl_InvalidNumber ?xb_InvalidNumber ?sa_InvalidNumber ?kc_InvalidNumber ?ga_InvalidNumber ?gg_InvalidNumber ?hd_InvalidNumber ?ca_InvalidNumber ?mo_InvalidNumber ?nv_InvalidNumber ?i_InvalidNumber ?t_InvalidNumber ?l_InvalidNumber_init ?c_InvalidNumber_init ?ld_InvalidNumber ?s_InvalidNumber_GapError ?n_InvalidNumber_InvalidOrder ?e_InvalidNumber_InvalidOrder ?n_InvalidNumber_InvalidRow ?e_InvalidNumber_InvalidRow ?n_InvalidNumber_InvalidLets ?e_InvalidNumber_InvalidLets ?n_InvalidNumber_InvalidList ?e_InvalidNumber_InvalidList ?n_InvalidNumber_InvalidPlace ?e_InvalidNumber_InvalidPlace ?nn_InvalidNumber ?xl_InvalidOrder ?xb_InvalidOrder ?sa_InvalidOrder ?kc_InvalidOrder ?ga_InvalidOrder ?gg_InvalidOrder ?hd_InvalidOrder ?ca_InvalidOrder ?mo_InvalidOrder ?nv_InvalidOrder ?i_InvalidOrder ?t_InvalidOrder ?l_InvalidOrder_init ?c_InvalidOrder_init ?ld_InvalidOrder ?s_InvalidOrder_GapError ?n_InvalidOrder_InvalidNumber ?e_InvalidOrder_InvalidNumber ?n_InvalidOrder_InvalidRow ?e_InvalidOrder_InvalidRow ?n_InvalidOrder_InvalidLets ?e_InvalidOrder_InvalidLets ?n_InvalidOrder_InvalidList ?e_InvalidOrder_InvalidList ?n_InvalidOrder_InvalidPlace ?e_InvalidOrder_InvalidPlace ?nn_InvalidOrder ?xl_InvalidRow ?xb_InvalidRow ?sa_InvalidRow ?kc_InvalidRow ?ga_InvalidRow ?gg_InvalidRow ?hd_InvalidRow ?ca_InvalidRow ?mo_InvalidRow ?nv_InvalidRow ?i_InvalidRow ?t_InvalidRow ?l_InvalidRow_init ?c_InvalidRow_init ?ld_InvalidRow ?s_InvalidRow_GapError ?n_InvalidRow_InvalidNumber ?e_InvalidRow_InvalidNumber ?n_InvalidRow_InvalidOrder ?e_InvalidRow_InvalidOrder ?n_InvalidRow_InvalidLets ?e_InvalidRow_InvalidLets ?n_InvalidRow_InvalidList ?e_InvalidRow_InvalidList ?n_InvalidRow_InvalidPlace ?e_InvalidRow_InvalidPlace ?nn_InvalidRow ?xl_InvalidLets ?xb_InvalidLets ?sa_InvalidLets ?kc_InvalidLets ?ga_InvalidLets ?gg_InvalidLets ?hd_InvalidLets ?ca_InvalidLets ?mo_InvalidLets ?nv_InvalidLets ?i_InvalidLets ?t_InvalidLets ?l_InvalidLets_init ?c_InvalidLets_init ?ld_InvalidLets ?s_InvalidLets_GapError ?n_InvalidLets_InvalidNumber ?e_InvalidLets_InvalidNumber ?n_InvalidLets_InvalidOrder ?e_InvalidLets_InvalidOrder ?n_InvalidLets_InvalidRow ?e_InvalidLets_InvalidRow ?n_InvalidLets_InvalidList ?e_InvalidLets_InvalidList ?n_InvalidLets_InvalidPlace ?e_InvalidLets_InvalidPlace ?nn_InvalidLets ?xl_InvalidList ?xb_InvalidList ?sa_InvalidList ?kc_InvalidList ?ga_InvalidList ?gg_InvalidList ?hd_InvalidList ?ca_InvalidList ?mo_InvalidList ?nv_InvalidList ?i_InvalidList ?t_InvalidList ?l_InvalidList_init ?c_InvalidList_init ?ld_InvalidList ?s_InvalidList_GapError ?n_InvalidList_InvalidNumber ?e_InvalidList_InvalidNumber ?n_InvalidList_InvalidOrder ?e_InvalidList_InvalidOrder ?n_InvalidList_InvalidRow ?e_InvalidList_InvalidRow ?n_InvalidList_InvalidLets ?e_InvalidList_InvalidLets ?n_InvalidList_InvalidPlace ?e_InvalidList_InvalidPlace ?nn_InvalidList ?xl_InvalidPlace ?xb_InvalidPlace ?sa_InvalidPlace ?kc_InvalidPlace ?ga_InvalidPlace ?gg_InvalidPlace ?hd_InvalidPlace ?ca_InvalidPlace ?mo_InvalidPlace ?nv_InvalidPlace ?i_InvalidPlace ?t_InvalidPlace ?l_InvalidPlace_init ?c_InvalidPlace_init ?ld_InvalidPlace ?s_InvalidPlace_GapError ?n_InvalidPlace_InvalidNumber ?e_InvalidPlace_InvalidNumber ?n_InvalidPlace_InvalidOrder ?e_InvalidPlace_InvalidOrder ?n_InvalidPlace_InvalidRow ?e_InvalidPlace_InvalidRow ?n_InvalidPlace_InvalidLets ?e_InvalidPlace_InvalidLets ?n_InvalidPlace_InvalidList ?e_InvalidPlace_InvalidList ?nn_InvalidPlace ?pg_Lets ?hd_Lets ?po_Lets ?sa_Lets ?mk_Lets ?kc_Lets ?ca_Lets ?mo_Lets ?na_Lets__start ?na_Lets__numbers ?na_Lets__table ?at_Lets_init ?fn_Lets_init ?kp_Lets_init ?l_Lets_init ?c_Lets_init ?ld_Lets_init ?at_Letssettle ?fn_Letssettle ?kp_Letssettle ?l_Letssettle ?c_Letssettle ?at_Lets_numbers ?fn_Lets_numbers ?kp_Lets_numbers ?l_Lets_numbers ?c_Lets_numbers ?at_Lets_start ?fn_Lets_start ?kp_Lets_start ?l_Lets_start ?c_Lets_start ?at_Lets_contains ?fn_Lets_contains ?kp_Lets_contains ?l_Lets_contains ?c_Lets_contains ?at_Lets_eq ?fn_Lets_eq ?kp_Lets_eq ?l_Lets_eq ?c_Lets_eq ?ns_Lets_NoneType ?ns_Lets_bool ?ns_Lets_int ?ns_Lets_str ?ns_Lets_list ?ns_Lets_tuple ?ns_Lets_dict ?sb_Lets_int ?sb_Lets_bool ?sb_Lets_list ?cg ?ctk ?g_LONGEST ?g_MOST_NUMBERS ?g_GREATEST ?z_all ?z_bool ?z_enumerate ?z_int ?z_isinstance ?z_len ?z_list ?z_max ?z_range ?z_repr ?z_sorted ?z_sum ?z_tuple
    (case g_is_whole => k_is)
    (case l_is_whole => k_is)
    (case c_is_whole => k_is)
    (case k_is_whole => k_is)
    (case g_is_count => k_is)
    (case l_is_count => k_is)
    (case c_is_count => k_is)
    (case k_is_count => k_is)
    (case g_is_row => k_is)
    (case l_is_row => k_is)
    (case c_is_row => k_is)
    (case k_is_row => k_is)
    (case g_is_order => k_is)
    (case l_is_order => k_is)
    (case c_is_order => k_is)
    (case k_is_order => k_is)
    (case g_is_log => k_is)
    (case l_is_log => k_is)
    (case c_is_log => k_is)
    (case k_is_log => k_is)
    (case g_need_order => k_is)
    (case l_need_order => k_is)
    (case c_need_order => k_is)
    (case k_need_order => k_is)
    (case g_need_row => k_is)
    (case l_need_row => k_is)
    (case c_need_row => k_is)
    (case k_need_row => k_is)
    (case g_log_of => k_is)
    (case l_log_of => k_is)
    (case c_log_of => k_is)
    (case k_log_of => k_is)
    (case g_order_of => k_is)
    (case l_order_of => k_is)
    (case c_order_of => k_is)
    (case k_order_of => k_is)
    (case g_left_count => k_is)
    (case l_left_count => k_is)
    (case c_left_count => k_is)
    (case k_left_count => k_is)
    (case g_exchanged => k_is)
    (case l_exchanged => k_is)
    (case c_exchanged => k_is)
    (case k_exchanged => k_is)
    (case g_may_be_told => k_is)
    (case l_may_be_told => k_is)
    (case c_may_be_told => k_is)
    (case k_may_be_told => k_is)
    (case g_are_numbers => k_is)
    (case l_are_numbers => k_is)
    (case c_are_numbers => k_is)
    (case k_are_numbers => k_is)
    (case g_need_lets => k_is)
    (case l_need_lets => k_is)
    (case c_need_lets => k_is)
    (case k_need_lets => k_is)
    (case g_need_place => k_is)
    (case l_need_place => k_is)
    (case c_need_place => k_is)
    (case k_need_place => k_is)
    (case g_order_done => k_is)
    (case l_order_done => k_is)
    (case c_order_done => k_is)
    (case k_order_done => k_is)
    (case g_done => k_is)
    (case l_done => k_is)
    (case c_done => k_is)
    (case k_done => k_is)
    (case g_row_done => k_is)
    (case l_row_done => k_is)
    (case c_row_done => k_is)
    (case k_row_done => k_is)
    (case g_open_places => k_is)
    (case l_open_places => k_is)
    (case c_open_places => k_is)
    (case k_open_places => k_is)
    (case g_l_hash => k_is)
    (case l_l_hash => k_is)
    (case c_l_hash => k_is)
    (case k_l_hash => k_is)
    (case g_l_random => k_is)
    (case l_l_random => k_is)
    (case c_l_random => k_is)
    (case k_l_random => k_is)
    (case g_l_cell => k_is)
    (case l_l_cell => k_is)
    (case c_l_cell => k_is)
    (case k_l_cell => k_is)
    (case g_l_generator => k_is)
    (case l_l_generator => k_is)
    (case c_l_generator => k_is)
    (case k_l_generator => k_is)
    (case g_l_order => k_is)
    (case l_l_order => k_is)
    (case c_l_order => k_is)
    (case k_l_order => k_is)
    (case g_l_log => k_is)
    (case l_l_log => k_is)
    (case c_l_log => k_is)
    (case k_l_log => k_is)
    (case g_l_drawn_log => k_is)
    (case l_l_drawn_log => k_is)
    (case c_l_drawn_log => k_is)
    (case k_l_drawn_log => k_is)
    (case g_l_menu => k_is)
    (case l_l_menu => k_is)
    (case c_l_menu => k_is)
    (case k_l_menu => k_is)
    (case g_l_let => k_is)
    (case l_l_let => k_is)
    (case c_l_let => k_is)
    (case k_l_let => k_is)
    (case g_l_pair => k_is)
    (case l_l_pair => k_is)
    (case c_l_pair => k_is)
    (case k_l_pair => k_is)
    (case g_l_near => k_is)
    (case l_l_near => k_is)
    (case c_l_near => k_is)
    (case k_l_near => k_is)
    (case g_l_lets => k_is)
    (case l_l_lets => k_is)
    (case c_l_lets => k_is)
    (case k_l_lets => k_is)
    (case g_l_left => k_is)
    (case l_l_left => k_is)
    (case c_l_left => k_is)
    (case k_l_left => k_is)
    (case g_l_caught => k_is)
    (case l_l_caught => k_is)
    (case c_l_caught => k_is)
    (case k_l_caught => k_is)
    (case g_l_only => k_is)
    (case l_l_only => k_is)
    (case c_l_only => k_is)
    (case k_l_only => k_is)
    (case g_l_row_right => k_is)
    (case l_l_row_right => k_is)
    (case c_l_row_right => k_is)
    (case k_l_row_right => k_is)
    (case g_l_order_right => k_is)
    (case l_l_order_right => k_is)
    (case c_l_order_right => k_is)
    (case k_l_order_right => k_is)
    (case g_l_refused => k_is)
    (case l_l_refused => k_is)
    (case c_l_refused => k_is)
    (case k_l_refused => k_is)
    (case g_law => k_is)
    (case l_law => k_is)
    (case c_law => k_is)
    (case k_law => k_is)
    (case g_GapError => k_is)
    (case g_InvalidNumber => k_is)
    (case g_InvalidOrder => k_is)
    (case g_InvalidRow => k_is)
    (case g_InvalidLets => k_is)
    (case g_InvalidList => k_is)
    (case g_InvalidPlace => k_is)
    (case g_Lets => k_is)
    (case eb_GapError => k_is)
    (case ty_GapError => k_is)
    (case ic_GapError => k_is)
    (case eb_InvalidNumber => k_is)
    (case ty_InvalidNumber => k_is)
    (case ic_InvalidNumber => k_is)
    (case eb_InvalidOrder => k_is)
    (case ty_InvalidOrder => k_is)
    (case ic_InvalidOrder => k_is)
    (case eb_InvalidRow => k_is)
    (case ty_InvalidRow => k_is)
    (case ic_InvalidRow => k_is)
    (case eb_InvalidLets => k_is)
    (case ty_InvalidLets => k_is)
    (case ic_InvalidLets => k_is)
    (case eb_InvalidList => k_is)
    (case ty_InvalidList => k_is)
    (case ic_InvalidList => k_is)
    (case eb_InvalidPlace => k_is)
    (case ty_InvalidPlace => k_is)
    (case ic_InvalidPlace => k_is)
    (case ty_Lets => k_is)
    (case ic_Lets => k_is)
    (case xl_InvalidNumber => k_is)
    (case xb_InvalidNumber => first | rfl | decide +kernel)
    (case sa_InvalidNumber => k_is)
    (case kc_InvalidNumber => k_is)
    (case ga_InvalidNumber => k_is)
    (case gg_InvalidNumber => k_is)
    (case hd_InvalidNumber => k_is)
    (case ca_InvalidNumber => k_is)
    (case mo_InvalidNumber => k_is)
    (case nv_InvalidNumber => k_is)
    (case i_InvalidNumber => k_is)
    (case t_InvalidNumber => k_is)
    (case l_InvalidNumber_init => k_is)
    (case c_InvalidNumber_init => k_is)
    (case ld_InvalidNumber => k_is)
    (case s_InvalidNumber_GapError => first | rfl | k_is)
    (case n_InvalidNumber_InvalidOrder => k_is)
    (case e_InvalidNumber_InvalidOrder => first | rfl | decide +kernel)
    (case n_InvalidNumber_InvalidRow => k_is)
    (case e_InvalidNumber_InvalidRow => first | rfl | decide +kernel)
    (case n_InvalidNumber_InvalidLets => k_is)
    (case e_InvalidNumber_InvalidLets => first | rfl | decide +kernel)
    (case n_InvalidNumber_InvalidList => k_is)
    (case e_InvalidNumber_InvalidList => first | rfl | decide +kernel)
    (case n_InvalidNumber_InvalidPlace => k_is)
    (case e_InvalidNumber_InvalidPlace => first | rfl | decide +kernel)
    (case nn_InvalidNumber => k_is)
    (case xl_InvalidOrder => k_is)
    (case xb_InvalidOrder => first | rfl | decide +kernel)
    (case sa_InvalidOrder => k_is)
    (case kc_InvalidOrder => k_is)
    (case ga_InvalidOrder => k_is)
    (case gg_InvalidOrder => k_is)
    (case hd_InvalidOrder => k_is)
    (case ca_InvalidOrder => k_is)
    (case mo_InvalidOrder => k_is)
    (case nv_InvalidOrder => k_is)
    (case i_InvalidOrder => k_is)
    (case t_InvalidOrder => k_is)
    (case l_InvalidOrder_init => k_is)
    (case c_InvalidOrder_init => k_is)
    (case ld_InvalidOrder => k_is)
    (case s_InvalidOrder_GapError => first | rfl | k_is)
    (case n_InvalidOrder_InvalidNumber => k_is)
    (case e_InvalidOrder_InvalidNumber => first | rfl | decide +kernel)
    (case n_InvalidOrder_InvalidRow => k_is)
    (case e_InvalidOrder_InvalidRow => first | rfl | decide +kernel)
    (case n_InvalidOrder_InvalidLets => k_is)
    (case e_InvalidOrder_InvalidLets => first | rfl | decide +kernel)
    (case n_InvalidOrder_InvalidList => k_is)
    (case e_InvalidOrder_InvalidList => first | rfl | decide +kernel)
    (case n_InvalidOrder_InvalidPlace => k_is)
    (case e_InvalidOrder_InvalidPlace => first | rfl | decide +kernel)
    (case nn_InvalidOrder => k_is)
    (case xl_InvalidRow => k_is)
    (case xb_InvalidRow => first | rfl | decide +kernel)
    (case sa_InvalidRow => k_is)
    (case kc_InvalidRow => k_is)
    (case ga_InvalidRow => k_is)
    (case gg_InvalidRow => k_is)
    (case hd_InvalidRow => k_is)
    (case ca_InvalidRow => k_is)
    (case mo_InvalidRow => k_is)
    (case nv_InvalidRow => k_is)
    (case i_InvalidRow => k_is)
    (case t_InvalidRow => k_is)
    (case l_InvalidRow_init => k_is)
    (case c_InvalidRow_init => k_is)
    (case ld_InvalidRow => k_is)
    (case s_InvalidRow_GapError => first | rfl | k_is)
    (case n_InvalidRow_InvalidNumber => k_is)
    (case e_InvalidRow_InvalidNumber => first | rfl | decide +kernel)
    (case n_InvalidRow_InvalidOrder => k_is)
    (case e_InvalidRow_InvalidOrder => first | rfl | decide +kernel)
    (case n_InvalidRow_InvalidLets => k_is)
    (case e_InvalidRow_InvalidLets => first | rfl | decide +kernel)
    (case n_InvalidRow_InvalidList => k_is)
    (case e_InvalidRow_InvalidList => first | rfl | decide +kernel)
    (case n_InvalidRow_InvalidPlace => k_is)
    (case e_InvalidRow_InvalidPlace => first | rfl | decide +kernel)
    (case nn_InvalidRow => k_is)
    (case xl_InvalidLets => k_is)
    (case xb_InvalidLets => first | rfl | decide +kernel)
    (case sa_InvalidLets => k_is)
    (case kc_InvalidLets => k_is)
    (case ga_InvalidLets => k_is)
    (case gg_InvalidLets => k_is)
    (case hd_InvalidLets => k_is)
    (case ca_InvalidLets => k_is)
    (case mo_InvalidLets => k_is)
    (case nv_InvalidLets => k_is)
    (case i_InvalidLets => k_is)
    (case t_InvalidLets => k_is)
    (case l_InvalidLets_init => k_is)
    (case c_InvalidLets_init => k_is)
    (case ld_InvalidLets => k_is)
    (case s_InvalidLets_GapError => first | rfl | k_is)
    (case n_InvalidLets_InvalidNumber => k_is)
    (case e_InvalidLets_InvalidNumber => first | rfl | decide +kernel)
    (case n_InvalidLets_InvalidOrder => k_is)
    (case e_InvalidLets_InvalidOrder => first | rfl | decide +kernel)
    (case n_InvalidLets_InvalidRow => k_is)
    (case e_InvalidLets_InvalidRow => first | rfl | decide +kernel)
    (case n_InvalidLets_InvalidList => k_is)
    (case e_InvalidLets_InvalidList => first | rfl | decide +kernel)
    (case n_InvalidLets_InvalidPlace => k_is)
    (case e_InvalidLets_InvalidPlace => first | rfl | decide +kernel)
    (case nn_InvalidLets => k_is)
    (case xl_InvalidList => k_is)
    (case xb_InvalidList => first | rfl | decide +kernel)
    (case sa_InvalidList => k_is)
    (case kc_InvalidList => k_is)
    (case ga_InvalidList => k_is)
    (case gg_InvalidList => k_is)
    (case hd_InvalidList => k_is)
    (case ca_InvalidList => k_is)
    (case mo_InvalidList => k_is)
    (case nv_InvalidList => k_is)
    (case i_InvalidList => k_is)
    (case t_InvalidList => k_is)
    (case l_InvalidList_init => k_is)
    (case c_InvalidList_init => k_is)
    (case ld_InvalidList => k_is)
    (case s_InvalidList_GapError => first | rfl | k_is)
    (case n_InvalidList_InvalidNumber => k_is)
    (case e_InvalidList_InvalidNumber => first | rfl | decide +kernel)
    (case n_InvalidList_InvalidOrder => k_is)
    (case e_InvalidList_InvalidOrder => first | rfl | decide +kernel)
    (case n_InvalidList_InvalidRow => k_is)
    (case e_InvalidList_InvalidRow => first | rfl | decide +kernel)
    (case n_InvalidList_InvalidLets => k_is)
    (case e_InvalidList_InvalidLets => first | rfl | decide +kernel)
    (case n_InvalidList_InvalidPlace => k_is)
    (case e_InvalidList_InvalidPlace => first | rfl | decide +kernel)
    (case nn_InvalidList => k_is)
    (case xl_InvalidPlace => k_is)
    (case xb_InvalidPlace => first | rfl | decide +kernel)
    (case sa_InvalidPlace => k_is)
    (case kc_InvalidPlace => k_is)
    (case ga_InvalidPlace => k_is)
    (case gg_InvalidPlace => k_is)
    (case hd_InvalidPlace => k_is)
    (case ca_InvalidPlace => k_is)
    (case mo_InvalidPlace => k_is)
    (case nv_InvalidPlace => k_is)
    (case i_InvalidPlace => k_is)
    (case t_InvalidPlace => k_is)
    (case l_InvalidPlace_init => k_is)
    (case c_InvalidPlace_init => k_is)
    (case ld_InvalidPlace => k_is)
    (case s_InvalidPlace_GapError => first | rfl | k_is)
    (case n_InvalidPlace_InvalidNumber => k_is)
    (case e_InvalidPlace_InvalidNumber => first | rfl | decide +kernel)
    (case n_InvalidPlace_InvalidOrder => k_is)
    (case e_InvalidPlace_InvalidOrder => first | rfl | decide +kernel)
    (case n_InvalidPlace_InvalidRow => k_is)
    (case e_InvalidPlace_InvalidRow => first | rfl | decide +kernel)
    (case n_InvalidPlace_InvalidLets => k_is)
    (case e_InvalidPlace_InvalidLets => first | rfl | decide +kernel)
    (case n_InvalidPlace_InvalidList => k_is)
    (case e_InvalidPlace_InvalidList => first | rfl | decide +kernel)
    (case nn_InvalidPlace => k_is)
    (case pg_Lets => k_is)
    (case hd_Lets => k_is)
    (case po_Lets => k_is)
    (case sa_Lets => k_is)
    (case mk_Lets => k_is)
    (case kc_Lets => k_is)
    (case ca_Lets => k_is)
    (case mo_Lets => k_is)
    (case na_Lets__start => k_is)
    (case na_Lets__numbers => k_is)
    (case na_Lets__table => k_is)
    (case at_Lets_init => k_is)
    (case fn_Lets_init => k_is)
    (case kp_Lets_init => k_is)
    (case l_Lets_init => k_is)
    (case c_Lets_init => k_is)
    (case ld_Lets_init => k_is)
    (case at_Letssettle => k_is)
    (case fn_Letssettle => k_is)
    (case kp_Letssettle => k_is)
    (case l_Letssettle => k_is)
    (case c_Letssettle => k_is)
    (case at_Lets_numbers => k_is)
    (case fn_Lets_numbers => k_is)
    (case kp_Lets_numbers => k_is)
    (case l_Lets_numbers => k_is)
    (case c_Lets_numbers => k_is)
    (case at_Lets_start => k_is)
    (case fn_Lets_start => k_is)
    (case kp_Lets_start => k_is)
    (case l_Lets_start => k_is)
    (case c_Lets_start => k_is)
    (case at_Lets_contains => k_is)
    (case fn_Lets_contains => k_is)
    (case kp_Lets_contains => k_is)
    (case l_Lets_contains => k_is)
    (case c_Lets_contains => k_is)
    (case at_Lets_eq => k_is)
    (case fn_Lets_eq => k_is)
    (case kp_Lets_eq => k_is)
    (case l_Lets_eq => k_is)
    (case c_Lets_eq => k_is)
    (case ns_Lets_NoneType => k_is)
    (case ns_Lets_bool => k_is)
    (case ns_Lets_int => k_is)
    (case ns_Lets_str => k_is)
    (case ns_Lets_list => k_is)
    (case ns_Lets_tuple => k_is)
    (case ns_Lets_dict => k_is)
    (case sb_Lets_int => k_is)
    (case sb_Lets_bool => k_is)
    (case sb_Lets_list => k_is)
    (case cg => k_is)
    (case ctk => k_is)
    (case g_LONGEST => k_is)
    (case g_MOST_NUMBERS => k_is)
    (case g_GREATEST => k_is)
    (case z_all => k_is)
    (case z_bool => k_is)
    (case z_enumerate => k_is)
    (case z_int => k_is)
    (case z_isinstance => k_is)
    (case z_len => k_is)
    (case z_list => k_is)
    (case z_max => k_is)
    (case z_range => k_is)
    (case z_repr => k_is)
    (case z_sorted => k_is)
    (case z_sum => k_is)
    (case z_tuple => k_is)

import PyProof.Rows.All
import Wide.All
import OpenK.AllK
import Wide.FinOn
import HandS.ForMost
import HandS.ForExc
import HandS.Evl
import HandS.IsInst
import HandS.ExcInit
import HandS.ExcIs
import HandS.ExcField
import HandS.TryOnly
import HandS.WideBits
import HandS.SortInts
import HandS.Conv
import HandS.Deep
import HandS.Defaults
import PyProof.ReprRoads
import KE.KExcIs
import KE.IntBitsLaws
import KE.KSortedM
import HandS.DictComp
import KE.KMathGC
import KE.SortData
import HandS.Gcd
import HandS.Iter
import HandS.SetFor
import PyProof.Rows.Range3
import HandS.SlotsOwn
import HandS.MakeKw
import HandS.MakeKwOnly
import OpenK.KMeth
import HandS.Codes
import HandS.More
import PySem.Challenge.RW_gapswaps_k09_sets_of_counts
import HandS.Style
set_option Elab.async false
set_option linter.all false
set_option maxRecDepth 100000
set_option maxHeartbeats 4000000
namespace GS
open PySem PySem.Spec PyProof.Rows L2 Evl

/-! defs that are called where nothing is being shown -/
structure FnG (P : Program) (w : World) (K : PySem.W.Frag) (mg : Str → Option Value) (base : Heap)
    (CX : CXT) (k : Nat) (f : Addr) (fd : FuncData) (ps : List Str) (sp : Sp) : Prop where
  ar : ∀ vs H Q E, sp vs H Q E → vs.length = ps.length
  go : ∀ (A : Around) (outer : List Env) (s : Shared) (H : Hp) (args : Args)
      (us : List Value) (vs : List V) (Q : VK) (E : XK),
    Room k A → A.guards = some [] → Env0 P w K mg base A outer s H →
    BindsTo s fd args (ps.zip us) → Vals vs us → sp vs H Q E →
    codeAny (model P w) A (.call (.ref f) args) (CR CX outer P w H s Q E) s

theorem FnG.of {P w K mg base CX k f fd ps sp} (F : FnOk P w K mg base CX k f fd ps sp) :
    FnG P w K mg base CX k f fd ps sp :=
  ⟨F.len, fun A outer s H args us vs Q E h1 _ h2 h3 h4 h5 =>
    F.run A outer s H args us vs Q E h1 h2 h3 h4 h5⟩
theorem FnG.mono {P w K mg base CX j k f fd ps sp} (F : FnG P w K mg base CX j f fd ps sp) (h : j ≤ k) :
    FnG P w K mg base CX k f fd ps sp :=
  ⟨F.ar, fun A outer s H args us vs Q E h1 => F.go A outer s H args us vs Q E (h1.mono h)⟩

section
variable {X : Cx} {CX : CXT} {k : Nat} {f : Addr} {fd : FuncData} {ps : List Str} {sp : Sp}
  {dvs : List V} {ds : List Value} {E : XK} {x : Str} {p pos : Pos} {e : Expr} {es : List Expr} {t : TA}

theorem run_g {pins : List (Addr × Obj)} {σ : L2.St} {H : Hp} {s : Shared} {Q : VK}
    {us : List Value} {vs : List V}
    (F : FnG X.prog X.w X.K X.mg X.base CX k f fd ps sp) (hr : Room k X.A) (hq : X.A.guards = some [])
    (hb : Binds X.K fd ps ds) (hd : Vals dvs ds) (hx : Passes CX X E)
    (I : Inv X pins σ H s) (r : Vals vs us) (h : sp (vs ++ dvs) H Q E) :
    wpAny (model X.prog X.w) X.A (call (.ref f) us) (EP X pins σ Q) X.xe s := by
  have rr : Vals (vs ++ dvs) (us ++ ds) := r.append hd
  have el : (us ++ ds).length = ps.length := rr.length.symm.trans (F.ar _ _ _ _ h)
  have z := F.go X.A X.stack s H ⟨us, []⟩ (us ++ ds) (vs ++ dvs) Q E hr hq I.env0
    (hb s us I.kIn el) rr h
  refine wpAny_call (codeAny_mono z fun res s2 q => ?_)
  match res, q with
  | .error err, q => exact hx pins σ H s err s2 I q
  | .ok (.ret u), q => exact I.after q
  | .ok .next, q => exact q.elim
  | .ok .brk, q => exact q.elim
  | .ok .cont, q => exact q.elim

theorem pe_callG (F : FnG X.prog X.w X.K X.mg X.base CX k f fd ps sp) (hr : Room k X.A)
    (hq : X.A.guards = some []) (hg : Gl X x) (hm : X.mg x = some (.ref f))
    (hk : PySem.W.keepIn X.K (.ref f) = true) (hb : Binds X.K fd ps ds) (hd : Vals dvs ds)
    (hx : Passes CX X E) (ha : PA X (e :: es) t)
    (hdb : (x == ("__debug__" : Str)) = false := by decide)
    (hs : starEach (e :: es) X.env = (false, eval e X.env) :: starEach es X.env := by rfl)
    (hpl : (backTo pos (starEach es X.env)).any (·.1) = false := by rfl) :
    PE X (.Call (.Name x p) (e :: es) [] pos) (tCall sp dvs E t) :=
  ⟨fun pins s σ H Q I h => wpAny_Call_Name_kw (ld_glob I hg hm
    (PySem.W.callWith_K (h₀ := X.base) I.ok.mod.kin hk
      (thn (ha.run pos pins s σ H _ I h) fun us s1 ⟨vs, H1, I1, r, q⟩ =>
        ⟨I1.kIn, run_g F hr hq hb hd hx I1 r q⟩) hs hpl) hdb)⟩
theorem pe_callG0 (F : FnG X.prog X.w X.K X.mg X.base CX k f fd ps sp) (hr : Room k X.A)
    (hq : X.A.guards = some []) (hg : Gl X x) (hm : X.mg x = some (.ref f))
    (hk : PySem.W.keepIn X.K (.ref f) = true) (hb : Binds X.K fd ps ds) (hd : Vals dvs ds)
    (hx : Passes CX X E) (hdb : (x == ("__debug__" : Str)) = false := by decide) :
    PE X (.Call (.Name x p) [] [] pos) (tCall sp dvs E tNil) :=
  ⟨fun pins s σ H Q I h => wpAny_Call_Name_kw (ld_glob I hg hm
    (PySem.W.callWith_K0 I.kIn hk (run_g (us := []) F hr hq hb hd hx I .nil h)) hdb)⟩
end

theorem fn_ofG {CX : CXT} {P : Program} {w : World} {K : PySem.W.Frag} {mg : Str → Option Value}
    {base : Heap} {k : Nat} {f : Addr} {name qual : Str} {params : Arguments} {body : List Stmt}
    {scope : Scope} {dV kV doc pm cdv ct oc : Value} {an od : Option Addr}
    {osl : Array (Option Value)} {N ps : List Str} {sp : Sp}
    (lk : K.lookup f = some ⟨oc, od,
      .func (PySem.W.fnOf name qual params body scope dV kV doc pm an cdv ct), osl⟩)
    (hcd : PySem.W.codeIn K cdv qual = true) (S : FnScope N ps scope)
    (len : ∀ vs H Q E, sp vs H Q E → vs.length = ps.length)
    (hbody : ∀ (A : Around) (outer : List Env) (s : Shared) (H : Hp) (vs : List V) (Q : VK) (E : XK),
      Room k (A.deeper (envOfC qual scope s.heap.objs.size f cdv)) → A.guards = some [] →
      sp vs H Q E →
      ∃ t, PSs (cxOf CX P w K mg base N qual scope f cdv A outer s H E) body t ∧
        t { nx := fun _ H' => Q .non H', rt := Q } (start N vs) H) :
    FnG P w K mg base CX (k + 1) f
      (PySem.W.fnOf name qual params body scope dV kV doc pm an cdv ct) ps sp := by
  constructor
  · exact len
  intro A outer s H args us vs Q E hr hq e0 hb r hsp
  have el := len _ _ _ _ hsp
  have inK : K.In s.heap := e0.mod.kin.keeps fun b o z => (e0.bs b o z).1
  have nl : s.heap.NoLimit := e0.mod.nolimit.keeps fun b o z => (e0.bs b o z).1
  refine codeAny_call_function hr.depth (inK _ _ lk) rfl S.co S.gen rfl
    (PySem.W.codeRec_of inK hcd) (hb _ _ _ _ ?_)
  refine wpAny_newFunctionEnv_cells S.kind (fun y hy => ?_) fun env he s1 x => ?_
  · rcases S.par y.1 (List.of_mem_zip (a := y.1) (b := y.2) hy).1 with q | q
    · exact .inl q
    · exact .inr ⟨q, PySem.W.cellsFrom_some _ _ _ (.inl q)⟩
  subst he
  refine ⟨nl.keeps x.toInCall.keep, codeAny_func ?_⟩
  obtain ⟨t, ht, hz⟩ := hbody A outer s H vs Q E (hr.deeper _) hq hsp
  have I : Inv (cxOf CX P w K mg base N qual scope f cdv A outer s H E) [] (start N vs) H s1 :=
    inv_start S hr.hd e0 el r x
  refine wpAny_mono (ht.run [] s1 (start N vs) H _ I hz) ?_ fun _ _ z => z
  intro fl s2 z
  match fl, z with
  | .ret u, ⟨v, σ2, H2, J, rv, q⟩ => exact ⟨v, H2, J.os, J.bare, J.base, J.hok, rv, q⟩
  | .next, ⟨σ2, H2, J, q⟩ => exact ⟨.non, H2, J.os, J.bare, J.base, J.hok, rfl, q⟩
  | .brk, ⟨_, _, _, q⟩ => exact q.elim
  | .cont, ⟨_, _, _, q⟩ => exact q.elim

section
variable {P : Program} {w : World} {K : PySem.W.Frag} {mg : Str → Option Value} {base : Heap}
/-- a def that lets no error out -/
theorem fun_g {x qual : Str} {st : Stmt} {f : Addr} {fd : FuncData} {N ps : List Str} {k : Nat}
    {sp : Sp} (F : Fun K x qual st f fd) (S : FnScope N ps (defScope st))
    (len : ∀ vs H Q E, sp vs H Q E → vs.length = ps.length)
    (hb : ∀ (cdv : Value) (A : Around) (outer : List Env) (s : Shared) (H : Hp) (vs : List V) (Q : VK) (E : XK),
      Room k (A.deeper (envOfC qual (defScope st) s.heap.objs.size f cdv)) → A.guards = some [] → sp vs H Q E →
      ∃ t, PSs (cxOf CX0 P w K mg base N qual (defScope st) f cdv A outer s H E).nox (defBody st) t ∧
        t { nx := fun _ H' => Q .non H', rt := Q } (start N vs) H) :
    FnG P w K mg base CX0 (k + 1) f fd ps sp := by
  obtain ⟨oc, od, kV, doc, pm, an, cdv, ct, osl, rfl, lk, hcd⟩ := F.ex
  refine fn_ofG lk hcd S len fun A outer s H vs Q E hr hq hsp => ?_
  obtain ⟨t, h, q⟩ := hb cdv A outer s H vs Q E hr hq hsp
  exact ⟨t, h.nox, q⟩
end

/-! the end over such a law -/
theorem law_callG {P : Program} {w : World} {K : PySem.W.Frag} {mg mb : Str → Option Value} {k : Nat}
    {fa a : Addr} {fd : FuncData} {x : Str} {sp : Sp} {s1 : Shared} {vs : List Value} {ns : List Int}
    (KX : K.In s1.heap) (hns : s1.heap.Ns mainGlobals mg) (hb : s1.heap.Ns builtinsNs mb)
    (hbb : ∀ x : Str, x ≠ "__name__" → mb x = bootBuiltins x) (hlim : s1.heap.NoLimit)
    (hg : s1.gens = #[]) (ha : s1.heap.get? a = some { cls := .type "list", data := .seq vs.toArray })
    (hi : IntsAre vs ns) (hl : ns.length ≤ sizeLine) (hr : Room k callerA)
    (F : ∀ base : Heap, K.In base → base.Ns mainGlobals mg → FnG P w K mg base CX0 k fa fd [x] sp)
    (hbind : ∀ (s : Shared) (u : Value), BindsTo s fd ⟨[u], []⟩ [(x, u)])
    (hsp : ∀ H : Hp, Only H → SqL K H a (ns.map V.int) → sp [.ref a] H (fun v _ => v = .bl true) fun _ _ _ => False) :
    codeAny (model P w) callerA (.call (.ref fa) ⟨[.ref a], []⟩)
      (fun r s2 => r = .ok (.ret (.bool true)) ∧ OldK s1.heap s2.heap ∧ s2.os = s1.os ∧ AllBare s2.gens) s1 := by
  have rv := vals_ints hi
  have lv := hi.length
  -- over any picture of the heap that knows the script alone
  have main : ∀ H : Hp, Only H → SqL K H a (ns.map V.int) → HOk P w H s1.heap → (∀ b, H b ≠ none → b = a) →
      (H a ≠ none → K.lookup a = none) → codeAny (model P w) callerA (.call (.ref fa) ⟨[.ref a], []⟩)
        (fun r s2 => r = .ok (.ret (.bool true)) ∧ OldK s1.heap s2.heap ∧ s2.os = s1.os ∧ AllBare s2.gens) s1 := by
    intro H hO hS hok hA hK
    have isA : ∀ {b : Addr} {u : HO}, H b = some u → b = a := fun q => hA _ (by rw [q]; simp)
    have offD : ∀ {b : Addr} {o : Obj} {es : Array DictEntry} {ep : Nat}, s1.heap.get? b = some o →
        o.data = .dict es ep → H b = none := by
      intro b o es ep e d
      cases q : H b with
      | none => rfl
      | some u =>
        obtain rfl := isA q
        rw [ha] at e
        cases e
        have d2 : Data.seq vs.toArray _ = Data.dict es ep := d
        cases d2
    have nsH : ∀ {b : Addr} {m : Str → Option Value}, s1.heap.Ns b m → (hidT s1.heap H).Ns b m := by
      rintro b m ⟨o, es, ep, e, d, r⟩
      exact ⟨o, es, ep, hidT_get e (offD e d), d, r⟩
    have kB : K.In (hidT s1.heap H) := by
      intro b o e
      refine hidT_get (KX b o e) ?_
      cases q : H b with
      | none => rfl
      | some u =>
        obtain rfl := isA q
        rw [hK (by rw [q]; simp)] at e
        cases e
    obtain ⟨mc, l1, l2⟩ := hlim
    have hM : Mod K mg (hidT s1.heap H) := ⟨kB, nsH hns, ⟨mb, nsH hb, hbb⟩, ⟨mc, nsH l1, l2⟩⟩
    have e0 : Env0 P w K mg (hidT s1.heap H) callerA [] s1 H :=
      { frames := rfl, mod := hM, bs := fun b o e => of_hidT e, bsz := Nat.le_of_eq (hidT_size _ _),
        funs := trivial, frf := (fun b z => nomatch z), hok := hok, bare := .of_eq hg }
    have z := (F _ kB (nsH hns)).go callerA [] s1 H ⟨[.ref a], []⟩ [.ref a] [.ref a] _ _ hr rfl e0
      (hbind s1 (.ref a)) (.cons rfl .nil) (hsp H hO hS)
    refine codeAny_mono z fun r s2 h => ?_
    match r, h with
    | .error e, h => exact h.elim
    | .ok .next, h => exact h.elim
    | .ok .brk, h => exact h.elim
    | .ok .cont, h => exact h.elim
    | .ok (.ret u), ⟨v, H2, os, bare, un, hok2, rr, q⟩ =>
      have q2 : v = .bl true := q
      subst q2
      obtain rfl : u = Value.bool true := rr
      refine ⟨rfl, OldK.of_keep fun b o e => ?_, os, bare⟩
      rcases hO b with n | ⟨ob, xs, n⟩
      · exact un.keep b o e n (fun z => nomatch z) (fun z => nomatch z)
      · have n2 := un.frzs b ob _ n
        obtain ⟨e1, _⟩ := hok b _ n
        obtain ⟨e2, _⟩ := hok2 b _ n2
        rw [e] at e1
        cases e1
        exact e2
  have hlv : vs.length = ns.length := lv
  cases hk : K.lookup a with
  | some o =>
    have e := KX a o hk
    rw [ha] at e
    cases e
    refine main (fun _ => none) (fun _ => .inl rfl) (.inr ⟨_, vs.toArray, _, hk, rfl, rfl, rfl, ?_, ?_⟩)
      (fun b u z => ?_) (fun b z => absurd rfl z) (fun z => absurd rfl z)
    · rw [List.size_toArray, hlv]; exact hl
    · simpa using rv
    · exact nomatch (show (none : Option HO) = some u from z)
  | none =>
    have yes : ∀ {b : Addr} {o : HO}, b = a → (fun b => if b = a then some o else none : Hp) b = some o := fun e => if_pos e
    have no : ∀ {b : Addr} {o : HO}, b ≠ a → (fun b => if b = a then some o else none : Hp) b = none := fun e => if_neg e
    refine main (fun b => if b = a then some (.frz { cls := .type "list", data := .seq vs.toArray } (.lst (ns.map V.int))) else none)
      (fun b => ?_) (.inl (.inr ⟨_, yes rfl⟩)) (fun b u z => ?_) (fun b z => ?_) fun _ => hk
    · by_cases hb2 : b = a
      · exact .inr ⟨_, _, yes hb2⟩
      · exact .inl (no hb2)
    · by_cases hb2 : b = a
      · have z2 := (yes hb2).symm.trans z
        cases z2
        subst hb2
        exact ⟨ha, by rw [List.length_map]; exact hl, vs, _, rv, ha⟩
      · exact nomatch (no hb2).symm.trans z
    · by_cases hb2 : b = a
      · exact hb2
      · exact absurd (no hb2) z

theorem walk_ofG {l : PySem.W.OpenLaw} {n k : Nat} {q : Program} {loose : List Str}
    {XP : (Str → Option Value) → Heap → Prop} {YP : World → Heap → Prop} {d : DefRec}
    {K : Params → PySem.W.Frag} {sp : World → Sp} {x : Str}
    (hn : l.most = some n) (hn2 : n ≤ sizeLine) (hdf : d.params.defaults = []) (hr : Room k callerA)
    (hY : ∀ (w : World) (h : Heap), YP w h → (K w.params).In h)
    (F : ∀ (w : World) (mg : Str → Option Value) (fa : Addr) (h : Heap), (K w.params).In h →
      h.Ns mainGlobals mg → mg d.name = some (.ref fa) →
      ∃ fd : FuncData, (∀ (s : Shared) (u : Value), BindsTo s fd ⟨[u], []⟩ [(x, u)]) ∧
        ∀ base : Heap, (K w.params).In base → base.Ns mainGlobals mg →
          FnG l.prog w (K w.params) mg base CX0 k fa fd [x] (sp w))
    (hsp : ∀ (w : World) (H : Hp) (a : Addr) (ns : List Int), ns.length ≤ n → Only H →
      SqL (K w.params) H a (ns.map V.int) → sp w [.ref a] H (fun v _ => v = .bl true) fun _ _ _ => False) :
    PySem.W.WalkO q loose XP YP l.row.toRowW d [] (fun f vs => PySem.call f vs) :=
  Att.attach_call hn hdf fun w s0 s1 mg mb fa o pm cd doc a vs ns G Y ho hd hcd hmg hobj hints hlen hg => by
    have KX := hY w _ Y
    obtain ⟨fd, hb, hF⟩ := F w mg fa _ KX G.T.g hmg
    exact law_callG KX G.T.g G.T.b G.T.builtins G.T.nolimit hg hobj hints (Nat.le_trans hlen hn2) hr hF hb
      fun H hO hS => hsp w H a ns hlen hO hS
end GS


set_option Elab.async false
set_option linter.all false
set_option maxRecDepth 100000
set_option maxHeartbeats 4000000
namespace GS
open PySem PySem.Spec PyProof.Rows L2 Evl

/-! an error that stays held behind its except clause -/
def exK (a : Addr) (cls : Value) (d : Option Addr) : HO :=
  .ext fun h => ∃ o vs, h.get? a = some o ∧ o.cls = cls ∧ o.dict = d ∧ o.data = .fields vs
theorem exK_at {P : Program} {w : World} {H : Hp} {h : Heap} {b a : Addr} {cls : Value} {d : Option Addr}
    (ok : HOk P w H h) (e : H b = some (exK a cls d)) :
    ∃ o vs, h.get? a = some o ∧ o.cls = cls ∧ o.dict = d ∧ o.data = .fields vs :=
  (show ObjOk P w H h b (exK a cls d) from ok b _ e).1

section
variable {X : Cx} {pins : List (Addr × Obj)} {σ : L2.St} {H : Hp} {s : Shared} {a : Addr} {o : HO}
/-- an object that was none of the picture's comes into it -/
theorem adopt (I : Inv X pins σ H s) (hn : H a = none) (nL : a ≠ X.env.locals)
    (nC : ∀ x c, X.env.cells.lookup x = some c → c ≠ a) (nP : ∀ p ∈ X.pn ++ pins, p.1 ≠ a)
    (nE : ∀ ob, X.s_0.heap.get? a = some ob → X.H_0 a = none → a ∉ X.ex → False)
    (new : ObjOk X.prog X.w (upd H a o) s.heap a o) : Inv X pins σ (upd H a o) s where
  ok := I.ok
  os := I.os
  bare := I.bare
  base := {
    keep := I.base.keep, slot := I.base.slot, there := I.base.there
    free := fun b ob e n x => by
      by_cases hb : b = a
      · subst hb; exact (nE ob e n x).elim
      · rw [upd_ne hb]; exact I.base.free b ob e n x
    tups := fun b xs e => by
      have z := I.base.tups b xs e
      rw [upd_ne (ne_of_none z hn)]; exact z
    frzs := fun b ob u e => by
      have z := I.base.frzs b ob u e
      rw [upd_ne (ne_of_none z hn)]; exact z
    tbls := fun b ps e => by
      obtain ⟨more, z⟩ := I.base.tbls b ps e
      exact ⟨more, by rw [upd_ne (ne_of_none z hn)]; exact z⟩ }
  loc := I.loc
  cell := I.cell
  free := by rw [upd_ne (Ne.symm nL)]; exact I.free
  freeC := fun x c e => by rw [upd_ne (nC x c e)]; exact I.freeC x c e
  pin := fun p hp => by
    obtain ⟨e, n, r⟩ := I.pin p hp
    exact ⟨e, by rw [upd_ne (nP p hp)]; exact n, r⟩
  hok := fun b u e => by
    by_cases hb : b = a
    · subst hb
      rw [upd_same] at e
      cases e
      exact new
    · rw [upd_ne hb] at e
      refine (I.hok b u e).stay (fun _ _ _ z => z) (fun c z => ?_) (fun c xs z => ?_)
      · rw [upd_ne (ne_of_none z hn)]; exact z
      · rw [upd_ne (ne_of_none z hn)]; exact z
  len := I.len
end

/-- what the clause wishes: the suite's end, then the error held at its address -/
def endK (i : Nat) (a : Addr) (cls : Value) (d : Option Addr) (D : Ends) : Ends where
  nx := fun σ H => H a = none → D.nx (σ.set i none) (upd H a (exK a cls d))
  rt := fun v H => D.rt v H
  bk := fun σ H => D.bk (σ.set i none) H
  ct := fun σ H => D.ct (σ.set i none) H
def wKeep (K : PySem.W.Frag) (c : Value) (i : Nat) (ts : TS) (Wout : WX) (D : Ends) : WX := fun cls d σ H =>
  ∃ b, PySem.W.exmOne K cls c = some b ∧
    (b = true → ∀ a, H a = none → ts (endK i a cls d D) (σ.set i (some (.ref a))) H) ∧
    (b = false → Wout cls d σ H)

section
variable {X : Cx} {x n : Str} {c : Value} {i : Nat} {body suite : List Stmt} {b0 : Stmt} {np pos pos2 : Pos}
  {tb : WX → TS} {ts : TS} {Wout : WX}
theorem ps_try_keep (hs : X.stack = X.env :: X.outer) (hf : X.env.frame = some X.env.locals) (hN : X.N.Nodup)
    (hi : X.N[i]? = some n) (hln : X.env.kindOf n = some .local) (hc : Names X x c) (tk : Takes X Wout)
    (hb : ∀ (W : WX) (pn : List (Addr × Obj)) (xe : Value → Shared → Prop), Takes (X.tr pn xe) W →
      PassesOwn (model X.prog X.w) X.A X.env xe → PSs (X.tr pn xe) body (tb W))
    (hsu : ∀ (a : Addr) (oe : Obj) (pn : List (Addr × Obj)), PSs (X.suite a ((a, oe) :: pn)) (b0 :: suite) ts) :
    PS X (.Try body [.ExceptHandler (some (.Name x np)) (some n) (b0 :: suite) pos2] [] [] pos)
      (fun D σ H => tb (wKeep X.K c i ts Wout D) D σ H) := by
  constructor
  intro pins s σ H D I h
  have ok := I.ok
  have hfr : X.A.frames = some (X.env :: X.outer) := ok.frames.trans (by rw [hs])
  have hloc : Loc X.env.scope n := .inl hln
  refine wpAny_Try_except ?_
  let xe2 : Value → Shared → Prop := fun e s1 =>
    wpAny (model X.prog X.w) X.A (noteFrame e X.env) (fun _ s2 =>
      wpAny (model X.prog X.w) X.A (setFlight e none) (fun _ s3 =>
        wpAny (model X.prog X.w) X.A
          (handleBy e X.env [.ExceptHandler (some (.Name x np)) (some n) (b0 :: suite) pos2])
          (SP X pins D) X.xe s3) X.xe s2) X.xe s1
  have taken : Takes (X.tr (X.pn ++ pins) xe2) (wKeep X.K c i ts Wout D) := by
    rintro u s2 ⟨a, B, sI, pins2, σ2, H2, cls, d, rfl, J2, nb, up, sky, na, os, ag, b, hb1, hyes, hno⟩
    have J : Inv X pins σ2 H2 sI := J2.ofTry ok
    have sky2 : Sky B (X.env :: X.outer) a (Zc cls d) X.env.locals s2.heap := by rw [← hs]; exact sky
    show wpAny (model X.prog X.w) X.A (noteFrame (.ref a) X.env) _ _ _
    refine Sky.land Zc.steady hfr hf sky2 fun h3 fl3 up3 => ?_
    have J3 : Inv X pins σ2 H2 { s2 with heap := h3 } := J.landed nb fl3.1 (up.trans up3) os ag
    obtain ⟨oe3, vs3, he3, hz3, hd3⟩ := fl3.there
    have nfr : a ∉ frs (X.env :: X.outer) := by
      intro hm
      obtain ⟨_, o4, e4, hnf⟩ := fl3.2.2.1.mem hm
      rw [he3] at e4
      cases e4
      exact hnf _ hd3
    have nL : a ≠ X.env.locals := by
      intro z
      exact nfr (List.mem_filterMap.mpr ⟨X.env, List.mem_cons_self, by rw [hf, z]⟩)
    have nF : a ∉ X.fs := by
      intro hm
      obtain ⟨e5, he5, q5⟩ := List.mem_filterMap.mp hm
      exact nfr (List.mem_filterMap.mpr ⟨e5, List.mem_cons_of_mem _ he5, q5⟩)
    have nE : ∀ ob, X.s_0.heap.get? a = some ob → X.H_0 a = none → a ∉ X.ex → False := by
      intro ob e n x
      obtain ⟨o5, e5⟩ := J.base.there a ob e x
      have z := nb a o5 e5 (by rw [hs]; exact nfr)
      rw [fl3.2.1] at z
      cases z
    have S3 := J3.suite he3 hd3 na nL nF
    refine wpAny_handleBy_cons (codeAny_handlers_test ?_) (by intro q; cases q)
    have LT : PySem.W.Looks (model X.prog X.w) h3 (typeOf (.ref a)) cls :=
      fun A Q E s k q => wpAny_typeOf_ref (k _ _ he3) (by rw [hz3.1]; exact q)
    have LM := PySem.W.exm_one (M := model X.prog X.w) (J3.kIn) LT hb1
    have test : ∀ {Q : Value → Shared → Prop} {E : Value → Shared → Prop}, Q c { s2 with heap := h3 } →
        wpAny (model X.prog X.w) (X.A.mark (some (.ref a))) (eval (.Name x np) X.env) Q E { s2 with heap := h3 } := by
      intro Q E q
      obtain ⟨hg, hdbg, hm | ⟨hm, hv, hnn⟩⟩ := hc
      · exact ld_glob (X := X.suite a ((a, oe3) :: (X.pn ++ pins))) S3 hg hm q hdbg
      · exact ld_blt (X := X.suite a ((a, oe3) :: (X.pn ++ pins))) S3 hg hm hv q hnn hdbg
    refine test (LM.here ?_)
    match b, hyes, hno with
    | true, hyes, _ =>
      refine codeAny_handlers_suite_as ?_
      refine HandSPX.lands_againZ fl3 fun h4 fl4 up4 => ?_
      have J4 : Inv X pins σ2 H2 { s2 with heap := h4 } := J.landed nb fl4.1 ((up.trans up3).trans up4) os ag
      obtain ⟨oe4, vs4, he4, hz4, hd4⟩ := fl4.there
      have S4 := J4.suite he4 hd4 na nL nF
      refine store_ok (X := X.suite a ((a, oe4) :: (X.pn ++ pins))) (v := .ref a) S4 hN hi hloc rfl (fun s5 S5 => ?_) (.inr hln)
      have run := (hsu a oe4 (X.pn ++ pins)).run [] s5 _ H2 _ S5 (hyes rfl a na)
      refine wpAny_mono run (fun f s6 hsp => ?_) (fun _ _ z => False.elim z)
      have gone : ∀ {σ6 : L2.St} {H6 : Hp} {Q : Shared → Prop},
          Inv (X.suite a ((a, oe4) :: (X.pn ++ pins))) [] σ6 H6 s6 →
          (∀ s7, Inv X pins (σ6.set i none) H6 s7 → Q s7) →
          wpAny (model X.prog X.w) X.A (do bindName X.env n .none; unbindBehindTheSuite X.env n pos2)
            (fun _ s7 => Q s7) X.xe s6 := by
        intro σ6 H6 Q S6 hq
        exact gone_ok (S6.unsuite ok) hN hi hln hq
      match f, hsp with
      | .brk, ⟨σ6, H6, S6, q6⟩ => exact gone S6 fun s7 J7 => ⟨_, _, J7, q6⟩
      | .cont, ⟨σ6, H6, S6, q6⟩ => exact gone S6 fun s7 J7 => ⟨_, _, J7, q6⟩
      | .ret u, ⟨v6, σ6, H6, S6, r6, q6⟩ => exact gone S6 fun s7 J7 => ⟨_, _, _, J7, r6, q6⟩
      | .next, ⟨σ6, H6, S6, q6⟩ =>
        obtain ⟨e6, n6, _⟩ := S6.pin (a, oe4) (List.mem_append_left _ List.mem_cons_self)
        have U := S6.unsuite ok
        -- the clause's name goes; the error's object is what it was
        have U2 : Inv { X with pn := (a, oe4) :: X.pn } pins σ6 H6 s6 :=
          ⟨⟨ok.mod, ok.kind, ok.glob, ok.blt, ok.above, ok.inj, ok.has, ok.cab, ok.hd, ok.frames, ok.stk, ok.exf, ok.bs, ok.bsz, ok.noex, ok.exfs, ok.funs, ok.frf⟩,
            U.os, U.bare, U.base, U.loc, U.cell, U.free, U.freeC, fun p hp => by
              rcases List.mem_cons.mp hp with e | hp
              · rw [e]
                exact ⟨e6, n6, nL, nF, fun v z => by
                  rw [hd4] at z
                  cases z⟩
              · exact U.pin p hp, U.hok, U.len⟩
        refine gone_ok (X := { X with pn := (a, oe4) :: X.pn }) U2 hN hi hln fun s7 V => ?_
        obtain ⟨e7, n7, _⟩ := V.pin (a, oe4) (List.mem_append_left _ List.mem_cons_self)
        have J7 : Inv X pins (σ6.set i none) H6 s7 :=
          ⟨ok, V.os, V.bare, V.base, V.loc, V.cell, V.free, V.freeC, fun p hp => V.pin p (List.mem_cons_of_mem _ hp), V.hok, V.len⟩
        have hcell : ∀ y cc, X.env.cells.lookup y = some cc → cc ≠ a := by
          intro y cc e z
          obtain ⟨v, o8, ho8, hd8⟩ := J7.cell y cc e
          rw [z, e7] at ho8
          cases ho8
          rw [hd4] at hd8
          cases hd8
        by_cases hp : ∃ p ∈ X.pn ++ pins, p.1 = a
        · obtain ⟨p, hp, ep⟩ := hp
          -- it was there when the try began: no
          obtain ⟨pe, pn2, pl, pf, pd⟩ := J.pin p hp
          have z := nb p.1 _ pe (by rw [hs, ep]; exact nfr)
          rw [ep, fl3.2.1] at z
          cases z
        · refine ⟨_, _, adopt J7 n7 nL hcell (fun p hp2 z => hp ⟨p, hp2, z⟩) nE ?_, q6 n6⟩
          exact ⟨⟨oe4, vs4, e7, hz4.1, hz4.2, hd4⟩, ⟨_, e7⟩, fun h1 h2 ⟨o9, vs9, y1, y2⟩ st => ⟨o9, vs9, st _ y1, y2⟩⟩
    | false, _, hno =>
      show wpAny _ X.A (handleBy (.ref a) X.env []) _ _ _
      refine wpAny_handleBy_nil ?_
      obtain ⟨k1, k2, k3, oe, vs, T, oT, ts2, he, hz, hd, h1, hr⟩ := id fl3
      unfold PySem.passOn
      refine wpAny_bind (wpAny_field he hd h1 ?_)
      have hT : ¬ ((Value.ref T == Value.none) = true) := by simp
      rw [if_neg hT]
      have fin : wpAny (model X.prog X.w) X.A (setFlight (.ref a) X.env.frame)
          (fun _ s4 => wpAny (model X.prog X.w) X.A (throw (.ref a) : Sem Flow) (SP X pins D) X.xe s4)
          X.xe { s2 with heap := h3 } := by
        rw [hf]
        refine HandSPX.setFlight_upZ fl3 fun h4 hh4 up4 => wpAny_throw (tk _ _ ?_)
        have uu := (up.trans up3).trans up4
        exact ⟨a, B, sI, pins, σ2, H2, cls, d, rfl, J, nb, uu, .inr (.inr (by rw [hs]; exact hh4)), na, os, ag, hno rfl⟩
      first
        | exact wpAny_bind (wpAny_pure (wpAny_bind fin))
        | exact wpAny_bind fin
  have run := (hb (wKeep X.K c i ts Wout D) (X.pn ++ pins) xe2 taken PassesOwn.looking).run [] s σ H D (I.toTry _) h
  refine wpAny_mono run (fun f s1 hsp => ?_) (fun _ _ he => he)
  match f, hsp with
  | .next, ⟨σ2, H2, J2, q⟩ => exact wpAny_execs_nil ⟨σ2, H2, J2.ofTry ok, q⟩
  | .brk, ⟨σ2, H2, J2, q⟩ => exact ⟨σ2, H2, J2.ofTry ok, q⟩
  | .cont, ⟨σ2, H2, J2, q⟩ => exact ⟨σ2, H2, J2.ofTry ok, q⟩
  | .ret u, ⟨v, σ2, H2, J2, r, q⟩ => exact ⟨v, σ2, H2, J2.ofTry ok, r, q⟩
end
end GS


set_option Elab.async false
set_option linter.all false
set_option maxRecDepth 100000
set_option maxHeartbeats 4000000
namespace GS
open PySem PySem.Spec PyProof.Rows L2 Evl

/-! what the written part says of an own class of errors -/
structure ErrC (K : PySem.W.Frag) (C : Addr) : Prop where
  cl : (PySem.W.clsIn K C).isSome = true
  ga : PySem.W.findIn K (.ref C) "__getattribute__" = some (some (.builtin "BaseException.__getattribute__"))
  gg : PySem.W.findIn K (.ref C) "__getattr__" = some none
  ex : PySem.W.subIn K (.ref C) (.type "BaseException") = some true
  hd : PySem.W.hasDictIn K C = true
  ca : PySem.W.findIn K (.ref C) "__class__" = some (some (.builtin "object.__class__"))
  cg : PySem.W.specialIn K (.builtin "object.__class__") "__get__" = some (some (.builtin "getset_descriptor.__get__"))
  ct : PySem.W.takesIn K (.builtin "object.__class__") = some true
  mo : PySem.W.mroIn K C (.type "object") = some true
  nv : PySem.W.findIn K (.ref C) "value" = some none

/-- an error held, with its one field -/
def Held (H : Hp) (a C : Addr) (v : V) : Prop :=
  ∃ dd, H a = some (exK a (.ref C) (some dd)) ∧ H dd = some (.xd [("value", v)])
theorem Held.mono {H H2 : Hp} {a C : Addr} {v : V} (e : Ex H H2) (h : Held H a C v) : Held H2 a C v := by
  obtain ⟨dd, h1, h2⟩ := h
  exact ⟨dd, e _ _ h1, e _ _ h2⟩

section
variable {X : Cx} {pins : List (Addr × Obj)} {σ : L2.St} {H : Hp} {s : Shared} {a C : Addr} {v : V}
theorem held_at (I : Inv X pins σ H s) (h : Held H a C v) : ∃ (o od : Obj) (dd : Addr),
    PySem.W.InstAt s.heap a o C (some od) ∧ H dd = some (.xd [("value", v)]) ∧ o.dict = some dd ∧
      ∃ u, RelV v u ∧ PySem.W.lookIn "value" od = some (some u) := by
  obtain ⟨dd, h1, h2⟩ := h
  obtain ⟨o, vs, e1, e2, e3, e4⟩ := exK_at I.hok h1
  obtain ⟨mA, hns, hr⟩ := (show ObjOk X.prog X.w H s.heap dd (.xd [("value", v)]) from I.hok dd _ h2)
  obtain ⟨od, ho, hl⟩ := lookIn_ns hns
  have hrv := hr "value"
  obtain ⟨u, hu, ru⟩ := RelO.some_of (v := v) (o := mA "value") (by
    have z : List.lookup ("value" : Str) [(("value" : Str), v)] = some v := by simp [List.lookup]
    rw [← z]; exact hrv)
  refine ⟨o, od, dd, ⟨e1, e2, ?_, by rw [e3]; exact ho⟩, h2, e3, u, ru, by rw [hl, hu]⟩
  unfold PySem.W.notCls
  rw [e4]
end

/-- isinstance of a held error -/
def rIsHeld (K : PySem.W.Frag) : List V → Hp → VK → Prop := fun xs H Q =>
  ∃ (a C : Addr) (v c : V) (cv : Value) (b : Bool), xs = [.ref a, c] ∧ Held H a C v ∧ ErrC K C ∧
    ClsV c cv ∧ PySem.W.kitOne K (.ref C) cv = some b ∧ Q (.bl b) H
theorem call_isHeld {X : Cx} : CallR X (.builtin "isinstance") (rIsHeld X.K) := by
  intro pins s σ H xs us Q I r h
  obtain ⟨a, C, v, c, cv, b, rfl, hh, T, hc, e, q⟩ := h
  obtain ⟨u1, u2, rfl, r1, r2⟩ := vals2 r
  obtain rfl : u1 = Value.ref a := r1
  have e2 := hc.eq r2
  subst e2
  obtain ⟨o, od, dd, J, _⟩ := held_at I hh
  refine PySem.W.kia_one (PySem.W.kitx_exc T.cl T.ga T.gg T.ex T.ca T.cg T.ct T.mo) I.kIn J e (fun z => nomatch z) ?_
  intro tk
  exact ⟨.bl b, H, I.tok tk, rfl, q⟩
/-- isinstance(x, c), of a value or of a held error, or of None -/
def rIsAny (K : PySem.W.Frag) : List V → Hp → VK → Prop := fun xs H Q => rIsi K xs H Q ∨ rIsHeld K xs H Q
theorem call_isAny {X : Cx} : CallR X (.builtin "isinstance") (rIsAny X.K) := by
  intro pins s σ H xs us Q I r h
  rcases h with h | h
  · exact call_isi pins s σ H xs us Q I r h
  · exact call_isHeld pins s σ H xs us Q I r h

/-- its field -/
def tHeldV (K : PySem.W.Frag) (te : TE) : TE := fun σ H Q => te σ H fun x H1 =>
  ∃ a C v, x = .ref a ∧ Held H1 a C v ∧ ErrC K C ∧ Q v H1
theorem pe_heldv {X : Cx} {e : Expr} {te : TE} {pos : Pos} (he : PE X e te)
    (hb : attributeBase e "value" X.env (eval e X.env) = eval e X.env := by rfl) :
    PE X (.Attribute e "value" pos) (tHeldV X.K te) := by
  constructor
  intro pins s σ H Q I h
  refine attr_of hb (thn (he.run pins s σ H _ I h) fun u s1 hh => ?_)
  obtain ⟨x, H1, I1, rx, a, C, v, ex, hd, T, q⟩ := hh
  subst ex
  obtain rfl : u = Value.ref a := rx
  obtain ⟨o, od, dd, J, _, _, w, rw_, hl⟩ := held_at I1 hd
  refine HandSPX.exc_get I1.kIn J T.ga T.gg T.ex ?_ (handed_of rw_) ⟨v, H1, I1.tok _, rw_, q⟩
  exact PySem.W.findObj_own T.hd T.nv rfl hl

/-! ### data of any depth, an empty dict among it -/
mutual
inductive Rp (K : PySem.W.Frag) (H : Hp) : V → PyData → Prop
  | non : Rp K H .non .none
  | bl (b : Bool) : Rp K H (.bl b) (.bool b)
  | int (i : Int) : Rp K H (.int i) (.int i)
  | str (x : Str) : Rp K H (.str x) (.str x)
  | lst {a : Addr} {xs : List V} {ds : List PyData} (h : SqL K H a xs) (hs : RpAll K H xs ds) : Rp K H (.ref a) (.list ds)
  | tup {a : Addr} {xs : List V} {ds : List PyData} (h : SqT K H a xs) (hs : RpAll K H xs ds) : Rp K H (.ref a) (.tuple ds)
  | emp {a : Addr} (h : H a = some (.dK [])) : Rp K H (.ref a) (.dict [])
inductive RpAll (K : PySem.W.Frag) (H : Hp) : List V → List PyData → Prop
  | nil : RpAll K H [] []
  | cons {v : V} {vs : List V} {d : PyData} {ds : List PyData} (h : Rp K H v d) (hs : RpAll K H vs ds) : RpAll K H (v :: vs) (d :: ds)
end
section
variable {K : PySem.W.Frag} {H H2 : Hp}
mutual
theorem Rp.mono (e : Ex H H2) : ∀ (d : PyData) (v : V), Rp K H v d → Rp K H2 v d
  | .none, _, h => by cases h; exact .non
  | .bool _, _, h => by cases h; exact .bl _
  | .int _, _, h => by cases h; exact .int _
  | .str _, _, h => by cases h; exact .str _
  | .list ds, _, h => by
    cases h with
    | lst h hs => exact .lst (ex_l e h) (RpAll.mono e ds _ hs)
  | .tuple ds, _, h => by
    cases h with
    | tup h hs => exact .tup (ex_t e h) (RpAll.mono e ds _ hs)
  | .dict _, _, h => by
    cases h with
    | emp h => exact .emp (e _ _ h)
theorem RpAll.mono (e : Ex H H2) : ∀ (ds : List PyData) (vs : List V), RpAll K H vs ds → RpAll K H2 vs ds
  | [], _, h => by cases h; exact .nil
  | d :: ds, _, h => by
    cases h with
    | cons h hs => exact .cons (Rp.mono e d _ h) (RpAll.mono e ds _ hs)
end
theorem Rp.to (h : Rp K H v d) (e : Ex H H2) : Rp K H2 v d := Rp.mono e d v h
theorem RpAll.to (h : RpAll K H vs ds) (e : Ex H H2) : RpAll K H2 vs ds := RpAll.mono e ds vs h
theorem RpAll.length : ∀ {vs : List V} {ds : List PyData}, RpAll K H vs ds → vs.length = ds.length
  | [], [], _ => rfl
  | [], _ :: _, h => by cases h
  | _ :: _, [], h => by cases h
  | _ :: vs, _ :: ds, h => by
    cases h with
    | cons _ hs => rw [List.length_cons, List.length_cons, RpAll.length hs]
theorem RpAll.get : ∀ {vs : List V} {ds : List PyData} {i : Nat} {v : V}, RpAll K H vs ds → vs[i]? = some v →
    ∃ d, ds[i]? = some d ∧ Rp K H v d
  | [], _, i, v, h, e => by simp at e
  | _ :: _, [], _, _, h, _ => by cases h
  | w :: vs, d :: ds, 0, v, h, e => by
    cases h with
    | cons h hs =>
      simp at e
      subst e
      exact ⟨d, rfl, h⟩
  | w :: vs, d :: ds, i + 1, v, h, e => by
    cases h with
    | cons h hs =>
      obtain ⟨d2, e2, r⟩ := RpAll.get (i := i) hs (by simpa using e)
      exact ⟨d2, by simpa using e2, r⟩
theorem rpInts : ∀ (ns : List Int), RpAll K H (ns.map V.int) (ns.map PyData.int)
  | [] => .nil
  | n :: ns => .cons (.int n) (rpInts ns)
theorem rpBools : ∀ (ns : List Bool), RpAll K H (ns.map V.bl) (ns.map PyData.bool)
  | [] => .nil
  | n :: ns => .cons (.bl n) (rpBools ns)
mutual
theorem Rp.dp : ∀ (d : PyData) (v : V), Rp K H v d → d.hasDict = false → Dp K H v d
  | .none, _, h, _ => by cases h; exact .non
  | .bool _, _, h, _ => by cases h; exact .bl _
  | .int _, _, h, _ => by cases h; exact .int _
  | .str _, _, h, _ => by cases h; exact .str _
  | .list ds, _, h, n => by
    cases h with
    | lst h hs => exact .lst h (RpAll.dp ds _ hs (by simpa [PyData.hasDict] using n))
  | .tuple ds, _, h, n => by
    cases h with
    | tup h hs => exact .tup h (RpAll.dp ds _ hs (by simpa [PyData.hasDict] using n))
  | .dict _, _, _, n => by simp [PyData.hasDict] at n
theorem RpAll.dp : ∀ (ds : List PyData) (vs : List V), RpAll K H vs ds → PyData.hasDictAll ds = false → DpAll K H vs ds
  | [], _, h, _ => by cases h; exact .nil
  | d :: ds, _, h, n => by
    have n2 : (d.hasDict || PyData.hasDictAll ds) = false := by simpa [PyData.hasDictAll] using n
    obtain ⟨n3, n4⟩ := Bool.or_eq_false_iff.mp n2
    cases h with
    | cons h hs => exact .cons (Rp.dp d _ h n3) (RpAll.dp ds _ hs n4)
end
/-- the name of a datum's type -/
def tyD : PyData → String
  | .none => "NoneType"
  | .bool _ => "bool"
  | .int _ => "int"
  | .str _ => "str"
  | .list _ => "list"
  | .tuple _ => "tuple"
  | .dict _ => "dict"
theorem Rp.ty {v : V} {d : PyData} (h : Rp K H v d) : TyX K H v (.type (tyD d)) := by
  cases h with
  | non => exact .base .non
  | bl b => exact .base (.bl b)
  | int i => exact .base (.int i)
  | str x => exact .base (.str x)
  | lst h hs =>
    rcases h with (h | ⟨o, h⟩) | ⟨o, its, n, h, hc, _⟩
    · exact .base (.lst h)
    · exact .base (.frz h)
    · exact .kList h hc
  | tup h hs =>
    rcases h with (h | ⟨o, h⟩) | ⟨o, its, n, h, hc, _⟩
    · exact .base (.tup h)
    · exact .fTuple h
    · exact .kTuple h hc
  | emp h => exact .base (.dK h)
end

section
variable {X : Cx} {pins : List (Addr × Obj)} {σ : L2.St} {H : Hp} {s : Shared}
theorem Rp.reads (I : Inv X pins σ H s) {d : PyData} {v : V} {u : Value} (h : Rp X.K H v d) (r : RelV v u)
    (hd : d.hasDict = false ∨ d = .dict []) : ∃ as, Reads s.heap u d as ∧ (d.hasDict = true → sysModules ∉ as) := by
  rcases hd with hd | rfl
  · obtain ⟨as, z⟩ := Dp.reads I d v u (Rp.dp d v h hd) r
    exact ⟨as, z, fun q => by rw [hd] at q; cases q⟩
  · cases h with
    | @emp a h =>
      obtain rfl : u = Value.ref a := r
      obtain ⟨_, ns, vs, kv, o, es, ep, h1, h2, h3, _, h4, _⟩ := (show ObjOk X.prog X.w H s.heap a (.dK []) from I.hok a _ h)
      cases kv
      have hes : es.toList = [] := by
        have z := h4.length
        exact List.eq_nil_of_length_eq_zero (by simpa using z)
      refine ⟨[a] ++ [] ++ [], Reads.dict h1 h2.1 h3 (by rw [hes]; exact .nil) (by rw [hes]; exact .nil), fun _ hm => ?_⟩
      have e : sysModules = a := by simpa using hm
      rw [← e] at ns
      simp at ns
end

/-- repr(x), where nothing is being shown -/
def rRepr (K : PySem.W.Frag) : List V → Hp → VK → Prop := fun xs H Q => ∃ v d, xs = [v] ∧ Rp K H v d ∧
  (d.hasDict = false ∨ d = .dict []) ∧ d.showable = true ∧ d.depth ≤ 60 ∧ d.shown.length ≤ sizeLine ∧ Q (.str d.shown) H
theorem call_repr_any {X : Cx} (hq : X.A.guards = some []) (hu : X.A.units + 64 < cLine) :
    CallR X (.builtin "repr") (rRepr X.K) := by
  intro pins s σ H xs us Q I r h
  obtain ⟨v, d, rfl, hv, hd, sh, dep, len, q⟩ := h
  cases r with
  | cons r rr =>
    cases rr
    rename_i u
    obtain ⟨as, rd, ns⟩ := hv.reads I r hd
    have done : ∀ (h' : Heap) (tk : Nat) (t : Tok), (∀ b o, s.heap.get? b = some o → h'.get? b = some o) →
        EP X pins σ Q (.str d.shown t) { s with heap := h', toks := tk } := by
      intro h' tk t k
      exact ⟨.str d.shown, H, I.kept (t' := tk) k, ⟨t, rfl⟩, q⟩
    have big : ∀ {a : Addr}, u = .ref a → wpAny (model X.prog X.w) X.A (call (.builtin "repr") [u]) (EP X pins σ Q) X.xe s := by
      rintro a rfl
      exact repr_of_reads' rd sh ns hq (by omega) (fun _ _ e => e) (fun h' t tk k => done h' tk t k) len
    cases hv with
    | non =>
      obtain rfl : u = Value.none := r
      exact PySem.P.repr_of_none (done s.heap _ _ fun _ _ e => e)
    | bl b =>
      obtain rfl : u = Value.bool b := r
      have z := done s.heap (s.toks + 1) s.toks fun _ _ e => e
      exact PySem.P.repr_of_bool (by simpa only [PyData.shown] using z)
    | int i =>
      obtain ⟨t, rfl⟩ := r
      have z := done s.heap (s.toks + 1) s.toks fun _ _ e => e
      refine PySem.P.repr_of_int ?_ (by simpa only [PyData.shown] using z)
      simpa [PyData.showable] using sh
    | str x =>
      obtain ⟨t, rfl⟩ := r
      have z := done s.heap (s.toks + 1) s.toks fun _ _ e => e
      exact PySem.P.repr_of_str (by simpa only [PyData.shown] using z) (by simpa only [PyData.shown] using len)
    | @lst a xs ds h hs => exact big (a := a) r
    | @tup a xs ds h hs => exact big (a := a) r
    | @emp a h => exact big (a := a) r
end GS


set_option Elab.async false
set_option linter.all false
set_option maxRecDepth 100000
set_option maxHeartbeats 4000000
namespace GS
open PySem PySem.Spec PyProof.Rows L2 Evl

/-- a def (or a method) whose defaults are of any kind -/
structure FunV (K : PySem.W.Frag) (x qual : Str) (st : Stmt) (f : Addr) (fd : FuncData) : Prop where
  ex : ∃ (oc : Value) (od : Option Addr) (dV kV doc pm : Value) (an : Option Addr) (cdv ct : Value) (osl : Array (Option Value)),
    fd = PySem.W.fnOf x qual (defArgs st) (defBody st) (defScope st) dV kV doc pm an cdv ct ∧
      K.lookup f = some ⟨oc, od, .func fd, osl⟩ ∧ PySem.W.codeIn K cdv qual = true
section
variable {P : Program} {w : World} {K : PySem.W.Frag} {mg : Str → Option Value} {base : Heap}
theorem fun_v {x qual : Str} {st : Stmt} {f : Addr} {fd : FuncData} {N ps : List Str} {k : Nat} {sp : Sp}
    (F : FunV K x qual st f fd) (S : FnScope N ps (defScope st)) (len : ∀ vs H Q E, sp vs H Q E → vs.length = ps.length)
    (hb : ∀ (cdv : Value) (A : Around) (outer : List Env) (s : Shared) (H : Hp) (vs : List V) (Q : VK) (E : XK),
      Room k (A.deeper (envOfC qual (defScope st) s.heap.objs.size f cdv)) → sp vs H Q E →
      ∃ t, PSs (cxOf CX0 P w K mg base N qual (defScope st) f cdv A outer s H E).nox (defBody st) t ∧
        t { nx := fun _ H' => Q .non H', rt := Q } (start N vs) H) : FnOk P w K mg base CX0 (k + 1) f fd ps sp := by
  obtain ⟨oc, od, dV, kV, doc, pm, an, cdv, ct, osl, rfl, lk, hcd⟩ := F.ex
  refine fn_of lk hcd S len fun A outer s H vs Q E hr hsp => ?_
  obtain ⟨t, h, q⟩ := hb cdv A outer s H vs Q E hr hsp
  exact ⟨t, h.nox, q⟩
theorem FunV.binds {x qual : Str} {st : Stmt} {f : Addr} {fd : FuncData} {ps : List Str} (F : FunV K x qual st f fd)
    (h : ∀ (dV kV doc pm : Value) (an : Option Addr) (cdv ct : Value) (us : List Value), us.length = ps.length →
      bindArgs (PySem.W.fnOf x qual (defArgs st) (defBody st) (defScope st) dV kV doc pm an cdv ct) ⟨us, []⟩ = pure (ps.zip us)) : Binds K fd ps [] := by
  obtain ⟨oc, od, dV, kV, doc, pm, an, cdv, ct, osl, rfl, lk, hcd⟩ := F.ex
  exact .all (h dV kV doc pm an cdv ct)
end

section
variable {X : Cx} {x : Str} {pos : Pos} {i : Int}
theorem pe_const (hg : Gl X x) (h : ∃ tk, X.mg x = some (.int i tk)) (hd : (x == ("__debug__" : Str)) = false := by decide)
    (hcd : (x == ("__classdict__" : Str)) = false := by decide) : PE X (.Name x pos) (tC (.int i)) := by
  obtain ⟨tk, h⟩ := h
  exact pe_glob (v := .int i) hg h (show RelV (.int i) (.int i tk) from ⟨tk, rfl⟩) hd
end

section
variable {X : Cx} {CX : CXT} {k : Nat} {f : Addr} {fd : FuncData} {ps ks : List Str} {sp : Sp} {E : XK} {x : Str}
  {p pos : Pos} {kws : List Keyword} {tk : TA} {g : List Value → List Value → List Value} {gV : List V → List V → List V}
/-- f(k = v, ..) -/
theorem pe_callK0 (F : FnOk X.prog X.w X.K X.mg X.base CX k f fd ps sp) (hr : Room k X.A) (hg : Gl X x)
    (hm : X.mg x = some (.ref f)) (hk : PySem.W.keepIn X.K (.ref f) = true) (hb : KBinds X.K fd ps ks g gV)
    (hx : Passes CX X E) (hkw : PK X kws tk)
    (hall : (backToKw pos (keywordEach kws X.env)).all (·.1.isSome) = true := by rfl)
    (hks : (backToKw pos (keywordEach kws X.env)).filterMap (·.1) = ks := by rfl)
    (hdb : (x == ("__debug__" : Str)) = false := by decide)
    (hpl : ((backTo pos (starEach [] X.env)).any (·.1) || (backToKw pos (keywordEach kws X.env)).any (·.1.isNone)) = false := by rfl) :
    PE X (.Call (.Name x p) [] kws pos) (tCallK sp gV E tNil tk) := by
  constructor
  intro pins s σ H Q I h
  refine wpAny_Call_Name_kw (ld_glob I hg hm ?_ hdb)
  refine PySem.W.callWith_KW0 (h₀ := X.base) I.ok.mod.kin hk hall ?_ hpl
  refine thn (hkw.run pos pins s σ H _ I h) fun ws s2 ⟨zs, H2, I2, rz, q2⟩ => ⟨I2.kIn, ?_⟩
  rw [hks]
  exact run_fnk (us := []) (vs := []) F hr hb hx I2 .nil rz q2
end

/-! powers of written numbers -/
def CPowX : Int → Int → Prop := fun i j => 0 ≤ j ∧ (Builtin.Int.intBits i : Int) * j ≤ 2 ^ 27
theorem op_powX {X : Cx} : OpR X (binaryOp .Pow) (rI CPowX fun i j => .int (i ^ j.toNat)) := by
  intro pins s σ H x y u v Q I rx ry h
  obtain ⟨i, j, rfl, rfl, c, q⟩ := h
  obtain ⟨t, rfl⟩ := rx
  obtain ⟨t', rfl⟩ := ry
  exact pow_int c.1 c.2 ⟨.int _, H, I.tok _, ⟨_, rfl⟩, q⟩

theorem bits_le_of {i : Int} {n : Nat} (h : i.natAbs < 2 ^ n) : Builtin.Int.intBits i ≤ n := PySem.intBits_le_iff.mpr h
theorem mulX {i j : Int} (hi : i.natAbs < 2 ^ 64) (hj : j.natAbs < 2 ^ 64) : CMulX i j := by
  have h1 := bits_le_of (n := 64) hi
  have h2 := bits_le_of (n := 64) hj
  show ((Builtin.Int.intBits i : Nat) : Int) + ((Builtin.Int.intBits j : Nat) : Int) ≤ 134217728
  omega

/-! ### data: what evaluates to it -/
def EvD (K : PySem.W.Frag) (te : TE) (σ : L2.St) (H : Hp) (d : PyData) : Prop :=
  ∀ H1, Ex H H1 → ∀ Q : VK, (∀ v H2, Ex H1 H2 → Rp K H2 v d → Q v H2) → te σ H1 Q
def EvDA (K : PySem.W.Frag) (ta : TA) (σ : L2.St) (H : Hp) (ds : List PyData) : Prop :=
  ∀ H1, Ex H H1 → ∀ Q : List V → Hp → Prop, (∀ vs H2, Ex H1 H2 → RpAll K H2 vs ds → Q vs H2) → ta σ H1 Q
/-- a new list of data -/
def EvLD (K : PySem.W.Frag) (te : TE) (σ : L2.St) (H : Hp) (ds : List PyData) : Prop :=
  ∀ H1, Ex H H1 → ∀ Q : VK, (∀ p xs H2, H1 p = none → Ex H1 H2 → H2 p = some (.lst xs) → RpAll K H2 xs ds → Q (.ref p) H2) → te σ H1 Q
section
variable {K : PySem.W.Frag} {σ : L2.St} {H H' : Hp} {ta tb te : TE} {x y z v : V} {d e : PyData} {ds es : List PyData}
theorem EvD.mono (a : Ex H H') (h : EvD K te σ H d) : EvD K te σ H' d := fun H1 b Q q => h H1 (a.trans b) Q q
theorem EvLD.mono (a : Ex H H') (h : EvLD K te σ H ds) : EvLD K te σ H' ds := fun H1 b Q q => h H1 (a.trans b) Q q
theorem ed_new (h : EvLD K te σ H ds) : EvD K te σ H (.list ds) := fun H1 a Q q =>
  h H1 a Q fun p xs H2 _ e2 hp hr => q (.ref p) H2 e2 (.lst (sq_of hp) hr)
theorem EvL.ld {xs : List V} (h : EvL te σ H xs) (hr : ∀ H2, RpAll K H2 xs ds) : EvLD K te σ H ds := fun H1 a Q q =>
  h H1 a Q fun p H2 n e2 hp => q p xs H2 n e2 hp (hr H2)
theorem ed_of (h : Ev te σ H v) (hr : Rp K H v d) : EvD K te σ H d := fun H1 a Q q =>
  h H1 a Q fun H2 e2 => q v H2 e2 (hr.to (a.trans e2))
theorem ed_var {i : Nat} (h : σ[i]? = some (some v)) (hr : Rp K H v d) : EvD K (tVar i) σ H d := ed_of (ev_var h) hr
theorem ed_int {i : Int} (h : Ev te σ H (.int i)) : EvD K te σ H (.int i) := ed_of h (.int i)
theorem ed_bl {b : Bool} (h : Ev te σ H (.bl b)) : EvD K te σ H (.bool b) := ed_of h (.bl b)
theorem ed_str {b : Str} (h : Ev te σ H (.str b)) : EvD K te σ H (.str b) := ed_of h (.str b)
theorem ed_non (h : Ev te σ H .non) : EvD K te σ H .none := ed_of h .non
theorem EvD.int {i : Int} (h : EvD K te σ H (.int i)) : Ev te σ H (.int i) := fun H1 a Q q =>
  h H1 a Q fun v H2 e2 hr => by
    cases hr
    exact q H2 e2
theorem eda_nil : EvDA K tNil σ H [] := fun H1 _ Q q => q [] H1 (Ex.refl _) .nil
theorem eda_cons {tr : TA} (h : EvD K ta σ H d) (hr : EvDA K tr σ H ds) : EvDA K (tCons ta tr) σ H (d :: ds) := fun H1 a Q q =>
  h H1 a _ fun v H2 e2 r => hr H2 (a.trans e2) _ fun vs H3 e3 rr => q (v :: vs) H3 (e2.trans e3) (.cons (r.to e3) rr)
theorem eld_lst {tr : TA} (h : EvDA K tr σ H ds) (hl : ds.length ≤ 100000) : EvLD K (tLst tr) σ H ds := fun H1 a Q q =>
  h H1 a _ fun vs H2 e2 r => ⟨sz_of (by rw [r.length]; exact hl), fun p hp =>
    q p vs _ (fresh_back e2 hp) (e2.trans (Ex.new hp)) upd_same (r.to (Ex.new hp))⟩
theorem ed_lst {tr : TA} (h : EvDA K tr σ H ds) (hl : ds.length ≤ 100000) : EvD K (tLst tr) σ H (.list ds) := ed_new (eld_lst h hl)
theorem ed_tup {tr : TA} (h : EvDA K tr σ H ds) (hl : ds.length ≤ 100000) : EvD K (tTup tr) σ H (.tuple ds) := fun H1 a Q q =>
  h H1 a _ fun vs H2 e2 r => ⟨sz_of (by rw [r.length]; exact hl), fun p hp =>
    q (.ref p) _ (e2.trans (Ex.new hp)) (.tup (st_of upd_same) (r.to (Ex.new hp)))⟩
theorem ed_emp : EvD K tDNewK σ H (.dict []) := fun H1 a Q q p hp => q (.ref p) _ (Ex.new hp) (.emp upd_same)
theorem ev_eqD (ha : EvD K ta σ H d) (hb : EvD K tb σ H e) (n1 : d.hasDict = false) (n2 : e.hasDict = false)
    (s1 : SeqAt.shaped d = true) (s2 : SeqAt.shaped e = true) : Ev (tOp (rEqD K) ta tb) σ H (.bl (PyData.eqv d e)) := fun H1 a Q q =>
  ha H1 a _ fun v H2 e2 r => hb H2 (a.trans e2) _ fun u H3 e3 r2 =>
    ⟨d, e, Rp.dp d v (r.to e3) n1, Rp.dp e u r2 n2, s1, s2, q H3 (e2.trans e3)⟩
theorem ev_neD (ha : EvD K ta σ H d) (hb : EvD K tb σ H e) (n1 : d.hasDict = false) (n2 : e.hasDict = false)
    (s1 : SeqAt.shaped d = true) (s2 : SeqAt.shaped e = true) : Ev (tOp (rNeD K) ta tb) σ H (.bl (!PyData.eqv d e)) := fun H1 a Q q =>
  ha H1 a _ fun v H2 e2 r => hb H2 (a.trans e2) _ fun u H3 e3 r2 =>
    ⟨d, e, Rp.dp d v (r.to e3) n1, Rp.dp e u r2 n2, s1, s2, q H3 (e2.trans e3)⟩
theorem ev_repr (ha : EvD K ta σ H d) (n1 : d.hasDict = false ∨ d = .dict []) (sh : d.showable = true) (dp : d.depth ≤ 60)
    (len : d.shown.length ≤ sizeLine) : Ev (tCB (rRepr K) (tCons ta tNil)) σ H (.str d.shown) := fun H1 a Q q =>
  ha H1 a _ fun v H2 e2 r => ⟨v, d, rfl, r, n1, sh, dp, len, q H2 e2⟩
theorem ev_isT {T : String} {b : Bool} (ha : EvD K ta σ H d) (hk : kitB (tyD d) T = some b) :
    Ev (tCB (rIsAny K) (tCons ta (tCons (tC (.ty T)) tNil))) σ H (.bl b) := fun H1 a Q q =>
  ha H1 a _ fun v H2 e2 r => .inl ⟨v, .ty T, _, _, b, rfl, .ty T, r.ty, kit_ty hk, q H2 e2⟩
/-- the calls of one's own defs -/
theorem ev_own {sp : Sp} {E : XK} {t : TA} {vs : List V} (h : EvA t σ H vs)
    (k : ∀ H1, Ex H H1 → ∀ Q : VK, (∀ H2, Ex H1 H2 → Q v H2) → sp vs H1 Q E) : Ev (tCall sp [] E t) σ H v := fun H1 a Q q =>
  h H1 a _ fun H2 e2 => by
    rw [List.append_nil]
    exact k H2 (a.trans e2) Q fun H3 e3 => q H3 (e2.trans e3)
theorem el_own {sp : Sp} {E : XK} {t : TA} {vs xs : List V} (h : EvA t σ H vs)
    (k : ∀ H1, Ex H H1 → ∀ Q : VK, (∀ p H2, H1 p = none → Ex H1 H2 → H2 p = some (.lst xs) → Q (.ref p) H2) → sp vs H1 Q E) :
    EvL (tCall sp [] E t) σ H xs := fun H1 a Q q =>
  h H1 a _ fun H2 e2 => by
    rw [List.append_nil]
    exact k H2 (a.trans e2) Q fun p H3 n e3 hp => q p H3 (fresh_back e2 n) (e2.trans e3) hp
/-- a call whose arguments are data -/
theorem ev_ownD {sp : Sp} {E : XK} {t : TA} (h : EvDA K t σ H ds)
    (k : ∀ vs H1, Ex H H1 → RpAll K H1 vs ds → ∀ Q : VK, (∀ H2, Ex H1 H2 → Q v H2) → sp vs H1 Q E) : Ev (tCall sp [] E t) σ H v := fun H1 a Q q =>
  h H1 a _ fun vs H2 e2 r => by
    rw [List.append_nil]
    exact k vs H2 (a.trans e2) r Q fun H3 e3 => q H3 (e2.trans e3)
theorem ed_if {t : TT} {b : Bool} (h : EvT t σ H b) (h1 : b = true → EvD K ta σ H d) (h2 : b = false → EvD K tb σ H d) : EvD K (tIf t ta tb) σ H d := fun H1 e Q q =>
  h H1 e _ fun H2 e2 => by
    cases b with
    | true => exact h1 rfl H2 (e.trans e2) Q fun v H3 e3 r => q v H3 (e2.trans e3) r
    | false => exact h2 rfl H2 (e.trans e2) Q fun v H3 e3 r => q v H3 (e2.trans e3) r
end
end GS


set_option Elab.async false
set_option linter.all false
set_option maxRecDepth 100000
set_option maxHeartbeats 4000000
namespace GS
open PySem PySem.Spec PyProof.Rows L2 Evl

theorem RpAll.app {K : PySem.W.Frag} {H : Hp} : ∀ {us ws : List V} {xs ys : List PyData}, RpAll K H us xs → RpAll K H ws ys → RpAll K H (us ++ ws) (xs ++ ys)
  | [], _, _, _, h, k => by cases h; exact k
  | _ :: us, _, _, _, h, k => by
    cases h with
    | cons h hs => exact .cons h (RpAll.app hs k)
/-! ### calls of what is built in, by short names -/
def rInt1 : List V → Hp → VK → Prop := fun xs H Q => ∃ i, xs = [.int i] ∧ Q (.int i) H
def rMin2 : List V → Hp → VK → Prop := fun xs H Q => ∃ i j, xs = [.int i, .int j] ∧ Q (.int (if j < i then j else i)) H
def rIsNone : R2 := fun x y H Q => y = .non ∧ Q (.bl (decide (x = .non))) H
def rNotNone : R2 := fun x y H Q => y = .non ∧ Q (.bl (!decide (x = .non))) H
section
variable {X : Cx}
theorem c_isN : OpR X (compareOp .Is) rIsNone := op_isN
theorem c_notN : OpR X (compareOp .IsNot) rNotNone := op_notN
theorem c_int : CallR X (.type "int") rInt1 := fun pins s σ H xs us Q I r h => call_int1 pins s σ H xs us Q I r (.inl h)
theorem c_max2 (hc : X.calm = true) : CallR X (.builtin "max") rMax2 := call_max2 hc
theorem c_min2 (hc : X.calm = true) : CallR X (.builtin "min") rMin2 := call_min2 hc
theorem c_len : CallR X (.builtin "len") (rLenS X.K) := call_len_seq
theorem c_list : CallR X (.type "list") (rListS X.K) := call_list_of
end
section
variable {K : PySem.W.Frag} {σ : L2.St} {H H' : Hp} {ta tb te : TE} {x y z v : V} {i j : Int}
theorem ev_int1 (h : Ev ta σ H (.int i)) : Ev (tCB rInt1 (tCons ta tNil)) σ H (.int i) := fun H1 e Q q =>
  h H1 e _ fun H2 e2 => ⟨i, rfl, q H2 e2⟩
theorem ev_min2 (ha : Ev ta σ H (.int i)) (hb : Ev tb σ H (.int j)) : Ev (tCB rMin2 (tCons ta (tCons tb tNil))) σ H (.int (if j < i then j else i)) := fun H1 e Q q =>
  ha H1 e _ fun H2 e2 => hb H2 (e.trans e2) _ fun H3 e3 => ⟨i, j, rfl, q H3 (e2.trans e3)⟩
theorem ev_sum {p : Addr} {ns : List Int} (ha : Ev ta σ H (.ref p)) (h : SqL K H p (ns.map V.int)) : Ev (tCB (rSum K) (tCons ta tNil)) σ H (.int ns.sum) := fun H1 e Q q =>
  ha H1 e _ fun H2 e2 => ⟨p, ns, rfl, ex_l (e.trans e2) h, q H2 e2⟩
theorem ev_sumN {ns : List Int} (ha : EvL ta σ H (ns.map V.int)) : Ev (tCB (rSum K) (tCons ta tNil)) σ H (.int ns.sum) := fun H1 e Q q =>
  ha H1 e _ fun p H2 _ e2 h2 => ⟨p, ns, rfl, sq_of h2, q H2 e2⟩
theorem ev_all {bs : List Bool} (ha : EvL ta σ H (bs.map V.bl)) : Ev (tCB (rAll K) (tCons ta tNil)) σ H (.bl (bs.all id)) := fun H1 e Q q =>
  ha H1 e _ fun p H2 _ e2 h2 => ⟨p, bs, rfl, sq_of h2, q H2 e2⟩
theorem ev_bits (ha : Ev ta σ H (.int i)) : Ev (tBits ta) σ H (.int (Builtin.Int.intBits i : Nat)) := fun H1 e Q q =>
  ha H1 e _ fun H2 e2 => ⟨i, rfl, q H2 e2⟩
theorem ev_ixL {p : Addr} {xs : List V} (ha : Ev ta σ H (.ref p)) (hb : Ev tb σ H (.int i)) (h : SqL K H p xs) (hi : atI xs i = some v) :
    Ev (tOp (rIxL K) ta tb) σ H v := ev_op ha hb (rv_ixL h hi)
theorem ev_isN (ha : Ev ta σ H x) : Ev (tOp rIsNone ta (tC .non)) σ H (.bl (decide (x = .non))) := fun H1 e Q q =>
  ha H1 e _ fun H2 e2 => ⟨rfl, q H2 e2⟩
theorem ev_notN (ha : Ev ta σ H x) : Ev (tOp rNotNone ta (tC .non)) σ H (.bl (!decide (x = .non))) := fun H1 e Q q =>
  ha H1 e _ fun H2 e2 => ⟨rfl, q H2 e2⟩
theorem ev_one (h : Ev ta σ H v) : Ev ta σ H v := h
theorem CMulX.of {m n : Nat} (hi : Builtin.Int.intBits i ≤ m) (hj : Builtin.Int.intBits j ≤ n) (h : m + n ≤ 134217728) : CMulX i j := by
  show ((Builtin.Int.intBits i : Nat) : Int) + ((Builtin.Int.intBits j : Nat) : Int) ≤ 134217728
  omega
theorem bits64 (h : -(2 ^ 64) < i ∧ i < 2 ^ 64) : Builtin.Int.intBits i ≤ 64 := PySem.intBits_le_iff.mpr (by omega)
theorem bitsM {m n : Nat} (h : Builtin.Int.intBits i ≤ m) (h2 : Builtin.Int.intBits j ≤ n) : Builtin.Int.intBits (i * j) ≤ m + n := PySem.intBits_mul_le h h2
end
/-! ### tests -/
section
variable {K : PySem.W.Frag} {σ : L2.St} {H H' : Hp} {ta tb te : TE} {t u : TT}
theorem et_pt {b : Bool} (h : EvT t σ H b) : EvT t σ H b := h
theorem ev_andB {a b : Bool} (h1 : Ev ta σ H (.bl a)) (h2 : a = true → Ev tb σ H (.bl b)) (c : Bool) (hc : c = (a && b)) : Ev (tAndV ta tb) σ H (.bl c) := by
  rw [hc]; exact ev_andV h1 h2
end

section
variable {σ : L2.St} {H : Hp} {te : TE} {D : Ends} {tz : TS}
theorem q_set {i : Nat} (k : te σ H fun x H1 => tz D (σ.set i (some x)) H1) : tSeq (tAsg te (gName i)) tz D σ H := k
theorem s_set {i : Nat} (k : te σ H fun x H1 => D.nx (σ.set i (some x)) H1) : tAsg te (gName i) D σ H := k
theorem q_seq {t : TS} (k : t { D with nx := tz D } σ H) : tSeq t tz D σ H := k
end
section
variable {K : PySem.W.Frag} {σ : L2.St} {H : Hp} {ta tb te : TE}
theorem el_cat {xs ys : List V} (ha : EvL ta σ H xs) (hb : EvL tb σ H ys) (hl : xs.length + ys.length ≤ 100000) : EvL (tOp rCat ta tb) σ H (xs ++ ys) := fun H1 e Q q =>
  ha H1 e _ fun p H2 n2 e2 hp => hb H2 (e.trans e2) _ fun r H3 n3 e3 hr =>
    ⟨p, r, xs, ys, rfl, rfl, e3 _ _ hp, hr, sz_of hl, fun u nu =>
      q u _ (fresh_back (e2.trans e3) nu) ((e2.trans e3).trans (Ex.new nu)) upd_same⟩
theorem eld_cat {xs ys : List PyData} (ha : EvLD K ta σ H xs) (hb : EvLD K tb σ H ys) (hl : xs.length + ys.length ≤ 100000) : EvLD K (tOp rCat ta tb) σ H (xs ++ ys) := fun H1 e Q q =>
  ha H1 e _ fun p us H2 n2 e2 hp r1 => hb H2 (e.trans e2) _ fun r ws H3 n3 e3 hr r2 =>
    ⟨p, r, us, ws, rfl, rfl, e3 _ _ hp, hr, sz_of (by rw [r1.length, r2.length]; exact hl), fun u nu =>
      q u _ _ (fresh_back (e2.trans e3) nu) ((e2.trans e3).trans (Ex.new nu)) upd_same (((r1.to e3).app r2).to (Ex.new nu))⟩
end
/-! ### lists of whole numbers -/
theorem given_all (n : Nat) (v : Nat → V) : given n (fun _ => true) v = (List.range n).map v := by
  unfold given
  rw [List.filter_eq_self.mpr (fun _ _ => rfl)]
theorem getI {ns : List Int} {i : Nat} {x : V} (h : (ns.map V.int)[i]? = some x) : ∃ k, ns[i]? = some k ∧ x = .int k := by
  rw [List.getElem?_map] at h
  obtain ⟨k, h1, h2⟩ := Option.map_eq_some_iff.mp h
  exact ⟨k, h1, h2.symm⟩
theorem atI_int {ns : List Int} {j : Nat} {k : Int} (h : ns[j]? = some k) : atI (ns.map V.int) (j : Int) = some (.int k) :=
  atI_nat (by rw [List.getElem?_map, h]; rfl)
theorem range_getD {α β : Type} (l : List α) (d : α) (g : α → β) : (List.range l.length).map (fun i => g (l.getD i d)) = l.map g := by
  apply List.ext_getElem?
  intro i
  rw [List.getElem?_map, List.getElem?_map]
  rcases Nat.lt_or_ge i l.length with h | h
  · rw [List.getElem?_range h, List.getElem?_eq_getElem h]
    simp [h]
  · rw [List.getElem?_eq_none (by simpa using h), List.getElem?_eq_none h]
    rfl
theorem getD_of {ns : List Int} {i : Nat} {k : Int} (h : ns[i]? = some k) : ns.getD i 0 = k := by
  rw [List.getD_eq_getElem?_getD, h]
  rfl
theorem take_snoc {ns : List Int} {i : Nat} {k : Int} (h : ns[i]? = some k) : ns.take (i + 1) = ns.take i ++ [k] := by
  rw [List.take_add_one, h]
  rfl
/-- fresh before, too -/
theorem free_of {H H1 : Hp} {p : Addr} (e : Ex H H1) (n : H1 p = none) : H p = none := fresh_back e n
end GS


set_option Elab.async false
set_option linter.all false
set_option maxRecDepth 100000
set_option maxHeartbeats 4000000
namespace GS
open PySem PySem.Spec PyProof.Rows L2 Evl

/-! ### rules with the written part named -/
section
variable {X : Cx} {K : PySem.W.Frag}
theorem k_len (h : X.K = K) : CallR X (.builtin "len") (rLenS K) := h ▸ call_len_seq
theorem k_list (h : X.K = K) : CallR X (.type "list") (rListS K) := h ▸ call_list_of
theorem k_ixl (h : X.K = K) : IxR X (rIxL K) := h ▸ ix_list
theorem k_sll (h : X.K = K) : SlR X (rSlL K) := h ▸ sl_list
theorem k_sum (h : X.K = K) (hc : X.calm = true) : CallR X (.builtin "sum") (rSum K) := h ▸ cr_sum hc
theorem k_all (h : X.K = K) (hc : X.calm = true) : CallR X (.builtin "all") (rAll K) := h ▸ cr_all hc
theorem k_any (h : X.K = K) (hc : X.calm = true) : CallR X (.builtin "any") (rAny K) := h ▸ cr_any hc
theorem k_sorted (h : X.K = K) : CallR X (.builtin "sorted") (rSortedI K) := h ▸ cr_sortedI
theorem k_isi (h : X.K = K) : CallR X (.builtin "isinstance") (rIsAny K) := h ▸ call_isAny
theorem k_repr (h : X.K = K) (hq : X.A.guards = some []) (hu : X.A.units + 64 < cLine) : CallR X (.builtin "repr") (rRepr K) := h ▸ call_repr_any hq hu
theorem k_eq (h : X.K = K) (hu : X.A.units + 64 < cLine) : OpR X (compareOp .Eq) (rEqD K) := h ▸ op_eqD hu
theorem k_ne (h : X.K = K) (hu : X.A.units + 64 < cLine) : OpR X (compareOp .NotEq) (rNeD K) := h ▸ op_neD hu
variable {tg l : Expr} {tl : TE}
theorem k_pil (h : X.K = K) (hl : PE X l tl) : PI X tg l (iList K tl) := h ▸ pi_list hl
theorem k_held {e : Expr} {te : TE} {pos : Pos} (h : X.K = K) (he : PE X e te) (hb : attributeBase e "value" X.env (eval e X.env) = eval e X.env := by rfl) :
    PE X (.Attribute e "value" pos) (tHeldV K te) := h ▸ pe_heldv he hb
theorem k_enum {e : Expr} {ta : TA} {p pos tpos : Pos} {elts : List Expr} {kk : Nat} (h : X.K = K) (hg : Gl X "enumerate") (hm : X.mg "enumerate" = none) (ha : PA X [e] ta)
    (hs : starEach [e] X.env = [(false, eval e X.env)] := by rfl) : PI X (.Tuple elts kk tpos) (.Call (.Name "enumerate" p) [e] [] pos) (iEnum K ta) := h ▸ pi_enum hg hm ha hs
theorem k_gtup {es : List Expr} {k : Nat} {pos : Pos} {t : TGs} {n : Nat} (h : X.K = K) (hc : X.calm = true) (hs : PGs X es t)
    (hn : (assignEach es X.env).length = n := by rfl) (hst : (assignEach es X.env).findIdx? (·.1) = none := by rfl) : PG X (.Tuple es k pos) (gTup K n t) := h ▸ pg_tup hc hs hn hst
theorem k_app {e : Expr} {o : Expr} {to te : TE} {apos cpos : Pos} (h : X.K = K) (ho : PE X o to) (he : PE X e te)
    (hz : PE X (.Call (.Attribute o "append" apos) [e] [] cpos) (tBM X.K "list" rAppend to (tCons te tNil))) : PE X (.Call (.Attribute o "append" apos) [e] [] cpos) (tBM K "list" rAppend to (tCons te tNil)) := h ▸ hz
end
/-! ### a list in order -/
def insI (x : Int) : List Int → List Int
  | [] => [x]
  | y :: r => if x ≤ y then x :: y :: r else y :: insI x r
def isort : List Int → List Int
  | [] => []
  | x :: r => insI x (isort r)
theorem insI_perm (x : Int) : ∀ l : List Int, (insI x l).Perm (x :: l)
  | [] => .refl _
  | y :: r => by
    unfold insI
    split
    · exact .refl _
    · exact ((insI_perm x r).cons y).trans (List.Perm.swap x y r)
theorem isort_perm : ∀ l : List Int, (isort l).Perm l
  | [] => .refl _
  | x :: r => (insI_perm x (isort r)).trans ((isort_perm r).cons x)
theorem insI_pw (x : Int) : ∀ l : List Int, l.Pairwise (· ≤ ·) → (insI x l).Pairwise (· ≤ ·)
  | [], _ => List.pairwise_singleton _ _
  | y :: r, h => by
    have h2 := List.pairwise_cons.mp h
    unfold insI
    split
    · rename_i q
      refine List.pairwise_cons.mpr ⟨fun z hz => ?_, h⟩
      rcases List.mem_cons.mp hz with e | hz
      · rw [e]; exact q
      · exact Int.le_trans q (h2.1 z hz)
    · rename_i q
      refine List.pairwise_cons.mpr ⟨fun z hz => ?_, insI_pw x r h2.2⟩
      rcases List.mem_cons.mp ((insI_perm x r).mem_iff.mp hz) with e | hz
      · rw [e]; omega
      · exact h2.1 z hz
theorem isort_pw : ∀ l : List Int, (isort l).Pairwise (· ≤ ·)
  | [] => .nil
  | x :: r => insI_pw x _ (isort_pw r)
theorem isort_is {l m : List Int} (h : m.Perm l) (p : m.Pairwise (· ≤ ·)) : m = isort l :=
  PySem.W.ksm_same (h.trans (isort_perm l).symm) p (isort_pw l)
theorem isort_of_perm {l m : List Int} (h : l.Perm m) : isort l = isort m := isort_is ((isort_perm l).trans h) (isort_pw l)
theorem isort_len (l : List Int) : (isort l).length = l.length := (isort_perm l).length_eq
def rangeI (n : Nat) : List Int := (List.range n).map fun i : Nat => (i : Int)
theorem rangeI_len (n : Nat) : (rangeI n).length = n := by unfold rangeI; rw [List.length_map, List.length_range]
theorem rangeI_get {n i : Nat} (h : i < n) : (rangeI n)[i]? = some (i : Int) := by
  unfold rangeI
  rw [List.getElem?_map, List.getElem?_range h]
  rfl
theorem rangeI_succ (n : Nat) : rangeI (n + 1) = rangeI n ++ [(n : Int)] := by
  unfold rangeI
  rw [List.range_succ, List.map_append]
  rfl
theorem rangeI_mem {n : Nat} {x : Int} : x ∈ rangeI n ↔ 0 ≤ x ∧ x < n := by
  unfold rangeI
  constructor
  · intro h
    obtain ⟨i, hi, e⟩ := List.mem_map.mp h
    have := List.mem_range.mp hi
    omega
  · intro h
    refine List.mem_map.mpr ⟨x.toNat, List.mem_range.mpr (by omega), ?_⟩
    show ((x.toNat : Nat) : Int) = x
    omega
theorem rangeI_pw (n : Nat) : (rangeI n).Pairwise (· ≤ ·) := by
  induction n with
  | zero => exact (List.Pairwise.nil : ([] : List Int).Pairwise (· ≤ ·))
  | succ n ih =>
    rw [rangeI_succ]
    refine List.pairwise_append.mpr ⟨ih, List.pairwise_singleton _ _, fun a ha b hb => ?_⟩
    have := (rangeI_mem (n := n)).mp ha
    have e := List.mem_singleton.mp hb
    omega
theorem isort_range (n : Nat) : isort (rangeI n) = rangeI n := (isort_is (.refl _) (rangeI_pw n)).symm
theorem perm_iff_isort {l : List Int} : l.Perm (rangeI l.length) ↔ isort l = rangeI l.length := by
  constructor
  · intro h
    rw [isort_of_perm h, isort_range]
  · intro h
    rw [← h]
    exact (isort_perm l).symm

section
variable {K : PySem.W.Frag} {σ : L2.St} {H : Hp} {ta te : TE}
theorem el_sort {p : Addr} {ns : List Int} (ha : Ev ta σ H (.ref p)) (h : SqL K H p (ns.map V.int)) :
    EvL (tCB (rSortedI K) (tCons ta tNil)) σ H ((isort ns).map V.int) := fun H1 e Q q =>
  ha H1 e _ fun H2 e2 => ⟨p, ns, rfl, ex_l (e.trans e2) h, fun m u hm hp hu => by
    rw [isort_is hm hp]
    exact q u _ (fresh_back e2 hu) (e2.trans (Ex.new hu)) upd_same⟩
theorem rgV_eq (n : Nat) : rgV 0 (n : Int) = (rangeI n).map V.int := by
  unfold rgV rangeI
  rw [List.map_map]
  have e : ((n : Int) - 0).toNat = n := by omega
  rw [e]
  apply List.map_congr_left
  intro i _
  show V.int (0 + (i : Int)) = V.int (i : Int)
  rw [Int.zero_add]
theorem el_range {n : Nat} (ha : Ev ta σ H (.int n)) (hn : n ≤ 16777216) : EvL (tLstRg (tRg1 ta)) σ H ((rangeI n).map V.int) := fun H1 e Q q =>
  ha H1 e _ fun H2 e2 => ⟨(n : Int), rfl, RgOk.of_le (Int.le_refl 0) (by omega) (by decide) (by omega), fun u hu => by
    rw [rgV_eq]
    exact q u _ (fresh_back e2 hu) (e2.trans (Ex.new hu)) upd_same⟩
theorem el_range2 {a b : Int} {tb : TE} (ha : Ev ta σ H (.int a)) (hb : Ev tb σ H (.int b)) (ok : RgOk a b) : EvL (tLstRg (tRg2 ta tb)) σ H (rgV a b) := fun H1 e Q q =>
  ha H1 e _ fun H2 e2 => hb H2 (e.trans e2) _ fun H3 e3 => ⟨a, b, rfl, rfl, ok, fun u hu =>
    q u _ (fresh_back (e2.trans e3) hu) ((e2.trans e3).trans (Ex.new hu)) upd_same⟩

/-! ### a list made over enumerate, and one made by calls that change something -/
theorem el_lcE {tas : TA} {tt : TT} {a : Addr} {xs : List V} {vs : List Nat} {i j : Nat} (f : Nat → Bool) (v : Nat → V) (h : EvA tas σ H [.ref a]) (hx : SqL K H a xs) (hz : xs.length ≤ 40000)
    (hw : ∀ x y, wipe (((wipe σ vs).set i (some x)).set j (some y)) vs = wipe σ vs)
    (ht : ∀ (n : Nat) (x : V) H1, Ex H H1 → xs[n]? = some x → EvT tt (((wipe σ vs).set i (some (.int (n : Int)))).set j (some x)) H1 (f n))
    (he : ∀ (n : Nat) (x : V) H1, Ex H H1 → xs[n]? = some x → f n = true → Ev te (((wipe σ vs).set i (some (.int (n : Int)))).set j (some x)) H1 (v n)) :
    EvL (tLc (iEnum K tas) (gTup K 2 (gCons (gName i) (gCons (gName j) gNil))) tt te vs) σ H (given xs.length f v) := fun H0 e Q q => h H0 e _ fun H1 e1 => by
  refine ⟨a, xs, rfl, ex_l (e.trans e1) hx, fun Dl hD => ?_⟩
  refine ⟨fun n m H' => m = xs.length - n ∧ n ≤ xs.length ∧ Cw H1 f v Dl n H', ⟨xs.length, by simp, Nat.zero_le _, hD, Ex.new hD, upd_same⟩, ?_⟩
  rintro n m H' ⟨rfl, hn, p⟩
  have sq : SqL K H' a xs := ex_l ((e.trans e1).trans p.2.1) hx
  rcases Nat.lt_or_ge n xs.length with lt | ge
  · refine .inr ⟨⟨xs, xs[n], sq, List.getElem?_eq_getElem lt⟩, Cw H1 f v Dl (n + 1), fun H2 p2 => ⟨xs.length - (n + 1), by omega, rfl, lt, p2⟩, ?_⟩
    rintro x H2 ⟨T, y, rfl, nT, rfl, hy⟩
    have gy := hy xs sq
    have eT : Ex H' (upd H' T (.tup [.int (n : Nat), y])) := Ex.new nT
    refine ⟨T, [.int (n : Nat), y], rfl, st_of upd_same, rfl, .int (n : Nat), [y], rfl, y, [], rfl, rfl, hw _ _, ?_⟩
    have p2 : Cw H1 f v Dl n (upd H' T (.tup [.int (n : Nat), y])) := ⟨p.1, p.2.1.trans eT, eT _ _ p.2.2⟩
    exact cw_turn p2 (by omega) (ht n y H1 (e.trans e1) gy) (fun hf => he n y H1 (e.trans e1) gy hf)
  · have en : n = xs.length := by omega
    subst en
    exact .inl ⟨⟨xs, sq, Nat.le_refl _⟩, q Dl H' (fresh_back e1 p.1) (e1.trans p.2.1) p.2.2⟩

/-- over range(n), the elements by any means; acc: what is made so far -/
theorem lc_rng {tas : TA} {tt : TT} {vs : List Nat} {j : Nat} {n : Int} {Q : VK} (h : EvA tas σ H [.int n]) (hn : 0 ≤ n ∧ n ≤ 40000)
    (hw : ∀ x, wipe ((wipe σ vs).set j (some x)) vs = wipe σ vs) (Pv : Addr → Nat → List V → Hp → Prop)
    (h0 : ∀ D H1, Ex H H1 → H1 D = none → Pv D 0 [] (upd H1 D (.lst [])))
    (hs : ∀ D (i : Nat) acc H2, (i : Int) < n → Pv D i acc H2 → tt ((wipe σ vs).set j (some (.int (i : Int)))) H2 fun b H3 =>
      if b = true then te ((wipe σ vs).set j (some (.int (i : Int)))) H3 fun y H4 => ∃ acc2, H4 D = some (.lst acc2) ∧ acc2.length < sizeLine ∧
        ∃ acc, Pv D (i + 1) acc (upd H4 D (.lst (acc2 ++ [y])))
      else ∃ acc, Pv D (i + 1) acc H3)
    (hd : ∀ D acc H2, Pv D n.toNat acc H2 → Q (.ref D) H2) : tLc (iRng1 tas) (gName j) tt te vs σ H Q :=
  h H (Ex.refl H) _ fun H1 e1 => ⟨n, rfl, by omega, by omega, fun D hD => by
    refine ⟨fun i m H2 => m = n.toNat - i ∧ i ≤ n.toNat ∧ ∃ acc, Pv D i acc H2, ⟨n.toNat, by simp, Nat.zero_le _, [], h0 D H1 e1 hD⟩, ?_⟩
    rintro i m H2 ⟨rfl, hi, acc, p⟩
    rcases Nat.lt_or_ge i n.toNat with lt | ge
    · refine .inr ⟨lt, fun H3 => ∃ acc, Pv D (i + 1) acc H3, fun H3 p3 => ⟨n.toNat - (i + 1), by omega, rfl, lt, p3⟩, ?_⟩
      rintro x H3 ⟨rfl, rfl⟩
      have e0 : (0 : Int) + (i : Int) = (i : Int) := Int.zero_add _
      rw [e0]
      exact ⟨hw _, hs D i acc H3 (by omega) p⟩
    · have en : i = n.toNat := by omega
      subst en
      exact .inl ⟨Nat.le_refl _, hd D acc H2 p⟩⟩
end
end GS


set_option Elab.async false
set_option linter.all false
set_option maxRecDepth 100000
set_option maxHeartbeats 4000000
namespace GS
open PySem PySem.Spec PyProof.Rows L2 Evl
section
variable {K : PySem.W.Frag} {σ : L2.St} {H : Hp} {ta tb te : TE} {D : Ends} {tz tu : TS}
/-- for i, x in enumerate(xs) -/
theorem q_forE {tas : TA} {a : Addr} {xs : List V} {i j : Nat} (h : EvA tas σ H [.ref a]) (hx : SqL K H a xs) (Pv : Nat → L2.St → Hp → Prop) (h0 : ∀ H1, Ex H H1 → Pv 0 σ H1)
    (hl : ∀ n σ' H', n ≤ xs.length → Pv n σ' H' → SqL K H' a xs)
    (hs : ∀ (n : Nat) x σ' H', xs[n]? = some x → Pv n σ' H' → ∀ H2, Ex H' H2 → tu { D with nx := Pv (n + 1), ct := Pv (n + 1), bk := tz D } ((σ'.set i (some (.int (n : Int)))).set j (some x)) H2)
    (hd : ∀ σ' H', Pv xs.length σ' H' → tz D σ' H') :
    tSeq (tFor (iEnum K tas) (gTup K 2 (gCons (gName i) (gCons (gName j) gNil))) tu) tz D σ H := h H (Ex.refl H) _ fun H1 e1 => by
  refine ⟨a, xs, rfl, ex_l e1 hx, fun n m σ' H' => m = xs.length - n ∧ n ≤ xs.length ∧ Pv n σ' H', ⟨xs.length, by simp, Nat.zero_le _, h0 H1 e1⟩, ?_⟩
  rintro n m σ' H' ⟨rfl, hn, p⟩
  have sq : SqL K H' a xs := hl n σ' H' hn p
  rcases Nat.lt_or_ge n xs.length with lt | ge
  · refine .inr ⟨⟨xs, xs[n], sq, List.getElem?_eq_getElem lt⟩, Pv (n + 1), fun σ2 H2 p2 => ⟨xs.length - (n + 1), by omega, rfl, lt, p2⟩, ?_⟩
    rintro x H2 ⟨T, y, rfl, nT, rfl, hy⟩
    have gy := hy xs sq
    exact ⟨T, [.int (n : Nat), y], rfl, st_of upd_same, rfl, .int (n : Nat), [y], rfl, y, [], rfl, rfl, hs n y σ' H' gy p _ (Ex.new nT)⟩
  · have en : n = xs.length := by omega
    subst en
    exact .inl ⟨⟨xs, sq, Nat.le_refl _⟩, hd σ' H' p⟩
/-- a new dict -/
def EvK (te : TE) (σ : L2.St) (H : Hp) (kvs : List (Key × V)) : Prop := ∀ H1, Ex H H1 → ∀ Q : VK, (∀ p H2, H1 p = none → Ex H1 H2 → H2 p = some (.dK kvs) → Q (.ref p) H2) → te σ H1 Q
def ranksK (ns : List Int) (n : Nat) : List (Key × V) := (List.range n).map fun i => (.inl (ns.getD i 0), .int (i : Int))
theorem ranksK_succ (ns : List Int) (n : Nat) : ranksK ns (n + 1) = ranksK ns n ++ [(.inl (ns.getD n 0), .int (n : Int))] := by
  unfold ranksK
  rw [List.range_succ, List.map_append]
  rfl
theorem nd_get {ns : List Int} (h : ns.Nodup) {i j : Nat} (hi : i < ns.length) (hj : j < ns.length) (e : ns.getD i 0 = ns.getD j 0) : i = j := by
  rw [List.getD_eq_getElem?_getD, List.getD_eq_getElem?_getD, List.getElem?_eq_getElem hi, List.getElem?_eq_getElem hj] at e
  have e : ns[i] = ns[j] := e
  rcases Nat.lt_trichotomy i j with lt | eq | gt
  · exact absurd e (List.pairwise_iff_getElem.mp h i j hi hj lt)
  · exact eq
  · exact absurd e.symm (List.pairwise_iff_getElem.mp h j i hj hi gt)
theorem ranksK_put {ns : List Int} (h : ns.Nodup) {n : Nat} (hn : n < ns.length) : putK (ranksK ns n) (.inl (ns.getD n 0)) (.int (n : Int)) = ranksK ns (n + 1) := by
  rw [ranksK_succ]
  unfold putK
  rw [if_neg]
  intro z
  obtain ⟨q, hq, e⟩ := List.any_eq_true.mp z
  obtain ⟨i, hi, rfl⟩ := List.mem_map.mp hq
  have hi2 := List.mem_range.mp hi
  have e2 : (Sum.inl (ns.getD i 0) : Key) = .inl (ns.getD n 0) := of_decide_eq_true e
  have := nd_get h (by omega) hn (Sum.inl.inj e2)
  omega
theorem ranksK_get {ns : List Int} (h : ns.Nodup) {n : Nat} (hn : n < ns.length) : valV (ranksK ns ns.length) (.inl (ns.getD n 0)) = some (.int (n : Int)) := by
  unfold valV ranksK
  rw [List.find?_map]
  have e : (List.range ns.length).find? ((fun kv : Key × V => decide (kv.1 = .inl (ns.getD n 0))) ∘ fun i => (.inl (ns.getD i 0), .int (i : Int))) = some n := by
    rw [List.find?_range_eq_some]
    refine ⟨decide_eq_true rfl, List.mem_range.mpr hn, fun j hj => ?_⟩
    simp only [Function.comp, Bool.not_eq_true', decide_eq_false_iff_not]
    intro e
    have := nd_get h (by omega) hn (Sum.inl.inj e)
    omega
  rw [e]
  rfl
theorem ek_rank {ns : List Int} {i j : Nat} {vs : List Nat} (h : EvL te σ H (ns.map V.int)) (nd : ns.Nodup) (hl : ns.length ≤ 40000) (hij : i ≠ j) (hi : i < σ.length) (hj : j < σ.length)
    (hw : ∀ x y, wipe (((wipe σ vs).set i (some x)).set j (some y)) vs = wipe σ vs) :
    EvK (tDc (iEnum K (tCons te tNil)) (gTup K 2 (gCons (gName i) (gCons (gName j) gNil))) tYes (tVar j) (tVar i) vs) σ H (ranksK ns ns.length) := fun H0 e Q q =>
  h H0 e _ fun a H1 na e1 ha => by
    refine ⟨a, ns.map V.int, rfl, sq_of ha, fun Dd hD => ?_⟩
    have da : a ≠ Dd := ne_of_none ha hD
    refine ⟨fun n m H' => m = ns.length - n ∧ n ≤ ns.length ∧ Ex H1 H' ∧ H' Dd = some (.dK (ranksK ns n)), ⟨ns.length, by simp, Nat.zero_le _, Ex.new hD, upd_same⟩, ?_⟩
    rintro n m H' ⟨rfl, hn, e2, hK⟩
    have sq : SqL K H' a (ns.map V.int) := sq_of (e2 _ _ ha)
    rcases Nat.lt_or_ge n ns.length with lt | ge
    · refine .inr ⟨⟨ns.map V.int, .int (ns.getD n 0), sq, ?_⟩, fun H2 => Ex H1 H2 ∧ H2 Dd = some (.dK (ranksK ns (n + 1))), fun H2 p2 => ⟨ns.length - (n + 1), by omega, rfl, lt, p2⟩, ?_⟩
      · rw [List.getElem?_map, List.getElem?_eq_getElem lt, List.getD_eq_getElem?_getD, List.getElem?_eq_getElem lt]
        rfl
      rintro x H2 ⟨T, y, rfl, nT, rfl, hy⟩
      obtain ⟨k, hk, rfl⟩ := getI (hy _ sq)
      have hk2 := getD_of hk
      refine ⟨T, [.int (n : Nat), .int k], rfl, st_of upd_same, rfl, .int (n : Nat), [.int k], rfl, .int k, [], rfl, rfl, hw _ _, ?_⟩
      have l1 : (((wipe σ vs).set i (some (V.int (n : Int)))).set j (some (V.int k)))[j]? = some (some (V.int k)) := by
        rw [List.getElem?_set_self (by rw [List.length_set, wipe_length]; exact hj)]
      have l2 : (((wipe σ vs).set i (some (V.int (n : Int)))).set j (some (V.int k)))[i]? = some (some (V.int (n : Int))) := by
        rw [List.getElem?_set_ne (Ne.symm hij), List.getElem?_set_self (by rw [wipe_length]; exact hi)]
      have hD2 : (upd H' T (.tup [.int (n : Nat), .int k])) Dd = some (.dK (ranksK ns n)) := Ex.new nT _ _ hK
      unfold tYes
      refine iteT ?_
      refine ⟨.int k, l1, .int (n : Int), l2, ranksK ns n, .inl k, rfl, hD2, ?_, ?_, ?_⟩
      · unfold ranksK
        rw [List.length_map, List.length_range]
        exact sz_lt (by omega)
      · exact (e2.trans (Ex.new nT)).mut hD
      · rw [upd_same, ← hk2, ranksK_put nd lt]
    · have en : n = ns.length := by omega
      subst en
      exact .inl ⟨⟨ns.map V.int, sq, by rw [List.length_map]; exact Nat.le_refl _⟩, q Dd H' (free_of e1 hD) (e1.trans e2) hK⟩
theorem ev_rank {ns : List Int} {p : Addr} {k : Int} {n : Nat} (nd : ns.Nodup) (hn : ns[n]? = some k) (hp : H p = some (.dK (ranksK ns ns.length))) (ha : Ev ta σ H (.ref p)) (hb : Ev tb σ H (.int k)) : Ev (tDGet ta tb) σ H (.int (n : Int)) := fun H1 e Q q =>
  ha H1 e _ fun H2 e2 => hb H2 (e.trans e2) _ fun H3 e3 => ⟨p, .int (n : Int), rfl, by
    have z := DGet.k (k := .inl k) (((e.trans e2).trans e3) _ _ hp)
    have lt := (List.getElem?_eq_some_iff.mp hn).1
    have g := ranksK_get nd lt
    rw [getD_of hn] at g
    rw [g] at z
    exact z, q H3 (e2.trans e3)⟩
theorem q_asgK {i : Nat} {kvs : List (Key × V)} (h : EvK te σ H kvs) (k : ∀ p H1, H p = none → Ex H H1 → H1 p = some (.dK kvs) → tz D (σ.set i (some (.ref p))) H1) :
    tSeq (tAsg te (gName i)) tz D σ H := h H (Ex.refl H) _ k
end
end GS


set_option Elab.async false
set_option linter.all false
set_option maxRecDepth 100000
set_option maxHeartbeats 4000000
namespace GS
open PySem PySem.Spec PyProof.Rows L2 Evl

/-! ### factorial, divmod -/
def rFact : List V → Hp → VK → Prop := fun vs H Q => ∃ a : Nat, vs = [.int a] ∧ a ≤ 20000 ∧ Q (.int ((Builtin.Math.factorialNat a : Nat) : Int)) H
def rDivm : List V → Hp → VK → Prop := fun xs H Q => ∃ i j, xs = [.int i, .int j] ∧ CDivP i j ∧ ∀ p, H p = none → Q (.ref p) (upd H p (.tup [.int (i / j), .int (i % j)]))
section
variable {X : Cx}
theorem c_fact : CallR X (.builtin "math.factorial") rFact := by
  intro pins s σ H vs us Q I r h
  obtain ⟨a, rfl, ha, q⟩ := h
  obtain ⟨u, rfl, t, rfl⟩ := Vals.one r
  refine PySem.W.mc_factorial (by omega) (by omega) fun _ => ?_
  rw [Int.toNat_natCast]
  exact ⟨.int _, H, I.tok _, ⟨_, rfl⟩, q⟩
theorem c_divm : CallR X (.builtin "divmod") rDivm := call_divmodW
end
section
variable {K : PySem.W.Frag} {σ : L2.St} {H : Hp} {ta tb te : TE} {D : Ends} {tz : TS}
theorem ev_fact {a : Nat} (ha : Ev ta σ H (.int a)) (h : a ≤ 20000) : Ev (tCB rFact (tCons ta tNil)) σ H (.int ((Builtin.Math.factorialNat a : Nat) : Int)) := fun H1 e Q q =>
  ha H1 e _ fun H2 e2 => ⟨a, rfl, h, q H2 e2⟩
/-- x, y = divmod(a, b) -/
theorem q_divm {i j : Nat} {a b : Int} (ha : Ev ta σ H (.int a)) (hb : Ev tb σ H (.int b)) (hc : CDivP a b)
    (k : ∀ H1, Ex H H1 → tz D ((σ.set i (some (.int (a / b)))).set j (some (.int (a % b)))) H1) :
    tSeq (tAsg (tCB rDivm (tCons ta (tCons tb tNil))) (gTup K 2 (gCons (gName i) (gCons (gName j) gNil)))) tz D σ H :=
  ha H (Ex.refl H) _ fun H1 e1 => hb H1 e1 _ fun H2 e2 => ⟨a, b, rfl, hc, fun t nt =>
    ⟨t, [.int (a / b), .int (a % b)], rfl, st_of upd_same, rfl, _, _, rfl, _, _, rfl, rfl, k _ ((e1.trans e2).trans (Ex.new nt))⟩⟩
end

/-! ### list(range(a, b, c)) -/
def rg3V (a c : Int) (n : Nat) : List V := (List.range n).map fun i => V.int (a + (i : Nat) * c)
def Rg3Ok (a b c : Int) (n : Nat) : Prop := Builtin.Range.small a b c = true ∧ Builtin.Range.rangeSize a b c = n ∧ n ≤ 2 ^ 24
theorem vals_rg3 {a c : Int} {n : Nat} {acc : Array Value} (h : ItemsOf (fun i v => ∃ t, v = .int (a + i * c) t) acc n) : Vals (rg3V a c n) acc.toList := by
  have e : acc.toList.length = n := by rw [Array.length_toList]; exact h.1
  unfold rg3V
  rw [← e]
  refine vals_of_get acc.toList _ fun j u hj => ?_
  obtain ⟨t, rfl⟩ := h.2 j u (by rw [← hj, Array.getElem?_toList])
  exact ⟨t, rfl⟩
def PRg3 (X : Cx) (e : Expr) (t : L2.St → Hp → (Int → Int → Int → Hp → Prop) → Prop) : Prop :=
  ∀ (pins : List (Addr × Obj)) (s : Shared) (σ : L2.St) (H : Hp) (Q : Int → Int → Int → Hp → Prop), Inv X pins σ H s → t σ H Q →
    wpAny (model X.prog X.w) X.A (eval e X.env) (fun x s2 => ∃ r a b c t u v H2, x = .ref r ∧ IsRange s2.heap r a b c t u v ∧ Inv X pins σ H2 s2 ∧ Q a b c H2) X.xe s
def tRg3 (ta : TA) : L2.St → Hp → (Int → Int → Int → Hp → Prop) → Prop := fun σ H Q => ta σ H fun vs H1 => ∃ a b c : Int, vs = [.int a, .int b, .int c] ∧ c ≠ 0 ∧ Builtin.divisionGoesByPylong (b - a) c = false ∧ Q a b c H1
theorem prg_3 {X : Cx} {a b c : Expr} {ta : TA} {p pos : Pos} (hg : Gl X "range") (hm : X.mg "range" = none) (ha : PA X [a, b, c] ta)
    (hs : starEach [a, b, c] X.env = (false, eval a X.env) :: starEach [b, c] X.env := by rfl) (hpl : (backTo pos (starEach [b, c] X.env)).any (·.1) = false := by rfl) : PRg3 X (.Call (.Name "range" p) [a, b, c] [] pos) (tRg3 ta) := by
  intro pins s σ H Q I h
  refine Call_ (ld_blt I hg hm boot_range (PyProof.Rows.callWith_type1 (thn (ha.run pos pins s σ H _ I h) fun us s1 ⟨vs, H1, I1, r1, i, j, k, ev, h0, h1, q⟩ => ?_) hs hpl))
  subst ev
  cases r1 with
  | cons x1 r1 =>
    cases r1 with
    | cons x2 r1 =>
      cases r1 with
      | cons x3 r1 =>
        cases r1
        obtain ⟨t1, rfl⟩ := x1
        obtain ⟨t2, rfl⟩ := x2
        obtain ⟨t3, rfl⟩ := x3
        exact call_range_3 h0 ⟨_, i, j, k, _, _, _, H1, rfl, IsRange.new _ _ _ _ _ _ _, I1.kept fun b u e => Heap.get?_push_of_some _ e, q⟩ (.inl h1)
def tLstRg3 (te : L2.St → Hp → (Int → Int → Int → Hp → Prop) → Prop) : TE := fun σ H Q => te σ H fun a b c H1 => ∃ n, Rg3Ok a b c n ∧ ∀ q, H1 q = none → Q (.ref q) (upd H1 q (.lst (rg3V a c n)))
theorem pe_listRg3 {X : Cx} {e : Expr} {te : L2.St → Hp → (Int → Int → Int → Hp → Prop) → Prop} {p pos : Pos} (hc : X.calm = true) (hg : Gl X "list") (hm : X.mg "list" = none) (he : PRg3 X e te) (na : starEach [e] X.env = (false, eval e X.env) :: starEach [] X.env := by rfl) :
    PE X (.Call (.Name "list" p) [e] [] pos) (tLstRg3 te) := by
  refine ⟨fun pins s σ H Q I h => ?_⟩
  refine Call_ (ld_blt I hg hm boot_list (PyProof.Rows.callWith_type1 (args_cons (thn (he pins s σ H _ I h) fun x s1 ⟨r, a, b, c, t, u, v, H1, ex, hr, I1, n, ok, q⟩ => args_nil ?_) na) na))
  subst ex
  obtain ⟨b1, b2, b3⟩ := ok
  refine call_list_range (n := n) (I1.ok.hd hc) hr b1 b2 b3 fun h' tk acc c' hk e' hi => ?_
  refine ⟨.ref s1.heap.objs.size, upd H1 s1.heap.objs.size (.lst (rg3V a c n)), I1.laid hk (Nat.le_refl _) (show ObjOk X.prog X.w _ _ _ (.lst (rg3V a c n)) from ⟨?_, acc.toList, c', vals_rg3 hi, ?_⟩), rfl, q _ (I1.hok.fresh (Nat.le_refl _))⟩
  · unfold rg3V
    rw [List.length_map, List.length_range, sizeLine_eq]
    omega
  · rw [Array.toArray_toList]; exact e'
theorem el_range3 {K : PySem.W.Frag} {σ : L2.St} {H : Hp} {ta : TA} {a b c : Int} {n : Nat} (ha : EvA ta σ H [.int a, .int b, .int c]) (h0 : c ≠ 0) (h1 : Builtin.divisionGoesByPylong (b - a) c = false) (ok : Rg3Ok a b c n) :
    EvL (tLstRg3 (tRg3 ta)) σ H (rg3V a c n) := fun H1 e Q q =>
  ha H1 e _ fun H2 e2 => ⟨a, b, c, rfl, h0, h1, n, ok, fun u hu => q u _ (fresh_back e2 hu) (e2.trans (Ex.new hu)) upd_same⟩

/-! ### a < b of lists of numbers -/
def rLtI (K : PySem.W.Frag) : R2 := fun x y H Q => ∃ a b : List Int, Rp K H x (.list (a.map .int)) ∧ Rp K H y (.list (b.map .int)) ∧ Q (.bl (decide (a < b))) H
theorem ndI' : ∀ a : List Int, PyData.hasDictAll (a.map .int) = false
  | [] => rfl
  | x :: a => by
    show (false || PyData.hasDictAll (a.map .int)) = false
    rw [ndI' a]; rfl
theorem depI : ∀ a : List Int, (PyData.list (a.map .int)).depth = 1 := fun a => by
  show PyData.depthAll (a.map .int) + 1 = 1
  rw [PySem.W.depth_ints]
theorem k_ltI {X : Cx} {K : PySem.W.Frag} (hK : X.K = K) (hu : X.A.units + 64 < cLine) : OpR X (compareOp .Lt) (rLtI K) := by
  subst hK
  intro pins s σ H x y v u Q I rx ry h
  obtain ⟨a, b, ha, hb, q⟩ := h
  obtain ⟨as, r1⟩ := Dp.reads I (.list (a.map .int)) x v (Rp.dp _ _ ha (ndI' a)) rx
  obtain ⟨bs, r2⟩ := Dp.reads I (.list (b.map .int)) y u (Rp.dp _ _ hb (ndI' b)) ry
  have z := PySem.W.rcLt_alike (.list (a.map .int)) (.list (b.map .int)) X.A s v u as bs r1 r2 (by
    show PySem.W.alikeAll _ _ = true
    exact PySem.W.alike_ints a b) (by intro z; cases z) (by rw [depI, depI]; omega)
  have e : PySem.W.dataLt (.list (a.map .int)) (.list (b.map .int)) = decide (a < b) := by
    rw [PySem.W.dataLt_list]
    exact PySem.W.dataLt_ints a b
  rw [e] at z
  exact z X.prog X.w X.xe _ ⟨.bl _, H, I, rfl, q⟩
section
variable {K : PySem.W.Frag} {σ : L2.St} {H : Hp} {ta tb te : TE} {D : Ends} {tz tu : TS}
theorem ev_ltI {a b : List Int} (ha : EvD K ta σ H (.list (a.map .int))) (hb : EvD K tb σ H (.list (b.map .int))) : Ev (tOp (rLtI K) ta tb) σ H (.bl (decide (a < b))) := fun H1 e Q q =>
  ha H1 e _ fun v H2 e2 r => hb H2 (e.trans e2) _ fun u H3 e3 r2 => ⟨a, b, r.to e3, r2, q H3 (e2.trans e3)⟩
/-- a op b op c -/
theorem ev_chain {r r' : R2} {tc : TE} {x y z : V} {k b : Bool} (ha : Ev ta σ H x) (hb : Ev tb σ H y) (hc : Ev tc σ H z) (h1 : RV r x y H (.bl k)) (h2 : k = true → RV r' y z H (.bl b)) :
    Ev (tChain r r' ta tb tc) σ H (.bl (k && b)) := fun H1 e Q q =>
  ha H1 e _ fun H2 e2 => hb H2 (e.trans e2) _ fun H3 e3 => h1 H3 ((e.trans e2).trans e3) _ fun H4 e4 => ⟨k, rfl, by
    cases k with
    | false => exact q H4 ((e2.trans e3).trans e4)
    | true =>
      exact hc H4 (((e.trans e2).trans e3).trans e4) _ fun H5 e5 => h2 rfl H5 ((((e.trans e2).trans e3).trans e4).trans e5) Q fun H6 e6 => q H6 ((((e2.trans e3).trans e4).trans e5).trans e6)⟩
/-! ### for x in reversed(xs) -/
theorem q_forRev {tas : TA} {a : Addr} {xs : List V} {j : Nat} (h : EvA tas σ H [.ref a]) (hx : SqL K H a xs) (Pv : Nat → L2.St → Hp → Prop) (h0 : ∀ H1, Ex H H1 → Pv 0 σ H1)
    (hl : ∀ n σ' H', n ≤ xs.length → Pv n σ' H' → SqL K H' a xs)
    (hs : ∀ (n : Nat) x σ' H', xs.reverse[n]? = some x → Pv n σ' H' → tu { D with nx := Pv (n + 1), ct := Pv (n + 1), bk := tz D } (σ'.set j (some x)) H')
    (hd : ∀ σ' H', Pv xs.length σ' H' → tz D σ' H') : tSeq (tFor (iRev K tas) (gName j) tu) tz D σ H := h H (Ex.refl H) _ fun H1 e1 => by
  refine ⟨a, xs, rfl, ex_l e1 hx, fun n m σ' H' => m = xs.length - n ∧ n ≤ xs.length ∧ Pv n σ' H', ⟨xs.length, by simp, Nat.zero_le _, h0 H1 e1⟩, ?_⟩
  rintro n m σ' H' ⟨rfl, hn, p⟩
  have sq : SqL K H' a xs := hl n σ' H' hn p
  rcases Nat.lt_or_ge n xs.length with lt | ge
  · refine .inr ⟨⟨lt, xs, xs[xs.length - 1 - n], sq, List.getElem?_eq_getElem (by omega)⟩, Pv (n + 1), fun σ2 H2 p2 => ⟨xs.length - (n + 1), by omega, rfl, lt, p2⟩, ?_⟩
    rintro x H2 ⟨rfl, hy⟩
    refine hs n x σ' _ ?_ p
    rw [List.getElem?_reverse lt]
    exact hy xs sq
  · have en : n = xs.length := by omega
    subst en
    exact .inl ⟨Nat.le_refl _, hd σ' H' p⟩
/-! ### xs.index(k), xs.remove(k), ys.append(xs.pop(k)) -/
theorem ev_index {p : Addr} {ns : List Int} {k : Int} {j : Nat} (ha : Ev ta σ H (.ref p)) (hb : Ev tb σ H (.int k)) (hs : SqL K H p (ns.map V.int)) (hj : ns[j]? = some k) (hf : ∀ m : Nat, m < j → ns[m]? ≠ some k) :
    Ev (tBM K "list" (rIndex K) ta (tCons tb tNil)) σ H (.int (j : Nat)) := fun H1 e Q q =>
  ha H1 e _ fun H2 e2 => ⟨.inl ⟨rfl, _, ex_l (e.trans e2) hs⟩, hb H2 (e.trans e2) _ fun H3 e3 => ⟨p, ns.map V.int, .int k, j, .int k, rfl, rfl, ex_l ((e.trans e2).trans e3) hs, rfl, by
      rw [List.all_map]
      exact List.all_eq_true.mpr fun _ _ => rfl, by rw [List.getElem?_map, hj]; rfl, by
      show (k == k) = true
      exact beq_self_eq_true k, fun m z hm hz => by
      obtain ⟨i, hi, rfl⟩ := getI hz
      show (i == k) = false
      rw [beq_eq_false_iff_ne]
      intro e
      subst e
      exact hf m hm hi, q H3 (e2.trans e3)⟩⟩
theorem q_remove {p : Addr} {ns : List Int} {k : Int} {j : Nat} (ha : Ev ta σ H (.ref p)) (hb : Ev tb σ H (.int k)) (hp : H p = some (.lst (ns.map V.int))) (hj : ns[j]? = some k) (hf : ∀ m : Nat, m < j → ns[m]? ≠ some k)
    (q : ∀ H1, Ex H H1 → tz D σ (upd H1 p (.lst ((ns.eraseIdx j).map V.int)))) : tSeq (tDrop (tBM K "list" rRemI ta (tCons tb tNil))) tz D σ H :=
  ha H (Ex.refl H) _ fun H1 e1 => ⟨.inl ⟨rfl, _, sq_of (e1 _ _ hp)⟩, hb H1 e1 _ fun H2 e2 => ⟨p, ns, k, j, rfl, rfl, (e1.trans e2) _ _ hp, hj, hf, q H2 (e1.trans e2)⟩⟩
theorem s_remove {p : Addr} {ns : List Int} {k : Int} {j : Nat} (ha : Ev ta σ H (.ref p)) (hb : Ev tb σ H (.int k)) (hp : H p = some (.lst (ns.map V.int))) (hj : ns[j]? = some k) (hf : ∀ m : Nat, m < j → ns[m]? ≠ some k)
    (q : ∀ H1, Ex H H1 → D.nx σ (upd H1 p (.lst ((ns.eraseIdx j).map V.int)))) : tDrop (tBM K "list" rRemI ta (tCons tb tNil)) D σ H :=
  ha H (Ex.refl H) _ fun H1 e1 => ⟨.inl ⟨rfl, _, sq_of (e1 _ _ hp)⟩, hb H1 e1 _ fun H2 e2 => ⟨p, ns, k, j, rfl, rfl, (e1.trans e2) _ _ hp, hj, hf, q H2 (e1.trans e2)⟩⟩
theorem seqIx_nat {j n : Nat} (h : j < n) : seqIndex? (j : Int) n = some j := by
  have e : (if (j : Int) < 0 then (j : Int) + n else (j : Int)) = j := if_neg (by omega)
  unfold seqIndex?
  simp only [e]
  rw [if_pos]
  · rfl
  · rw [Bool.and_eq_true, decide_eq_true_eq, decide_eq_true_eq]
    omega
theorem map_eraseIdx {α β : Type} (f : α → β) : ∀ (l : List α) (j : Nat), (l.eraseIdx j).map f = (l.map f).eraseIdx j
  | [], _ => rfl
  | _ :: _, 0 => rfl
  | x :: l, j + 1 => by
    show f x :: (l.eraseIdx j).map f = f x :: (l.map f).eraseIdx j
    rw [map_eraseIdx f l j]
theorem s_appPop {tc : TE} {l p : Addr} {ys : List V} {ns : List Int} {k : Int} {j : Nat} (ha : Ev ta σ H (.ref l)) (hb : Ev tb σ H (.ref p)) (hc : Ev tc σ H (.int (j : Nat))) (lp : l ≠ p) (hl : H l = some (.lst ys)) (hp : H p = some (.lst (ns.map V.int)))
    (hj : ns[j]? = some k) (hn : ns.length ≤ 100000) (hy : ys.length < 100000) (q : ∀ H1, Ex H H1 → D.nx σ (upd (upd H1 p (.lst ((ns.eraseIdx j).map V.int))) l (.lst (ys ++ [.int k])))) :
    tDrop (tBM K "list" rAppend ta (tCons (tBM K "list" rPopAt tb (tCons tc tNil)) tNil)) D σ H :=
  ha H (Ex.refl H) _ fun H1 e1 => ⟨.inl ⟨rfl, _, sq_of (e1 _ _ hl)⟩, hb H1 e1 _ fun H2 e2 => ⟨.inl ⟨rfl, _, sq_of ((e1.trans e2) _ _ hp)⟩, hc H2 (e1.trans e2) _ fun H3 e3 => by
    have lt := (List.getElem?_eq_some_iff.mp hj).1
    refine ⟨p, ns.map V.int, j, j, .int k, rfl, rfl, ((e1.trans e2).trans e3) _ _ hp, by omega, by omega, seqIx_nat (by rw [List.length_map]; exact lt), by rw [List.getElem?_map, hj]; rfl, ?_⟩
    refine ⟨l, ys, .int k, rfl, rfl, ?_, sz_lt hy, ?_⟩
    · rw [upd_ne lp]
      exact ((e1.trans e2).trans e3) _ _ hl
    · have z := q H3 ((e1.trans e2).trans e3)
      rw [map_eraseIdx] at z
      exact z⟩⟩
end

section
variable {X : Cx} {K : PySem.W.Frag} {tg : Expr}
theorem k_rev {e : Expr} {ta : TA} {p pos : Pos} (h : X.K = K) (hg : Gl X "reversed") (hm : X.mg "reversed" = none) (ha : PA X [e] ta) (hs : starEach [e] X.env = [(false, eval e X.env)] := by rfl) :
    PI X tg (.Call (.Name "reversed" p) [e] [] pos) (iRev K ta) := h ▸ pi_reversed hg hm ha hs
theorem k_index (h : X.K = K) : MtR X "list.index" (rIndex K) := h ▸ mt_index
def rIntB : List V → Hp → VK → Prop := fun xs H Q => ∃ k, xs = [.bl k] ∧ Q (.int (if k then 1 else 0)) H
theorem c_intB : CallR X (.type "int") rIntB := fun pins s σ H xs us Q I r h => call_int1 pins s σ H xs us Q I r (.inr h)
theorem ev_intB {σ : L2.St} {H : Hp} {ta : TE} {b : Bool} (h : Ev ta σ H (.bl b)) : Ev (tCB rIntB (tCons ta tNil)) σ H (.int (if b then 1 else 0)) := fun H1 e Q q =>
  h H1 e _ fun H2 e2 => ⟨b, rfl, q H2 e2⟩
end
/-! ### sorted(xs), lists of numbers -/
def rSortedL (K : PySem.W.Frag) : List V → Hp → VK → Prop := fun vs H Q => ∃ (a : Addr) (xs : List V) (bs : List (List Int)), vs = [.ref a] ∧ SqL K H a xs ∧ RpAll K H xs (bs.map fun b => .list (b.map .int)) ∧
  ∀ p ys, H p = none → RpAll K H ys ((bs.mergeSort fun p q => decide (p ≤ q)).map fun b => .list (b.map .int)) → Q (.ref p) (upd H p (.lst ys))
theorem each_of_rp {K : PySem.W.Frag} {H : Hp} : ∀ {bs : List (List Int)} {xs : List V} {vs : List Value}, RpAll K H xs (bs.map fun b => .list (b.map .int)) → Vals xs vs →
    PySem.W.EachIs (fun (v : Value) (b : List Int) => ∃ x, RelV x v ∧ Rp K H x (.list (b.map .int))) vs bs
  | [], _, _, h, r => by
    cases h
    cases r
    exact .nil
  | b :: bs, _, _, h, r => by
    cases h with
    | cons h hs =>
      cases r with
      | cons r rs => exact .cons ⟨_, r, h⟩ (each_of_rp hs rs)
theorem rp_of_each {K : PySem.W.Frag} {H : Hp} : ∀ {bs : List (List Int)} {vs : List Value}, PySem.W.EachIs (fun (v : Value) (b : List Int) => ∃ x, RelV x v ∧ Rp K H x (.list (b.map .int))) vs bs →
    ∃ xs, RpAll K H xs (bs.map fun b => .list (b.map .int)) ∧ Vals xs vs
  | _, _, .nil => ⟨[], .nil, .nil⟩
  | _, _, .cons ⟨x, r, h⟩ t => by
    obtain ⟨xs, h2, r2⟩ := rp_of_each t
    exact ⟨x :: xs, .cons h h2, .cons r r2⟩
theorem k_sortedL {X : Cx} {K : PySem.W.Frag} (hK : X.K = K) (hu : X.A.units + 64 < cLine) : CallR X (.builtin "sorted") (rSortedL K) := by
  subst hK
  intro pins s σ H vs us Q I r h
  obtain ⟨a, xs, bs, rfl, hs, hr, q⟩ := h
  obtain ⟨its, rv, hl, hz⟩ := I.list hs
  rw [Vals.ref1 r]
  have el := rv.length
  have hb : bs.length = xs.length := by
    have := hr.length
    rw [List.length_map] at this
    exact this.symm
  have e1 := each_of_rp hr rv
  refine PySem.W.sorted_data (enc := fun b : List Int => .list (b.map .int)) (bs := bs) hl.isList e1 ?_ ?_ ?_ (by omega) ?_ fun out ho hr2 => ?_
  · refine e1.mono fun v b ⟨x, rx, hx⟩ => ?_
    exact Dp.reads I (.list (b.map .int)) x v (Rp.dp _ _ hx (ndI' b)) rx
  · exact PySem.W.AllAlike.of fun b b' => by
      show PySem.W.alikeAll _ _ = true
      exact PySem.W.alike_ints b b'
  · exact PySem.W.Sortable.others fun b => ⟨(fun z => by cases z), (fun _ z => by cases z)⟩
  · intro b _
    rw [depI]; omega
  · rw [PySem.W.dataLe_rows (fun b : List Int => b)] at hr2
    obtain ⟨ys, h2, r2⟩ := rp_of_each hr2
    obtain ⟨ep, he'⟩ := PyProof.Rows.sortedAll_at s.heap its out.toArray
    refine ⟨.ref _, upd H (s.heap.objs.size + 1) (.lst ys), I.laid (t' := s.toks) (fun _ _ => PyProof.Rows.sortedAll_old) (Nat.le_succ _) ⟨?_, out, ep, r2, he'⟩, rfl, q _ _ (I.hok.fresh (Nat.le_succ _)) h2⟩
    rw [r2.length, ho]
    omega
theorem eld_sortL {K : PySem.W.Frag} {σ : L2.St} {H : Hp} {ta : TE} {p : Addr} {xs : List V} {bs : List (List Int)} (ha : Ev ta σ H (.ref p)) (h : SqL K H p xs) (hr : RpAll K H xs (bs.map fun b => .list (b.map .int))) :
    EvLD K (tCB (rSortedL K) (tCons ta tNil)) σ H ((bs.mergeSort fun p q => decide (p ≤ q)).map fun b => .list (b.map .int)) := fun H1 e Q q =>
  ha H1 e _ fun H2 e2 => ⟨p, xs, bs, rfl, ex_l (e.trans e2) h, hr.to (e.trans e2), fun m ys hm hy => q m ys _ (fresh_back e2 hm) (e2.trans (Ex.new hm)) upd_same (hy.to (Ex.new hm))⟩
end GS


set_option Elab.async false
set_option linter.all false
set_option maxRecDepth 100000
set_option maxHeartbeats 4000000
/-! lists of numbers and their ranks: which of all orders of n numbers an order is -/
namespace RK
open GS

def fac : Nat → Nat
  | 0 => 1
  | n + 1 => fac n * (n + 1)
def val : List Nat → Nat
  | [] => 0
  | r :: rs => r * fac rs.length + val rs
def Ok : List Nat → Prop
  | [] => True
  | r :: rs => r ≤ rs.length ∧ Ok rs
def dig : Nat → Nat → List Nat
  | 0, _ => []
  | k + 1, N => (N / fac k) % (k + 1) :: dig k N
def pick : List Int → List Nat → List Int
  | _, [] => []
  | l, r :: rs => l.getD r 0 :: pick (l.eraseIdx r) rs
def rank : List Int → List Int → List Nat
  | _, [] => []
  | l, x :: o => l.idxOf x :: rank (l.eraseIdx (l.idxOf x)) o
theorem fac_pos : ∀ n, 0 < fac n
  | 0 => Nat.one_pos
  | n + 1 => Nat.mul_pos (fac_pos n) (Nat.succ_pos n)
theorem dig_len : ∀ k N, (dig k N).length = k
  | 0, _ => rfl
  | k + 1, N => by
    show (dig k N).length + 1 = k + 1
    rw [dig_len k N]
theorem dig_ok : ∀ k N, Ok (dig k N)
  | 0, _ => trivial
  | k + 1, N => by
    refine ⟨?_, dig_ok k N⟩
    rw [dig_len]
    exact Nat.le_of_lt_succ (Nat.mod_lt _ (Nat.succ_pos k))
theorem val_dig : ∀ k N, val (dig k N) = N % fac k
  | 0, N => (Nat.mod_one N).symm
  | k + 1, N => by
    show (N / fac k) % (k + 1) * fac (dig k N).length + val (dig k N) = N % (fac k * (k + 1))
    rw [dig_len, val_dig k N, Nat.mod_mul, Nat.mul_comm, Nat.add_comm]
theorem val_lt : ∀ rs, Ok rs → val rs < fac rs.length
  | [], _ => Nat.one_pos
  | r :: rs, h => by
    have a := val_lt rs h.2
    have b : r * fac rs.length ≤ rs.length * fac rs.length := Nat.mul_le_mul_right _ h.1
    show r * fac rs.length + val rs < fac rs.length * (rs.length + 1)
    rw [Nat.mul_add, Nat.mul_one, Nat.mul_comm (fac rs.length)]
    omega
theorem val_cmp {a b : List Nat} {r s : Nat} (ha : Ok a) (hl : a.length = b.length) (h : r < s) : val (r :: a) < val (s :: b) := by
  have x := val_lt a ha
  show r * fac a.length + val a < s * fac b.length + val b
  rw [← hl]
  have y : (r + 1) * fac a.length ≤ s * fac a.length := Nat.mul_le_mul_right _ h
  rw [Nat.add_mul, Nat.one_mul] at y
  omega
theorem val_inj : ∀ {a b : List Nat}, Ok a → Ok b → a.length = b.length → val a = val b → a = b
  | [], [], _, _, _, _ => rfl
  | [], _ :: _, _, _, h, _ => by simp at h
  | _ :: _, [], _, _, h, _ => by simp at h
  | r :: a, s :: b, ha, hb, h, e => by
    have hl : a.length = b.length := by simpa using h
    rcases Nat.lt_trichotomy r s with lt | eq | gt
    · have := val_cmp (b := b) ha.2 hl lt
      omega
    · subst eq
      have e2 : r * fac a.length + val a = r * fac b.length + val b := e
      rw [hl] at e2
      rw [val_inj ha.2 hb.2 hl (by omega)]
    · have := val_cmp (b := a) hb.2 hl.symm gt
      omega
theorem perm_erase : ∀ {l : List Int} {i : Nat} (h : i < l.length), (l[i] :: l.eraseIdx i).Perm l
  | x :: l, 0, _ => .refl _
  | x :: l, i + 1, h => by
    have z := perm_erase (l := l) (i := i) (by simpa using h)
    exact (List.Perm.swap x _ _).trans (z.cons x)
theorem idx_lt {l : List Int} {x : Int} (h : x ∈ l) : l.idxOf x < l.length := List.idxOf_lt_length_iff.mpr h
theorem idx_at {l : List Int} {x : Int} (h : x ∈ l) : l[l.idxOf x]? = some x := by
  rw [List.getElem?_eq_getElem (idx_lt h), List.getElem_idxOf]
theorem idx_getD {l : List Int} {x : Int} (h : x ∈ l) : l.getD (l.idxOf x) 0 = x := by
  rw [List.getD_eq_getElem?_getD, idx_at h]; rfl
theorem idx_perm {l : List Int} {x : Int} (h : x ∈ l) : (x :: l.eraseIdx (l.idxOf x)).Perm l := by
  have z := perm_erase (idx_lt h)
  rw [List.getElem_idxOf] at z
  exact z
theorem step_perm {l o : List Int} {x : Int} (h : (x :: o).Perm l) : o.Perm (l.eraseIdx (l.idxOf x)) :=
  (h.trans (idx_perm (h.mem_iff.mp List.mem_cons_self)).symm).cons_inv
theorem idx_first {l : List Int} {x : Int} : ∀ m : Nat, m < l.idxOf x → l[m]? ≠ some x := by
  intro m hm e
  obtain ⟨h1, h2⟩ := List.getElem?_eq_some_iff.mp e
  have := List.not_of_lt_findIdx (p := (· == x)) (xs := l) hm
  rw [h2] at this
  simp at this
theorem rank_len : ∀ (o l : List Int), (rank l o).length = o.length
  | [], _ => rfl
  | x :: o, l => by
    show (rank _ o).length + 1 = o.length + 1
    rw [rank_len o]
theorem rank_ok : ∀ (o l : List Int), o.Perm l → Ok (rank l o)
  | [], _, _ => trivial
  | x :: o, l, h => by
    refine ⟨?_, rank_ok o _ (step_perm h)⟩
    rw [rank_len]
    have a := idx_lt (h.mem_iff.mp List.mem_cons_self)
    have b := h.length_eq
    rw [List.length_cons] at b
    omega
theorem pick_rank : ∀ (o l : List Int), o.Perm l → pick l (rank l o) = o
  | [], _, _ => rfl
  | x :: o, l, h => by
    show l.getD (l.idxOf x) 0 :: pick (l.eraseIdx (l.idxOf x)) (rank (l.eraseIdx (l.idxOf x)) o) = x :: o
    rw [idx_getD (h.mem_iff.mp List.mem_cons_self), pick_rank o _ (step_perm h)]
theorem pick_len : ∀ (rs : List Nat) (l : List Int), (pick l rs).length = rs.length
  | [], _ => rfl
  | r :: rs, l => by
    show (pick _ rs).length + 1 = rs.length + 1
    rw [pick_len rs]
theorem erase_len {l : List Int} {r : Nat} {n : Nat} (h : r < l.length) (hn : l.length = n + 1) : (l.eraseIdx r).length = n := by
  rw [List.length_eraseIdx_of_lt h]; omega
theorem pick_perm : ∀ (rs : List Nat) (l : List Int), Ok rs → rs.length = l.length → (pick l rs).Perm l
  | [], l, _, h => by
    have : l = [] := List.eq_nil_of_length_eq_zero h.symm
    subst this
    exact .refl _
  | r :: rs, l, ok, h => by
    rw [List.length_cons] at h
    have hr : r < l.length := by have := ok.1; omega
    have ih := pick_perm rs (l.eraseIdx r) ok.2 (erase_len hr h.symm).symm
    have e : l.getD r 0 = l[r] := by
      rw [List.getD_eq_getElem?_getD, List.getElem?_eq_getElem hr]; rfl
    show (l.getD r 0 :: pick (l.eraseIdx r) rs).Perm l
    rw [e]
    exact (ih.cons _).trans (perm_erase hr)
theorem nd_erase {l : List Int} (h : l.Nodup) (r : Nat) : (l.eraseIdx r).Nodup := h.sublist (List.eraseIdx_sublist l r)
theorem rank_pick : ∀ (rs : List Nat) (l : List Int), l.Nodup → Ok rs → rs.length = l.length → rank l (pick l rs) = rs := by
  intro rs l nd ok h
  refine val_inj (rank_ok _ _ (pick_perm rs l ok h)) ok (by rw [rank_len, pick_len]) ?_
  induction rs generalizing l with
  | nil => rfl
  | cons r rs ih =>
    rw [List.length_cons] at h
    have hr : r < l.length := by have := ok.1; omega
    have e : l.getD r 0 = l[r] := by
      rw [List.getD_eq_getElem?_getD, List.getElem?_eq_getElem hr]; rfl
    have ei : l.idxOf l[r] = r := nd.idxOf_getElem r hr
    show l.idxOf (l.getD r 0) * fac (rank (l.eraseIdx (l.idxOf (l.getD r 0))) (pick (l.eraseIdx r) rs)).length + val (rank (l.eraseIdx (l.idxOf (l.getD r 0))) (pick (l.eraseIdx r) rs)) = r * fac rs.length + val rs
    rw [e, ei, rank_len, pick_len, ih _ (nd_erase nd r) ok.2 (erase_len hr h.symm).symm]
theorem pick_lt : ∀ (a b : List Nat) (l : List Int), l.Pairwise (· < ·) → Ok a → Ok b → a.length = l.length → b.length = l.length → val a < val b → pick l a < pick l b
  | [], [], _, _, _, _, _, _, h => absurd h (Nat.lt_irrefl _)
  | [], _ :: _, _, _, _, _, h1, h2, _ => by simp at h1 h2; omega
  | _ :: _, [], _, _, _, _, h1, h2, _ => by simp at h1 h2; omega
  | r :: a, s :: b, l, pw, ha, hb, h1, h2, h => by
    rw [List.length_cons] at h1 h2
    have hr : r < l.length := by have := ha.1; omega
    have hs : s < l.length := by have := hb.1; omega
    have er : l.getD r 0 = l[r] := by
      rw [List.getD_eq_getElem?_getD, List.getElem?_eq_getElem hr]; rfl
    have es : l.getD s 0 = l[s] := by
      rw [List.getD_eq_getElem?_getD, List.getElem?_eq_getElem hs]; rfl
    show l.getD r 0 :: pick (l.eraseIdx r) a < l.getD s 0 :: pick (l.eraseIdx s) b
    rw [er, es]
    rcases Nat.lt_trichotomy r s with lt | eq | gt
    · exact List.Lex.rel (List.pairwise_iff_getElem.mp pw r s hr hs lt)
    · subst eq
      refine List.cons_lt_cons_self.mpr ?_
      have hl : a.length = b.length := by omega
      have e2 : r * fac a.length + val a < r * fac b.length + val b := h
      rw [hl] at e2
      exact pick_lt a b _ (pw.sublist (List.eraseIdx_sublist l r)) ha.2 hb.2 (erase_len hr h1.symm).symm (erase_len hr h2.symm).symm (by omega)
    · have := val_cmp (b := a) hb.2 (by omega) gt
      omega

theorem rangeI_lt (n : Nat) : (rangeI n).Pairwise (· < ·) := by
  unfold rangeI
  exact List.Pairwise.map _ (fun a b (h : a < b) => (by omega : (a : Int) < (b : Int))) List.pairwise_lt_range
theorem rangeI_nd (n : Nat) : (rangeI n).Nodup := (rangeI_lt n).imp fun h => by omega
def num (o : List Int) : Nat := val (rank (rangeI o.length) o)
def ordN (n N : Nat) : List Int := pick (rangeI n) (dig n N)
theorem ordN_len (n N : Nat) : (ordN n N).length = n := by
  unfold ordN
  rw [pick_len, dig_len]
theorem ordN_perm (n N : Nat) : (ordN n N).Perm (rangeI n) := pick_perm _ _ (dig_ok n N) (by rw [dig_len, rangeI_len])
theorem num_lt {o : List Int} {n : Nat} (h : o.Perm (rangeI n)) : num o < fac n := by
  have hl : o.length = n := by rw [h.length_eq, rangeI_len]
  have z := val_lt _ (rank_ok o (rangeI n) h)
  rw [rank_len, hl] at z
  unfold num
  rw [hl]
  exact z
theorem ordN_num {o : List Int} {n : Nat} (h : o.Perm (rangeI n)) : ordN n (num o) = o := by
  have hl : o.length = n := by rw [h.length_eq, rangeI_len]
  have ok := rank_ok o (rangeI n) h
  have e : dig n (num o) = rank (rangeI n) o := by
    refine val_inj (dig_ok _ _) ok (by rw [dig_len, rank_len, hl]) ?_
    rw [val_dig, Nat.mod_eq_of_lt (num_lt h)]
    unfold num
    rw [hl]
  unfold ordN
  rw [e, pick_rank o _ h]
theorem num_ordN {n N : Nat} (h : N < fac n) : num (ordN n N) = N := by
  unfold num
  rw [ordN_len]
  unfold ordN
  rw [rank_pick _ _ (rangeI_nd n) (dig_ok n N) (by rw [dig_len, rangeI_len]), val_dig, Nat.mod_eq_of_lt h]
theorem ordN_lt {n M N : Nat} (h : N < fac n) (l : M < N) : ordN n M < ordN n N := by
  unfold ordN
  refine pick_lt _ _ _ (rangeI_lt n) (dig_ok _ _) (dig_ok _ _) (by rw [dig_len, rangeI_len]) (by rw [dig_len, rangeI_len]) ?_
  rw [val_dig, val_dig, Nat.mod_eq_of_lt h, Nat.mod_eq_of_lt (Nat.lt_trans l h)]
  exact l
/-- downwards -/
def desc : Nat → List Int
  | 0 => []
  | n + 1 => (n : Int) :: desc n
theorem desc_len : ∀ n, (desc n).length = n
  | 0 => rfl
  | n + 1 => by
    show (desc n).length + 1 = n + 1
    rw [desc_len n]
theorem desc_perm : ∀ n, (desc n).Perm (rangeI n)
  | 0 => .refl _
  | n + 1 => by
    rw [rangeI_succ]
    exact ((desc_perm n).cons _).trans (List.perm_append_comm (l₁ := [(n : Int)]))
theorem val_desc : ∀ n, val (rank (rangeI n) (desc n)) + 1 = fac n
  | 0 => rfl
  | n + 1 => by
    have hi : (rangeI (n + 1)).idxOf (n : Int) = n := by
      have z := (rangeI_nd (n + 1)).idxOf_getElem n (by rw [rangeI_len]; omega)
      have e : (rangeI (n + 1))[n]'(by rw [rangeI_len]; omega) = (n : Int) := by
        unfold rangeI
        rw [List.getElem_map, List.getElem_range]
      rw [e] at z
      exact z
    have he : (rangeI (n + 1)).eraseIdx n = rangeI n := by
      rw [rangeI_succ, List.eraseIdx_append_of_length_le (by rw [rangeI_len]; omega), rangeI_len, Nat.sub_self]
      show rangeI n ++ [] = rangeI n
      rw [List.append_nil]
    have ih := val_desc n
    show (rangeI (n + 1)).idxOf (n : Int) * fac (rank ((rangeI (n + 1)).eraseIdx ((rangeI (n + 1)).idxOf (n : Int))) (desc n)).length + val (rank ((rangeI (n + 1)).eraseIdx ((rangeI (n + 1)).idxOf (n : Int))) (desc n)) + 1 = fac n * (n + 1)
    rw [hi, he, rank_len, desc_len, Nat.mul_add, Nat.mul_one, Nat.mul_comm n]
    omega
theorem num_desc (n : Nat) : num (desc n) = fac n - 1 := by
  have z := val_desc n
  unfold num
  rw [desc_len]
  omega
/-! all of them -/
def up (x y : Int) : Int := y + (if y ≥ x then 1 else 0)
def fnd : Nat → List (List Int)
  | 0 => [[]]
  | k + 1 => (fnd k).flatMap fun o => (rangeI (k + 1)).map fun x => x :: o.map (up x)
def allO (n : Nat) : List (List Int) := (List.range (fac n)).map (ordN n)
theorem allO_len (n : Nat) : (allO n).length = fac n := by
  unfold allO
  rw [List.length_map, List.length_range]
theorem allO_get {n i : Nat} (h : i < fac n) : (allO n)[i]? = some (ordN n i) := by
  unfold allO
  rw [List.getElem?_map, List.getElem?_range h]
  rfl
theorem allO_pw (n : Nat) : (allO n).Pairwise (· < ·) := by
  unfold allO
  refine List.pairwise_map.mpr ?_
  refine List.Pairwise.imp_of_mem ?_ List.pairwise_lt_range
  intro a b ha hb h
  exact ordN_lt (List.mem_range.mp hb) h
theorem fnd_perm : ∀ n, n < 6 → (fnd n).Perm (allO n) := by
  have z : ∀ k : Fin 6, (fnd k).isPerm (allO k) = true := by decide +kernel
  intro n hn
  exact List.isPerm_iff.mp (z ⟨n, hn⟩)
theorem sort_fnd {n : Nat} (h : n < 6) : (fnd n).mergeSort (fun p q => decide (p ≤ q)) = allO n := by
  have tr : ∀ a b c : List Int, decide (a ≤ b) = true → decide (b ≤ c) = true → decide (a ≤ c) = true := fun a b c h1 h2 =>
    decide_eq_true (List.le_trans (of_decide_eq_true h1) (of_decide_eq_true h2))
  have to : ∀ a b : List Int, (decide (a ≤ b) || decide (b ≤ a)) = true := fun a b => by
    rcases List.le_total a b with h | h
    · rw [decide_eq_true h]; rfl
    · rw [decide_eq_true h, Bool.or_true]
  have s1 := List.pairwise_mergeSort tr to (fnd n)
  have p1 := (List.mergeSort_perm (fnd n) (fun p q => decide (p ≤ q))).trans (fnd_perm n h)
  refine p1.eq_of_pairwise (le := fun p q => decide (p ≤ q) = true) (fun a b _ _ h1 h2 => List.le_antisymm (of_decide_eq_true h1) (of_decide_eq_true h2)) s1 ?_
  exact (allO_pw n).imp fun h => decide_eq_true (List.le_of_lt h)
theorem fac_200 : fac 200 < 2 ^ 1300 := by decide +kernel
theorem fac_mono : ∀ {m n : Nat}, m ≤ n → fac m ≤ fac n
  | m, 0, h => by
    have : m = 0 := by omega
    subst this
    exact Nat.le_refl _
  | m, n + 1, h => by
    rcases Nat.lt_or_ge n m with lt | ge
    · have : m = n + 1 := by omega
      subst this
      exact Nat.le_refl _
    · refine Nat.le_trans (fac_mono ge) ?_
      show fac n ≤ fac n * (n + 1)
      exact Nat.le_mul_of_pos_right _ (Nat.succ_pos n)
theorem fac_eq : ∀ n, PySem.Builtin.Math.factorialNat n = fac n
  | 0 => rfl
  | n + 1 => by
    rw [PySem.W.mc_fac_succ, fac_eq n]
    rfl
end RK


set_option Elab.async false
set_option linter.all false
set_option maxRecDepth 100000
set_option maxHeartbeats 4000000
namespace GS
open PySem PySem.Spec PyProof.Rows L2 Evl

/-! ### an own class with defs for ==, in -/
section
variable {X : Cx} {CX : CXT} {k : Nat} {C f : Addr} {fd : FuncData} {ps : List Str} {sp : Sp} {E : XK}
theorem ins_at {pins : List (Addr × Obj)} {σ : L2.St} {H : Hp} {s : Shared} {a dx : Addr} {fs : List (Str × V)} (I : Inv X pins σ H s) (h : H a = some (.ins C dx fs)) :
    ∃ od, PySem.W.InstAt s.heap a (PySem.W.instObj C dx) C (some od) := by
  obtain ⟨mA, O, _⟩ := ins_get I.hok h
  exact O.look.imp fun od z => z.1
/-- x in o, x not in o -/
def rInOwn (C : Addr) (sp : Sp) (E : XK) : R2 := fun x y H Q => ∃ a dx fs, y = .ref a ∧ H a = some (.ins C dx fs) ∧ sp [y, x] H (fun z H2 => ∃ b, z = .bl b ∧ Q (.bl b) H2) E
def rNotInOwn (C : Addr) (sp : Sp) (E : XK) : R2 := fun x y H Q => ∃ a dx fs, y = .ref a ∧ H a = some (.ins C dx fs) ∧ sp [y, x] H (fun z H2 => ∃ b, z = .bl b ∧ Q (.bl (!b)) H2) E
theorem op_inOwn (hs : PySem.W.findIn X.K (.ref C) "__contains__" = some (some (.ref f))) (hf : PySem.W.isFn X.K (.ref f) = true) (F : FnOk X.prog X.w X.K X.mg X.base CX k f fd ps sp) (hr : Room k X.A) (hb : Binds X.K fd ps []) (hx : Passes CX X E) :
    OpR X (compareOp .In) (rInOwn C sp E) := by
  intro pins s σ H x y v u Q I rx ry h
  obtain ⟨a, dx, fs, rfl, ha, q⟩ := h
  cases (show u = Value.ref a from ry)
  obtain ⟨od, J⟩ := ins_at I ha
  obtain ⟨m, hF⟩ := I.fr
  refine PySem.W.in_K hF I.ok.mod.kin J hs hf (wpAny_mono (run_fn (us := [.ref a, v]) (vs := [.ref a, x]) F hr hb .nil hx I (.cons rfl (.cons rx .nil)) (by rw [List.append_nil]; exact q)) (fun r s2 z => ?_) fun _ _ z => z)
  obtain ⟨z0, H2, I2, rz, b, rfl, qz⟩ := z
  cases (show r = Value.bool b from rz)
  exact wpAny_truthy_bool ⟨.bl b, H2, I2, rfl, qz⟩
theorem op_notInOwn (hs : PySem.W.findIn X.K (.ref C) "__contains__" = some (some (.ref f))) (hf : PySem.W.isFn X.K (.ref f) = true) (F : FnOk X.prog X.w X.K X.mg X.base CX k f fd ps sp) (hr : Room k X.A) (hb : Binds X.K fd ps []) (hx : Passes CX X E) :
    OpR X (compareOp .NotIn) (rNotInOwn C sp E) := by
  intro pins s σ H x y v u Q I rx ry h
  obtain ⟨a, dx, fs, rfl, ha, q⟩ := h
  cases (show u = Value.ref a from ry)
  obtain ⟨od, J⟩ := ins_at I ha
  obtain ⟨m, hF⟩ := I.fr
  refine PySem.W.notIn_K hF I.ok.mod.kin J hs hf (wpAny_mono (run_fn (us := [.ref a, v]) (vs := [.ref a, x]) F hr hb .nil hx I (.cons rfl (.cons rx .nil)) (by rw [List.append_nil]; exact q)) (fun r s2 z => ?_) fun _ _ z => z)
  obtain ⟨z0, H2, I2, rz, b, rfl, qz⟩ := z
  cases (show r = Value.bool b from rz)
  exact wpAny_truthy_bool ⟨.bl (!b), H2, I2, rfl, qz⟩
/-- o == y -/
def rEqOwn (K : PySem.W.Frag) (C : Addr) (sp : Sp) (E : XK) : R2 := fun x y H Q => ∃ a dx fs tb, x = .ref a ∧ H a = some (.ins C dx fs) ∧ TyX K H y tb ∧ PySem.W.notFirst K C tb = true ∧ sp [x, y] H Q E
theorem op_eqOwn (hs : PySem.W.findIn X.K (.ref C) "__eq__" = some (some (.ref f))) (hf : PySem.W.isFn X.K (.ref f) = true) (F : FnOk X.prog X.w X.K X.mg X.base CX k f fd ps sp) (hr : Room k X.A) (hb : Binds X.K fd ps []) (hx : Passes CX X E) :
    OpR X (compareOp .Eq) (rEqOwn X.K C sp E) := by
  intro pins s σ H x y v u Q I rx ry h
  obtain ⟨a, dx, fs, tb, rfl, ha, ty, hn, q⟩ := h
  cases (show v = Value.ref a from rx)
  obtain ⟨od, J⟩ := ins_at I ha
  obtain ⟨m, hF⟩ := I.fr
  obtain ⟨Pu, kx, pu, _⟩ := L2.kit_of I ry ty
  refine PySem.W.cmp_K (op := .Eq) (tb := tb) hr.units0 hF I.ok.mod.kin J (kx.ty _ _ I.kIn pu) hn hs hf ?_
  refine wpAny_mono (run_fn (us := [.ref a, u]) (vs := [.ref a, y]) F hr hb .nil hx I (.cons rfl (.cons ry .nil)) (by rw [List.append_nil]; exact q)) (fun r s2 z => ?_) fun _ _ x => x
  obtain ⟨z0, H2, I2, rz, qz⟩ := z
  exact SlX.cmpback rz ⟨z0, H2, I2, rz, qz⟩
end
theorem v_none1 : Vals [V.non] [Value.none] := .cons rfl .nil
section
variable {X : Cx} {K : PySem.W.Frag} {CX : CXT} {k : Nat} {C f : Addr} {fd : FuncData} {ps : List Str} {sp : Sp} {E : XK}
theorem k_fld {e : Expr} {g : Str} {pos : Pos} {ta : TE} (h : X.K = K) (he : PE X e ta) (hb : attributeBase e g X.env (eval e X.env) = eval e X.env) : PE X (.Attribute e g pos) (tFld K ta g) := h ▸ pe_fld he hb
theorem k_inOwn (h : X.K = K) (hs : PySem.W.findIn K (.ref C) "__contains__" = some (some (.ref f))) (hf : PySem.W.isFn K (.ref f) = true) (F : FnOk X.prog X.w K X.mg X.base CX k f fd ps sp) (hr : Room k X.A) (hb : Binds K fd ps []) (hx : Passes CX X E) :
    OpR X (compareOp .In) (rInOwn C sp E) := by
  subst h
  exact op_inOwn hs hf F hr hb hx
theorem k_notInOwn (h : X.K = K) (hs : PySem.W.findIn K (.ref C) "__contains__" = some (some (.ref f))) (hf : PySem.W.isFn K (.ref f) = true) (F : FnOk X.prog X.w K X.mg X.base CX k f fd ps sp) (hr : Room k X.A) (hb : Binds K fd ps []) (hx : Passes CX X E) :
    OpR X (compareOp .NotIn) (rNotInOwn C sp E) := by
  subst h
  exact op_notInOwn hs hf F hr hb hx
theorem k_eqOwn (h : X.K = K) (hs : PySem.W.findIn K (.ref C) "__eq__" = some (some (.ref f))) (hf : PySem.W.isFn K (.ref f) = true) (F : FnOk X.prog X.w K X.mg X.base CX k f fd ps sp) (hr : Room k X.A) (hb : Binds K fd ps []) (hx : Passes CX X E) :
    OpR X (compareOp .Eq) (rEqOwn K C sp E) := by
  subst h
  exact op_eqOwn hs hf F hr hb hx
end
section
variable {K : PySem.W.Frag} {σ : L2.St} {H : Hp} {ta tb te : TE} {C : Addr} {sp : Sp} {E : XK} {x : V} {b : Bool}
theorem ev_eqOwn {a dx : Addr} {fs : List (Str × V)} {tv : Value} (ha : Ev ta σ H (.ref a)) (hb : Ev tb σ H x) (h : H a = some (.ins C dx fs)) (ty : ∀ H1, Ex H H1 → TyX K H1 x tv) (hn : PySem.W.notFirst K C tv = true)
    (hs : ∀ H1, Ex H H1 → ∀ Q : VK, (∀ H2, Ex H1 H2 → Q (.bl b) H2) → sp [.ref a, x] H1 Q E) : Ev (tOp (rEqOwn K C sp E) ta tb) σ H (.bl b) := fun H1 e Q q =>
  ha H1 e _ fun H2 e2 => hb H2 (e.trans e2) _ fun H3 e3 => ⟨a, dx, fs, tv, rfl, ((e.trans e2).trans e3) _ _ h, ty H3 ((e.trans e2).trans e3), hn, hs H3 ((e.trans e2).trans e3) _ fun H4 e4 => q H4 ((e2.trans e3).trans e4)⟩
theorem ev_fld {a dx : Addr} {fs : List (Str × V)} {g : Str} (ha : Ev ta σ H (.ref a)) (h : H a = some (.ins C dx fs)) (c : Cls K C) (n : NoAttr K C g) (l : fs.lookup g = some x) : Ev (tFld K ta g) σ H x := fun H1 e Q q =>
  ha H1 e _ fun H2 e2 => ⟨a, C, dx, fs, x, rfl, (e.trans e2) _ _ h, c, n, l, q H2 e2⟩
theorem notFirst_same : PySem.W.notFirst K C (.ref C) = true := by simp [PySem.W.notFirst]
theorem notFirst_of {T : String} (h : PySem.W.subIn K (.type T) (.ref C) = some false) : PySem.W.notFirst K C (.type T) = true := by
  unfold PySem.W.notFirst
  rw [h]
  simp
theorem ev_inOwn {a dx : Addr} {fs : List (Str × V)} (ha : Ev ta σ H x) (hb : Ev tb σ H (.ref a)) (h : H a = some (.ins C dx fs)) (hs : ∀ H1, Ex H H1 → ∀ Q : VK, (∀ H2, Ex H1 H2 → Q (.bl b) H2) → sp [.ref a, x] H1 Q E) :
    Ev (tOp (rInOwn C sp E) ta tb) σ H (.bl b) := fun H1 e Q q =>
  ha H1 e _ fun H2 e2 => hb H2 (e.trans e2) _ fun H3 e3 => ⟨a, dx, fs, rfl, ((e.trans e2).trans e3) _ _ h, hs H3 ((e.trans e2).trans e3) _ fun H4 e4 => ⟨b, rfl, q H4 ((e2.trans e3).trans e4)⟩⟩
theorem ev_notInOwn {a dx : Addr} {fs : List (Str × V)} (ha : Ev ta σ H x) (hb : Ev tb σ H (.ref a)) (h : H a = some (.ins C dx fs)) (hs : ∀ H1, Ex H H1 → ∀ Q : VK, (∀ H2, Ex H1 H2 → Q (.bl b) H2) → sp [.ref a, x] H1 Q E) :
    Ev (tOp (rNotInOwn C sp E) ta tb) σ H (.bl (!b)) := fun H1 e Q q =>
  ha H1 e _ fun H2 e2 => hb H2 (e.trans e2) _ fun H3 e3 => ⟨a, dx, fs, rfl, ((e.trans e2).trans e3) _ _ h, hs H3 ((e.trans e2).trans e3) _ fun H4 e4 => ⟨b, rfl, q H4 ((e2.trans e3).trans e4)⟩⟩
end
end GS


set_option Elab.async false
set_option linter.all false
set_option maxRecDepth 100000
set_option maxHeartbeats 4000000
namespace GS
open PySem PySem.Spec PyProof.Rows L2 Evl
/-! ### a set of counts: some numbers, and all from one on -/
/-- each one once, as they come -/
def dd (ns : List Int) : List Int := ns.foldl (fun acc n => if n ∈ acc then acc else acc ++ [n]) []
theorem dd_snoc (ns : List Int) (n : Int) : dd (ns ++ [n]) = if n ∈ dd ns then dd ns else dd ns ++ [n] := by
  unfold dd
  rw [List.foldl_append]
  rfl
theorem snoc_induct {p : List Int → Prop} (h0 : p []) (hs : ∀ l x, p l → p (l ++ [x])) (l : List Int) : p l := by
  have key : ∀ n, p (l.take n) := by
    intro n
    induction n with
    | zero => exact h0
    | succ n ih =>
      rcases Nat.lt_or_ge n l.length with lt | ge
      · rw [take_snoc (List.getElem?_eq_getElem lt)]
        exact hs _ _ ih
      · rw [List.take_of_length_le (by omega)]
        rw [List.take_of_length_le ge] at ih
        exact ih
  have := key l.length
  rwa [List.take_length] at this
theorem dd_mem {ns : List Int} {x : Int} : x ∈ dd ns ↔ x ∈ ns := by
  induction ns using snoc_induct with
  | h0 => exact Iff.rfl
  | hs l n ih =>
    rw [dd_snoc]
    split
    · rename_i h
      rw [ih, List.mem_append, List.mem_singleton]
      constructor
      · exact .inl
      · rintro (q | rfl)
        · exact q
        · exact ih.mp h
    · rw [List.mem_append, List.mem_append, ih]
theorem dd_nd (ns : List Int) : (dd ns).Nodup := by
  induction ns using snoc_induct with
  | h0 => exact List.nodup_nil
  | hs l n ih =>
    rw [dd_snoc]
    split
    · exact ih
    · rename_i h
      refine List.nodup_append.mpr ⟨ih, List.pairwise_singleton _ _, ?_⟩
      intro a ha b hb e
      rw [List.mem_singleton.mp hb] at e
      exact h (e ▸ ha)
theorem dd_len (ns : List Int) : (dd ns).length ≤ ns.length := by
  induction ns using snoc_induct with
  | h0 => exact Nat.le_refl _
  | hs l n ih =>
    rw [dd_snoc, List.length_append, List.length_singleton]
    split
    · omega
    · rw [List.length_append, List.length_singleton]; omega
/-- down from s, as long as the numbers are there -/
def lowI (ns : List Int) : Nat → Int → Int
  | 0, s => s
  | k + 1, s => if s - 1 ∈ ns then lowI ns k (s - 1) else s
theorem lowI_le (ns : List Int) : ∀ k s, lowI ns k s ≤ s
  | 0, s => Int.le_refl _
  | k + 1, s => by
    unfold lowI
    split
    · have := lowI_le ns k (s - 1); omega
    · exact Int.le_refl _
theorem lowI_mem (ns : List Int) : ∀ k s x, lowI ns k s ≤ x → x < s → x ∈ ns
  | 0, s, x, h, h2 => by
    have h : s ≤ x := h
    omega
  | k + 1, s, x, h, h2 => by
    unfold lowI at h
    split at h
    · rename_i q
      by_cases e : x = s - 1
      · rw [e]; exact q
      · exact lowI_mem ns k (s - 1) x h (by omega)
    · omega
theorem lowI_stop {ns : List Int} (hn : ∀ x ∈ ns, 1 ≤ x) : ∀ (k : Nat) (s : Int), s ≤ k → lowI ns k s - 1 ∉ ns
  | 0, s, h => fun q => by
    have := hn _ q
    have e : lowI ns 0 s = s := rfl
    omega
  | k + 1, s, h => by
    unfold lowI
    split
    · exact lowI_stop hn k (s - 1) (by omega)
    · assumption
theorem lowI_pos {ns : List Int} (hn : ∀ x ∈ ns, 1 ≤ x) : ∀ (k : Nat) (s : Int), 1 ≤ s → 1 ≤ lowI ns k s
  | 0, s, h => h
  | k + 1, s, h => by
    unfold lowI
    split
    · rename_i q
      exact lowI_pos hn k (s - 1) (hn _ q)
    · exact h
theorem lowI_same {ns ms : List Int} (h : ∀ x, x ∈ ns ↔ x ∈ ms) : ∀ k s, lowI ns k s = lowI ms k s
  | 0, _ => rfl
  | k + 1, s => by
    unfold lowI
    rw [lowI_same h k (s - 1)]
    by_cases q : s - 1 ∈ ns
    · rw [if_pos q, if_pos ((h _).mp q)]
    · rw [if_neg q, if_neg (fun z => q ((h _).mpr z))]
/-- as it is kept: the numbers below, in order, and where it goes on for ever -/
def formS (ns : List Int) : Option Int → Option Int
  | none => none
  | some s => some (lowI ns s.toNat s)
def belowB : Option Int → Int → Bool
  | none, _ => true
  | some l, n => decide (n < l)
def formN (ns : List Int) (st : Option Int) : List Int := isort ((dd ns).filter (belowB (formS ns st)))
def memB (ns : List Int) (st : Option Int) (x : Int) : Bool := decide (x ∈ ns) || (match st with | none => false | some s => decide (s ≤ x))
theorem formN_mem {ns : List Int} {st : Option Int} {x : Int} : x ∈ formN ns st ↔ x ∈ ns ∧ belowB (formS ns st) x = true := by
  unfold formN
  rw [(isort_perm _).mem_iff, List.mem_filter, dd_mem]
theorem formN_nd (ns : List Int) (st : Option Int) : (formN ns st).Nodup := by
  unfold formN
  exact (isort_perm _).nodup_iff.mpr ((dd_nd ns).filter _)
theorem formN_pw (ns : List Int) (st : Option Int) : (formN ns st).Pairwise (· ≤ ·) := isort_pw _
theorem formN_len (ns : List Int) (st : Option Int) : (formN ns st).length ≤ ns.length := by
  unfold formN
  rw [isort_len]
  exact Nat.le_trans (List.length_filter_le _ _) (dd_len ns)
theorem nd_perm {a b : List Int} (ha : a.Nodup) (hb : b.Nodup) (h : ∀ x, x ∈ a ↔ x ∈ b) : a.Perm b := (List.perm_ext_iff_of_nodup ha hb).mpr h
theorem formS_same {ns ms : List Int} (h : ∀ x, x ∈ ns ↔ x ∈ ms) (st : Option Int) : formS ns st = formS ms st := by
  cases st with
  | none => rfl
  | some s => exact congrArg some (lowI_same h _ _)
theorem formN_same {ns ms : List Int} (h : ∀ x, x ∈ ns ↔ x ∈ ms) (st : Option Int) : formN ns st = formN ms st := by
  unfold formN
  apply isort_of_perm
  rw [formS_same h]
  refine nd_perm ((dd_nd ns).filter _) ((dd_nd ms).filter _) fun x => ?_
  rw [List.mem_filter, List.mem_filter, dd_mem, dd_mem, h]
/-- what is in it -/
theorem form_mem (ns : List Int) (st : Option Int) (x : Int) : memB (formN ns st) (formS ns st) x = memB ns st x := by
  unfold memB
  rw [Bool.eq_iff_iff]
  cases st with
  | none =>
    show (decide (x ∈ formN ns none) || false) = true ↔ _
    rw [Bool.or_false, Bool.or_false, decide_eq_true_eq, decide_eq_true_eq, formN_mem]
    exact ⟨fun h => h.1, fun h => ⟨h, rfl⟩⟩
  | some s =>
    show (decide (x ∈ formN ns (some s)) || decide (lowI ns s.toNat s ≤ x)) = true ↔ (decide (x ∈ ns) || decide (s ≤ x)) = true
    rw [Bool.or_eq_true, Bool.or_eq_true, decide_eq_true_eq, decide_eq_true_eq, decide_eq_true_eq, decide_eq_true_eq, formN_mem]
    show (x ∈ ns ∧ decide (x < lowI ns s.toNat s) = true) ∨ _ ↔ _
    rw [decide_eq_true_eq]
    have h1 := lowI_le ns s.toNat s
    have h2 := lowI_mem ns s.toNat s x
    constructor
    · rintro (h | h)
      · exact .inl h.1
      · rcases Int.lt_or_le x s with lt | ge
        · exact .inl (h2 h lt)
        · exact .inr ge
    · rintro (h | h)
      · rcases Int.lt_or_le x (lowI ns s.toNat s) with lt | ge
        · exact .inl ⟨h, lt⟩
        · exact .inr ge
      · exact .inr (by omega)
/-- the form of the form is the form -/
theorem form_idem {ns : List Int} (hn : ∀ x ∈ ns, 1 ≤ x) {st : Option Int} (hs : ∀ s, st = some s → 1 ≤ s) : formS (formN ns st) (formS ns st) = formS ns st ∧ formN (formN ns st) (formS ns st) = formN ns st := by
  have e : formS (formN ns st) (formS ns st) = formS ns st := by
    cases st with
    | none => rfl
    | some s =>
      have h1 := lowI_stop hn s.toNat s (by have := hs s rfl; omega)
      have hp := lowI_pos hn s.toNat s (hs s rfl)
      show some (lowI (formN ns (some s)) (lowI ns s.toNat s).toNat (lowI ns s.toNat s)) = some (lowI ns s.toNat s)
      congr 1
      generalize hl : lowI ns s.toNat s = l at h1 hp
      obtain ⟨k, hk⟩ : ∃ k, l.toNat = k + 1 := ⟨l.toNat - 1, by omega⟩
      rw [hk]
      unfold lowI
      rw [if_neg]
      intro q
      exact h1 (formN_mem.mp q).1
  refine ⟨e, ?_⟩
  have p : (formN (formN ns st) (formS ns st)).Perm (formN ns st) := by
    refine nd_perm (formN_nd _ _) (formN_nd _ _) fun x => ?_
    rw [formN_mem, e]
    exact ⟨fun h => h.1, fun h => ⟨h, (formN_mem.mp h).2⟩⟩
  exact PySem.W.ksm_same p (formN_pw _ _) (formN_pw _ _)
end GS


set_option Elab.async false
set_option linter.all false
set_option maxRecDepth 100000
set_option maxHeartbeats 4000000
namespace GS
open PySem PySem.Spec PyProof.Rows L2 Evl
/-! ### an object that changes, the others as they are -/
def hid (H : Hp) (m : Addr) : Hp := fun a => if a = m then none else H a
theorem hid_ne {H : Hp} {m a : Addr} (h : a ≠ m) : hid H m a = H a := if_neg h
theorem hid_same {H : Hp} {m : Addr} : hid H m m = none := if_pos rfl
theorem hid_ex {H : Hp} {m : Addr} : Ex (hid H m) H := fun a o h => by
  by_cases e : a = m
  · subst e
    rw [hid_same] at h
    cases h
  · rwa [hid_ne e] at h
theorem hid_mono {H H2 : Hp} {m : Addr} (e : Ex H H2) : Ex (hid H m) (hid H2 m) := fun a o h => by
  by_cases q : a = m
  · subst q
    rw [hid_same] at h
    cases h
  · rw [hid_ne q] at h ⊢
    exact e a o h
theorem hid_new {H H2 : Hp} {m : Addr} (n : H m = none) (e : Ex H H2) : Ex H (hid H2 m) := fun a o h => by
  have q : a ≠ m := ne_of_none h n
  rw [hid_ne q]
  exact e a o h
theorem fun_vX {P : Program} {w : World} {K : PySem.W.Frag} {mg : Str → Option Value} {base : Heap} {x qual : Str} {st : Stmt} {f : Addr} {fd : FuncData} {N ps : List Str} {k : Nat} {sp : Sp}
    (F : FunV K x qual st f fd) (S : FnScope N ps (defScope st)) (len : ∀ vs H Q E, sp vs H Q E → vs.length = ps.length)
    (hb : ∀ (cdv : Value) (A : Around) (outer : List Env) (s : Shared) (H : Hp) (vs : List V) (Q : VK) (E : XK),
      Room k (A.deeper (envOfC qual (defScope st) s.heap.objs.size f cdv)) → sp vs H Q E →
      ∃ t, PSs (cxOf (L2.CX P w) P w K mg base N qual (defScope st) f cdv A outer s H E) (defBody st) t ∧
        t { nx := fun _ H' => Q .non H', rt := Q } (start N vs) H) : FnOk P w K mg base (L2.CX P w) (k + 1) f fd ps sp := by
  obtain ⟨oc, od, dV, kV, doc, pm, an, cdv, ct, osl, rfl, lk, hcd⟩ := F.ex
  exact fn_of lk hcd S len fun A outer s H vs Q E hr hsp => hb cdv A outer s H vs Q E hr hsp
theorem dd_id {ns : List Int} (h : ns.Nodup) : dd ns = ns := by
  induction ns using snoc_induct with
  | h0 => rfl
  | hs l n ih =>
    obtain ⟨h1, h2, h3⟩ := List.nodup_append.mp h
    rw [dd_snoc, ih h1, if_neg]
    intro q
    exact h3 n q n (List.mem_singleton.mpr rfl) rfl
/-! ### dicts whose values are all True -/
def trueK (ks : List Int) : List (Key × V) := ks.map fun n => (.inl n, .bl true)
theorem trueK_any (ks : List Int) (n : Int) : ((trueK ks).any fun kv => decide (kv.1 = (.inl n : Key))) = decide (n ∈ ks) := by
  unfold trueK
  rw [List.any_map, Bool.eq_iff_iff, List.any_eq_true, decide_eq_true_eq]
  constructor
  · rintro ⟨x, hx, e⟩
    have e2 : (.inl x : Key) = .inl n := of_decide_eq_true e
    rw [← Sum.inl.inj e2]
    exact hx
  · intro h
    exact ⟨n, h, decide_eq_true rfl⟩
theorem trueK_put (ks : List Int) (n : Int) : putK (trueK ks) (.inl n) (.bl true) = trueK (if n ∈ ks then ks else ks ++ [n]) := by
  unfold putK
  rw [trueK_any]
  by_cases h : n ∈ ks
  · rw [if_pos (decide_eq_true h), if_pos h]
    unfold trueK
    rw [List.map_map]
    apply List.map_congr_left
    intro x _
    show (if (.inl x : Key) = .inl n then ((.inl x : Key), V.bl true) else (.inl x, .bl true)) = _
    split <;> rfl
  · rw [if_neg (by rw [decide_eq_true_eq]; exact h), if_neg h]
    unfold trueK
    rw [List.map_append]
    rfl
theorem trueK_get (ks : List Int) (n : Int) : (valV (trueK ks) (.inl n)).isSome = decide (n ∈ ks) := by
  unfold valV
  have z := trueK_any ks n
  rw [Bool.eq_iff_iff, List.any_eq_true, decide_eq_true_eq] at z
  rw [Option.isSome_map, Bool.eq_iff_iff, List.find?_isSome, decide_eq_true_eq]
  exact z
section
variable {K : PySem.W.Frag} {σ : L2.St} {H : Hp} {ta tb te : TE} {D : Ends} {tz tu : TS}
/-- {n: True for n in ns} -/
theorem ek_true {ns : List Int} {a : Addr} {j : Nat} {vs : List Nat} (h : Ev te σ H (.ref a)) (hx : SqL K H a (ns.map V.int)) (hl : ns.length ≤ 40000) (hj : j < σ.length) (hw : ∀ x, wipe ((wipe σ vs).set j (some x)) vs = wipe σ vs) :
    EvK (tDc (iList K te) (gName j) tYes (tVar j) (tC (.bl true)) vs) σ H (trueK (dd ns)) := fun H0 e Q q =>
  h H0 e _ fun H1 e1 => by
    refine ⟨a, rfl, ⟨_, ex_l (e.trans e1) hx⟩, fun Dd hD => ?_⟩
    refine ⟨fun n m H2 => m = ns.length - n ∧ n ≤ ns.length ∧ Ex H1 H2 ∧ H2 Dd = some (.dK (trueK (dd (ns.take n)))), ⟨ns.length, by simp, Nat.zero_le _, Ex.new hD, upd_same⟩, ?_⟩
    rintro n m H2 ⟨rfl, hn, e2, hK⟩
    have sq : SqL K H2 a (ns.map V.int) := ex_l ((e.trans e1).trans e2) hx
    rcases Nat.lt_or_ge n ns.length with lt | ge
    · have g : (ns.map V.int)[n]? = some (.int ns[n]) := by rw [List.getElem?_map, List.getElem?_eq_getElem lt]; rfl
      refine .inr ⟨⟨_, _, sq, g⟩, fun H3 => Ex H1 H3 ∧ H3 Dd = some (.dK (trueK (dd (ns.take (n + 1))))), fun H3 p3 => ⟨ns.length - (n + 1), by omega, rfl, lt, p3⟩, ?_⟩
      rintro x H3 ⟨rfl, hy⟩
      have ex := hy _ sq
      rw [g] at ex
      have ex2 := Option.some.inj ex
      subst ex2
      refine ⟨hw _, ?_⟩
      unfold tYes
      refine iteT ?_
      have look : ((wipe σ vs).set j (some (V.int ns[n])))[j]? = some (some (V.int ns[n])) := by
        rw [List.getElem?_set_self (by rw [wipe_length]; exact hj)]
      refine ⟨.int ns[n], look, trueK (dd (ns.take n)), .inl ns[n], rfl, hK, ?_, e2.mut hD, ?_⟩
      · unfold trueK
        rw [List.length_map]
        have := dd_len (ns.take n)
        rw [List.length_take] at this
        exact sz_lt (by omega)
      · rw [upd_same, trueK_put, take_snoc (List.getElem?_eq_getElem lt), dd_snoc]
    · have en : n = ns.length := by omega
      subst en
      rw [List.take_length] at hK
      exact .inl ⟨⟨_, sq, by rw [List.length_map]; exact Nat.le_refl _⟩, q Dd H2 (free_of e1 hD) (e1.trans e2) hK⟩
/-- n in d -/
theorem ev_dinT {ks : List Int} {d : Addr} {n : Int} (ha : Ev ta σ H (.int n)) (hb : Ev tb σ H (.ref d)) (h : H d = some (.dK (trueK ks))) : Ev (tDIn ta tb) σ H (.bl (decide (n ∈ ks))) := fun H1 e Q q =>
  ha H1 e _ fun H2 e2 => hb H2 (e.trans e2) _ fun H3 e3 => ⟨d, _, rfl, DGet.k (k := .inl n) (((e.trans e2).trans e3) _ _ h), by
    rw [trueK_get]
    exact q H3 (e2.trans e3)⟩
/-- [n for n in d if ..] -/
theorem el_keys {ks : List Int} {d : Addr} {i j : Nat} {tt : TT} {vs : List Nat} (p : Int → Bool) (hi : σ[i]? = some (some (.ref d))) (h : H d = some (.dK (trueK ks))) (hl : ks.length ≤ 40000) (hj : j < σ.length)
    (hw : ∀ x, wipe ((wipe σ vs).set j (some x)) vs = wipe σ vs) (ht : ∀ (n : Int) H1, n ∈ ks → EvT tt ((wipe σ vs).set j (some (.int n))) H1 (p n)) :
    EvL (tLockE (tLc (iKeys (tVar i)) (gName j) tt (tVar j) vs)) σ H ((ks.filter p).map V.int) := fun H1 e Q q => by
  have hd := e _ _ h
  refine ⟨d, _, hd, trivial, fun od => ?_⟩
  have fz : (upd H1 d (.frz od (.dK (trueK ks)))) d = some (.frz od (.dK (trueK ks))) := upd_same
  refine ⟨.ref d, hi, d, od, rfl, .inl ⟨_, fz, fun Dl hD => ?_⟩⟩
  have nd : Dl ≠ d := by
    rintro rfl
    rw [upd_same] at hD
    cases hD
  have nD : H1 Dl = none := by rwa [upd_ne nd] at hD
  refine ⟨fun n m H2 => m = ks.length - n ∧ n ≤ ks.length ∧ Ex (upd H1 d (.frz od (.dK (trueK ks)))) H2 ∧ H2 Dl = some (.lst (((ks.take n).filter p).map V.int)), ⟨ks.length, by simp, Nat.zero_le _, Ex.new hD, upd_same⟩, ?_⟩
  rintro n m H2 ⟨rfl, hn, e2, hL⟩
  have fz2 := e2 _ _ fz
  have lk : (trueK ks).length = ks.length := by unfold trueK; rw [List.length_map]
  rcases Nat.lt_or_ge n ks.length with lt | ge
  · refine .inr ⟨⟨fz2, by rw [lk]; exact lt⟩, fun H3 => Ex (upd H1 d (.frz od (.dK (trueK ks)))) H3 ∧ H3 Dl = some (.lst (((ks.take (n + 1)).filter p).map V.int)), fun H3 p3 => ⟨ks.length - (n + 1), by omega, rfl, lt, p3⟩, ?_⟩
    rintro x H3 ⟨rfl, k, v, hk, rfl⟩
    have hk2 : (trueK ks)[n]? = some (.inl ks[n], .bl true) := by
      unfold trueK
      rw [List.getElem?_map, List.getElem?_eq_getElem lt]; rfl
    rw [hk2] at hk
    have hk3 := Option.some.inj hk
    have ek : k = .inl ks[n] := (congrArg Prod.fst hk3).symm
    subst ek
    have tk : ks.take (n + 1) = ks.take n ++ [ks[n]] := take_snoc (List.getElem?_eq_getElem lt)
    have look : ((wipe σ vs).set j (some (V.int ks[n])))[j]? = some (some (V.int ks[n])) := by
      rw [List.getElem?_set_self (by rw [wipe_length]; exact hj)]
    refine ⟨hw _, ht ks[n] _ (List.getElem_mem lt) _ (Ex.refl _) _ fun H4 e4 => ?_⟩
    cases hp : p ks[n] with
    | true =>
      refine Eq.mpr (if_pos rfl) ?_
      refine ⟨_, look, _, e4 _ _ hL, ?_, (e2.trans e4).mut hD, ?_⟩
      · rw [List.length_map]
        have := List.length_filter_le p (ks.take n)
        rw [List.length_take] at this
        exact sz_lt (by omega)
      · rw [upd_same, tk, List.filter_append, List.map_append]
        have : [ks[n]].filter p = [ks[n]] := by rw [List.filter_cons, if_pos hp]; rfl
        rw [this]
        rfl
    | false =>
      refine Eq.mpr (if_neg (by decide)) ?_
      refine ⟨e2.trans e4, ?_⟩
      rw [tk, List.filter_append, List.map_append]
      have : [ks[n]].filter p = [] := by rw [List.filter_cons, if_neg (by rw [hp]; decide)]; rfl
      rw [this]
      show H4 Dl = some (.lst ((((ks.take n).filter p).map V.int) ++ []))
      rw [List.append_nil]
      exact e4 _ _ hL
  · have en : n = ks.length := by omega
    subst en
    rw [List.take_length] at hL
    refine .inl ⟨⟨fz2, by rw [lk]; exact Nat.le_refl _⟩, fz2, q Dl _ nD ?_ ?_⟩
    · intro b o hb
      by_cases eb : b = d
      · subst eb
        rw [hd] at hb
        rw [upd_same]
        exact hb
      · rw [upd_ne eb]
        exact e2 _ _ (by rw [upd_ne eb]; exact hb)
    · rw [upd_ne nd]
      exact hL
theorem el_sortN {ns : List Int} (ha : EvL ta σ H (ns.map V.int)) : EvL (tCB (rSortedI K) (tCons ta tNil)) σ H ((isort ns).map V.int) := fun H1 e Q q =>
  ha H1 e _ fun p H2 np e2 hp => ⟨p, ns, rfl, sq_of hp, fun m u hm hpw hu => by
    rw [isort_is hm hpw]
    exact q u _ (fresh_back e2 hu) (e2.trans (Ex.new hu)) upd_same⟩
end
/-! ### d = {k: v for ..}, d a name that the block does not share -/
theorem sw_dict {kx vx : Expr} {gs : List Comprehension} {scope : Scope} {pos py : Pos} {y : Str} {l : Nat} {env : Env} (hk : env.scope.kind = .function) (hy : env.scope.names.lookup y = some .local) (hl : (py.line == pos.line) = true)
    (ha : (scope.names.any fun (n, k) => n == y && (k == .local || k == .cell)) = false) :
    swapsWith (.DictComp kx vx gs scope pos) (some (.Name y py)) l env = pure true := by
  have h1 : env.kindOf y = some .local := hy
  have h2 : env.blockKind = .function := by
    unfold Env.blockKind
    rw [hk]; rfl
  unfold swapsWith
  simp only [h2, h1, ha, Expr.pos, hl]; rfl
section
variable {X : Cx} {i : Nat} {y : Str} {py pos spos : Pos} {kx vx tg iter : Expr} {ifs : List Expr} {scope : Scope} {own : List (Str × Nat)} {wi : TI} {g : TG} {tt : TT} {tk tv : TE}
theorem ps_setDc (hc : X.calm = true) (hN : X.N.Nodup) (hy : X.N[i]? = some y) (hyl : X.env.scope.names.lookup y = some .local)
    (hsw : swapsWith (.DictComp kx vx [⟨tg, iter, ifs, 0⟩] scope pos) (some (.Name y py)) spos.line X.env = pure true) (hi : PI X tg iter wi) (ok : BlkOk X.N X.env.scope scope own)
    (hg : ∀ s H C cl fp, PG (X.blk s H scope (compEnvC scope cl C X.env) fp) tg g)
    (ht : ∀ s H C cl fp, PTs (X.blk s H scope (compEnvC scope cl C X.env) fp) ifs tt)
    (hk : ∀ s H C cl fp, PE (X.blk s H scope (compEnvC scope cl C X.env) fp) kx tk)
    (he : ∀ s H C cl fp, PE (X.blk s H scope (compEnvC scope cl C X.env) fp) vx tv)
    (hs : ∀ x, foldedSetIterable iter X.env x = pure x := by intro _; rfl) :
    PS X (.Assign [.Name y py] (.DictComp kx vx [⟨tg, iter, ifs, 0⟩] scope pos) spos) (tAsg (tDc wi g tt tk tv (own.map (·.2))) (gName i)) := by
  constructor
  intro pins s σ H D I h
  refine Eq.mpr (by rw [exec_Assign_Name_used _ _ _ _ hsw]) ?_
  apply wpAny_bind
  apply wpAny_standAt
  apply wpAny_bind
  show wpAny _ X.A (do
    let _ ← comprehension (.DictComp kx vx [⟨tg, iter, ifs, 0⟩] scope pos) scope X.env (firstIterPos [⟨tg, iter, ifs, 0⟩] pos) newDict false (eval iter X.env) (some (assign (.Name y py) X.env))) _ _ s
  have h : tDc wi g tt tk tv (own.map (·.2)) σ H (fun x H1 => gName i x σ H1 D.nx) := h
  apply wpAny_bind
  refine thn (dc_core (Qf := fun _ s2 => SP X pins D .next s2) hc hN I hi ok hg ht hk he hs h fun L C s1 m H1 I1 q hn f => ?_) fun _ s2 hq => wpAny_pure (wpAny_pure hq)
  refine wpAny_assign_Name (store_ok2 (v := V.ref L) I1 hN hy (.inl hyl) rfl (fun s2 I2 ⟨a, sb, ha⟩ => ?_) (.inr hyl))
  obtain ⟨g0, g1, g2, g3, g4, g5⟩ := f
  have haC : C ≠ a := ha.elim (fun z => z ▸ g1) fun z e => g4 y a z e.symm
  exact ⟨m, hn.sameBut sb haC, fun h3 sb3 => ⟨_, H1, I2.turned (t' := s2.toks) (fun b o hb e => (sb3.2 b hb).trans e) g0 g1 g3 g4 g5, q⟩⟩
end
end GS


set_option Elab.async false
set_option linter.all false
set_option maxRecDepth 100000
set_option maxHeartbeats 4000000
namespace GS
open PySem PySem.Spec PyProof.Rows L2 Evl
def rDictP (K : PySem.W.Frag) : List V → Hp → VK → Prop := fun xs H Q => ∃ (a : Addr) (ps : List Addr) (kvs : List (Key × V)), xs = [.ref a] ∧ SqL K H a (ps.map V.ref) ∧ Paired (fun p kv => SqT K H p [kV kv.1, kv.2]) ps kvs ∧ ∀ p, H p = none → Q (.ref p) (upd H p (.dK (mergeK [] kvs)))
def rSortDI : List V → Hp → VK → Prop := fun xs H Q => ∃ (a : Addr) (kvs : List (Key × V)) (ks : List Int), xs = [.ref a] ∧ Rd H a (.dK kvs) ∧ kvs.map (·.1) = ks.map Sum.inl ∧ ks.length < 64 ∧
  ∀ (ys : List Int) (p : Addr), ys.Perm ks → ys.Pairwise (· ≤ ·) → H p = none → Q (.ref p) (upd H p (.lst (ys.map V.int)))
section
variable {X : Cx} {K : PySem.W.Frag}
theorem k_dictP (h : X.K = K) (hc : X.calm = true) : CallR X (.type "dict") (rDictP K) := h ▸ call_dictP hc
theorem c_sortDI (hc : X.calm = true) : CallR X (.builtin "sorted") rSortDI := call_sortedDI hc
end
/-! dict of pairs (n, 0), in order -/
def zeroK (ks : List Int) : List (Key × V) := ks.map fun n => (.inl n, .int 0)
theorem zeroK_merge {ks : List Int} (nd : ks.Nodup) : mergeK [] (zeroK ks) = zeroK ks := by
  induction ks using snoc_induct with
  | h0 => rfl
  | hs l n ih =>
    obtain ⟨h1, h2, h3⟩ := List.nodup_append.mp nd
    have e : zeroK (l ++ [n]) = zeroK l ++ [(.inl n, .int 0)] := by
      unfold zeroK
      rw [List.map_append]
      rfl
    unfold mergeK at ih ⊢
    rw [e, List.foldl_append, ih h1]
    show putK (zeroK l) (.inl n) (.int 0) = _
    unfold putK
    rw [if_neg]
    intro z
    obtain ⟨q, hq, e2⟩ := List.any_eq_true.mp z
    obtain ⟨x, hx, rfl⟩ := List.mem_map.mp hq
    have e3 : (.inl x : Key) = .inl n := of_decide_eq_true e2
    exact h3 x hx n (List.mem_singleton.mpr rfl) (Sum.inl.inj e3)
theorem zeroK_keys (ks : List Int) : (zeroK ks).map (·.1) = ks.map Sum.inl := by
  unfold zeroK
  rw [List.map_map]
  rfl
section
variable {K : PySem.W.Frag} {σ : L2.St} {H : Hp} {ta tb te : TE} {D : Ends} {tz tu : TS}
/-- new pairs (n, 0) at these places -/
def PairsAt (K : PySem.W.Frag) (H : Hp) (ps : List Addr) (ks : List Int) : Prop := Paired (fun p kv => SqT K H p [kV kv.1, kv.2]) ps (zeroK ks)
theorem PairsAt.mono {H H2 : Hp} {ps : List Addr} {ks : List Int} (e : Ex H H2) (h : PairsAt K H ps ks) : PairsAt K H2 ps ks := by
  unfold PairsAt at h ⊢
  generalize zeroK ks = kvs at h
  induction h with
  | nil => exact .nil
  | cons h hs ih => exact .cons (ex_t e h) ih
/-- [(n, 0) for n in xs if ..] -/
theorem pairs_lc {ns : List Int} {a : Addr} {j : Nat} {tt : TT} {vs : List Nat} (p : Int → Bool) (h : Ev ta σ H (.ref a)) (hx : SqL K H a (ns.map V.int)) (hl : ns.length ≤ 40000) (hj : j < σ.length)
    (hw : ∀ x, wipe ((wipe σ vs).set j (some x)) vs = wipe σ vs) (ht : ∀ (n : Int) H1, n ∈ ns → EvT tt ((wipe σ vs).set j (some (.int n))) H1 (p n)) :
    ∀ H1, Ex H H1 → ∀ Q : VK, (∀ q ps H2, H1 q = none → Ex H1 H2 → H2 q = some (.lst (ps.map V.ref)) → PairsAt K H2 ps (ns.filter p) → Q (.ref q) H2) →
      tLc (iList K ta) (gName j) tt (tTup (tCons (tVar j) (tCons (tC (.int 0)) tNil))) vs σ H1 Q := fun H1 e Q q =>
  h H1 e _ fun H2 e2 => by
    refine ⟨a, rfl, ⟨_, ex_l (e.trans e2) hx⟩, fun Dl hD => ?_⟩
    refine ⟨fun n m H3 => m = ns.length - n ∧ n ≤ ns.length ∧ Ex H2 H3 ∧ ∃ ps, H3 Dl = some (.lst (ps.map V.ref)) ∧ ps.length ≤ n ∧ PairsAt K (hid H3 Dl) ps ((ns.take n).filter p),
      ⟨ns.length, by simp, Nat.zero_le _, Ex.new hD, [], upd_same, Nat.zero_le _, .nil⟩, ?_⟩
    rintro n m H3 ⟨rfl, hn, e3, ps, hL, hpl, hP⟩
    have sq : SqL K H3 a (ns.map V.int) := ex_l ((e.trans e2).trans e3) hx
    rcases Nat.lt_or_ge n ns.length with lt | ge
    · have g : (ns.map V.int)[n]? = some (.int ns[n]) := by rw [List.getElem?_map, List.getElem?_eq_getElem lt]; rfl
      refine .inr ⟨⟨_, _, sq, g⟩, fun H4 => Ex H2 H4 ∧ ∃ ps, H4 Dl = some (.lst (ps.map V.ref)) ∧ ps.length ≤ n + 1 ∧ PairsAt K (hid H4 Dl) ps ((ns.take (n + 1)).filter p), fun H4 p4 => ⟨ns.length - (n + 1), by omega, rfl, lt, p4⟩, ?_⟩
      rintro x H4 ⟨rfl, hy⟩
      have ex := hy _ sq
      rw [g] at ex
      have ex2 := Option.some.inj ex
      subst ex2
      have tk : ns.take (n + 1) = ns.take n ++ [ns[n]] := take_snoc (List.getElem?_eq_getElem lt)
      have look : ((wipe σ vs).set j (some (V.int ns[n])))[j]? = some (some (V.int ns[n])) := by
        rw [List.getElem?_set_self (by rw [wipe_length]; exact hj)]
      refine ⟨hw _, ht ns[n] _ (List.getElem_mem lt) _ (Ex.refl _) _ fun H5 e5 => ?_⟩
      cases hp : p ns[n] with
      | true =>
        refine Eq.mpr (if_pos rfl) ?_
        refine ⟨_, look, sz_of (by show 2 ≤ 100000; decide), fun t nt => ⟨_, Ex.new nt _ _ (e5 _ _ hL), ?_, (e3.trans (e5.trans (Ex.new nt))).mut hD, ps ++ [t], ?_, ?_, ?_⟩⟩
        · rw [List.length_map]; exact sz_lt (by omega)
        · rw [upd_same, List.map_append]; rfl
        · rw [List.length_append, List.length_singleton]; omega
        · have td : t ≠ Dl := by
            rintro rfl
            rw [e5 _ _ hL] at nt
            cases nt
          have f1 : [ns[n]].filter p = [ns[n]] := by rw [List.filter_cons, if_pos hp]; rfl
          rw [tk, List.filter_append, f1]
          unfold PairsAt zeroK
          rw [List.map_append]
          refine Paired.snoc (PairsAt.mono ?_ hP) (st_of ?_)
          · intro b o hb
            by_cases q : b = Dl
            · subst q
              rw [hid_same] at hb
              cases hb
            · rw [hid_ne q] at hb ⊢
              rw [upd_ne q]
              exact Ex.new nt _ _ (e5 _ _ hb)
          · rw [hid_ne td, upd_ne td, upd_same]
            rfl
      | false =>
        refine Eq.mpr (if_neg (by decide)) ?_
        have f1 : [ns[n]].filter p = [] := by rw [List.filter_cons, if_neg (by rw [hp]; decide)]; rfl
        refine ⟨e3.trans e5, ps, e5 _ _ hL, by omega, ?_⟩
        rw [tk, List.filter_append, f1, List.append_nil]
        exact hP.mono (hid_mono e5)
    · have en : n = ns.length := by omega
      subst en
      rw [List.take_length] at hP
      exact .inl ⟨⟨_, sq, by rw [List.length_map]; exact Nat.le_refl _⟩, q Dl ps H3 (free_of e2 hD) (e2.trans e3) hL (hP.mono hid_ex)⟩
/-- sorted(dict([(n, 0) for ..])) -/
theorem el_sortDict {ns : List Int} {a : Addr} {j : Nat} {tt : TT} {vs : List Nat} (p : Int → Bool) (h : Ev ta σ H (.ref a)) (hx : SqL K H a (ns.map V.int)) (hl : ns.length < 64) (nd : ns.Nodup) (hj : j < σ.length)
    (hw : ∀ x, wipe ((wipe σ vs).set j (some x)) vs = wipe σ vs) (ht : ∀ (n : Int) H1, n ∈ ns → EvT tt ((wipe σ vs).set j (some (.int n))) H1 (p n)) :
    EvL (tCB rSortDI (tCons (tCB (rDictP K) (tCons (tLc (iList K ta) (gName j) tt (tTup (tCons (tVar j) (tCons (tC (.int 0)) tNil))) vs) tNil)) tNil)) σ H ((isort (ns.filter p)).map V.int) := fun H1 e Q q => by
  have z := pairs_lc p h hx (by omega) hj hw ht H1 e (fun x H2 => rDictP K [x] H2 fun y H3 => rSortDI [y] H3 Q)
  refine z fun l ps H2 nl e2 hL hP => ⟨l, ps, zeroK (ns.filter p), rfl, sq_of hL, hP, fun d hd => by
    rw [zeroK_merge (nd.filter p)]
    refine ⟨d, _, ns.filter p, rfl, .inl upd_same, zeroK_keys _, ?_, fun ys u hm hpw hu => ?_⟩
    · have := List.length_filter_le p ns
      omega
    · rw [isort_is hm hpw]
      exact q u _ (free_of (e2.trans (Ex.new hd)) hu) ((e2.trans (Ex.new hd)).trans (Ex.new hu)) upd_same⟩
/-- k in xs, numbers -/
theorem inV_int (k : Int) : ∀ ns : List Int, inV (.int k) (ns.map V.int) = decide (k ∈ ns)
  | [] => rfl
  | n :: ns => by
    show ((n == k) || inV (.int k) (ns.map V.int)) = _
    rw [inV_int k ns, Bool.eq_iff_iff, Bool.or_eq_true, beq_iff_eq, decide_eq_true_eq, decide_eq_true_eq, List.mem_cons]
    exact ⟨fun h => h.imp (fun e => e.symm) fun e => e, fun h => h.imp (fun e => e.symm) fun e => e⟩
theorem ev_inInts {ns : List Int} {a : Addr} {k : Int} (ha : Ev ta σ H (.int k)) (hb : Ev tb σ H (.ref a)) (h : SqL K H a (ns.map V.int)) : Ev (tOp (rIn K false) ta tb) σ H (.bl (decide (k ∈ ns))) := by
  refine ev_is (ev_op ha hb (rv_isL h rfl (by
    rw [List.all_map]
    exact List.all_eq_true.mpr fun _ _ => rfl))) ?_
  rw [inV_int]
/-- over range(a, b), the elements by any means -/
theorem lc_rng2 {tas : TA} {tt : TT} {vs : List Nat} {j : Nat} {lo n : Int} {Q : VK} (h : EvA tas σ H [.int lo, .int n]) (hn : 0 ≤ lo ∧ lo ≤ n ∧ n ≤ 40000)
    (hw : ∀ x, wipe ((wipe σ vs).set j (some x)) vs = wipe σ vs) (Pv : Addr → Nat → Hp → Prop)
    (h0 : ∀ D H1, Ex H H1 → H1 D = none → Pv D 0 (upd H1 D (.lst [])))
    (hs : ∀ D (i : Nat) H2, lo + (i : Int) < n → Pv D i H2 → tt ((wipe σ vs).set j (some (.int (lo + (i : Int))))) H2 fun b H3 =>
      if b = true then te ((wipe σ vs).set j (some (.int (lo + (i : Int))))) H3 fun y H4 => ∃ acc2, H4 D = some (.lst acc2) ∧ acc2.length < sizeLine ∧ Pv D (i + 1) (upd H4 D (.lst (acc2 ++ [y])))
      else Pv D (i + 1) H3)
    (hd : ∀ D H2, Pv D (n - lo).toNat H2 → Q (.ref D) H2) : tLc (iRng2 tas) (gName j) tt te vs σ H Q :=
  h H (Ex.refl H) _ fun H1 e1 => ⟨lo, n, rfl, ⟨by omega, by omega, by omega, by omega⟩, fun D hD => by
    refine ⟨fun i m H2 => m = (n - lo).toNat - i ∧ i ≤ (n - lo).toNat ∧ Pv D i H2, ⟨(n - lo).toNat, by simp, Nat.zero_le _, h0 D H1 e1 hD⟩, ?_⟩
    rintro i m H2 ⟨rfl, hi, p⟩
    rcases Nat.lt_or_ge i (n - lo).toNat with lt | ge
    · refine .inr ⟨lt, fun H3 => Pv D (i + 1) H3, fun H3 p3 => ⟨(n - lo).toNat - (i + 1), by omega, rfl, lt, p3⟩, ?_⟩
      rintro x H3 ⟨rfl, rfl⟩
      exact ⟨hw _, hs D i H3 (by omega) p⟩
    · have en : i = (n - lo).toNat := by omega
      subst en
      exact .inl ⟨Nat.le_refl _, hd D H2 p⟩⟩
end
section
variable {K : PySem.W.Frag} {σ : L2.St} {H : Hp} {D : Ends} {tz : TS}
/-- a, b = t -/
theorem q_two {i a b : Nat} {t : Addr} {x y : V} (hi : σ[i]? = some (some (.ref t))) (h : H t = some (.tup [x, y])) (k : tz D ((σ.set a (some x)).set b (some y)) H) :
    tSeq (tAsg (tVar i) (gTup K 2 (gCons (gName a) (gCons (gName b) gNil)))) tz D σ H :=
  ⟨.ref t, hi, t, [x, y], rfl, st_of h, rfl, _, _, rfl, _, _, rfl, rfl, k⟩
end
section
variable {X : Cx} {K : PySem.W.Frag}
theorem k_ixt (h : X.K = K) : IxR X (rIxT K) := h ▸ ix_tup
end
/-! a list of things of one kind, in the heap as it is then -/
def EvP (ta : TA) (σ : L2.St) (H : Hp) (P : Hp → V → Prop) (n : Nat) : Prop := ∀ H1, Ex H H1 → ∀ Q : List V → Hp → Prop, (∀ vs H2, Ex H1 H2 → vs.length ≤ n → (∀ v ∈ vs, P H2 v) → Q vs H2) → ta σ H1 Q
def EvQ (te : TE) (σ : L2.St) (H : Hp) (P : Hp → V → Prop) : Prop := ∀ H1, Ex H H1 → ∀ Q : VK, (∀ v H2, Ex H1 H2 → P H2 v → Q v H2) → te σ H1 Q
section
variable {K : PySem.W.Frag} {σ : L2.St} {H : Hp} {te : TE} {ta : TA} {D : Ends} {tz tu : TS} {P : Hp → V → Prop} {n : Nat}
theorem ep_nil : EvP tNil σ H P n := fun H1 _ Q q => q [] H1 (Ex.refl _) (Nat.zero_le _) fun v hv => by cases hv
theorem ep_cons (hm : ∀ v H1 H2, Ex H1 H2 → P H1 v → P H2 v) (h : EvQ te σ H P) (hr : EvP ta σ H P n) : EvP (tCons te ta) σ H P (n + 1) := fun H1 e Q q =>
  h H1 e _ fun v H2 e2 hv => hr H2 (e.trans e2) _ fun vs H3 e3 hl hvs => q (v :: vs) H3 (e2.trans e3) (by rw [List.length_cons]; omega) fun u hu => by
    rcases List.mem_cons.mp hu with e | hu
    · exact e ▸ hm v H2 H3 e3 hv
    · exact hvs u hu
theorem eq_of {d : PyData} (h : EvD K te σ H d) (hp : ∀ v H1, Rp K H1 v d → P H1 v) : EvQ te σ H P := fun H1 e Q q => h H1 e Q fun v H2 e2 r => q v H2 e2 (hp v H2 r)
/-- for x in [a, b, ..], of any things of one kind -/
theorem q_forP {j : Nat} (hm : ∀ v H1 H2, Ex H1 H2 → P H1 v → P H2 v) (h : EvP ta σ H P n) (hn : n ≤ 1000) (y0 : Option V) (hy : σ = σ.set j y0)
    (hs : ∀ (N : L2.St → Hp → Prop) H1 x, (∀ H2, Ex H1 H2 → N (σ.set j (some x)) H2) → Ex H H1 → P H1 x → tu { D with nx := N, ct := N, bk := tz D } (σ.set j (some x)) H1)
    (hd : ∀ y H1, Ex H H1 → tz D (σ.set j y) H1) : tSeq (tFor (iList K (tLst ta)) (gName j) tu) tz D σ H :=
  h H (Ex.refl H) _ fun vs H1 e1 hl hv => ⟨sz_of (by omega), fun p np => ⟨p, rfl, ⟨vs, sq_of upd_same⟩,
    for_list (D := { D with nx := tz D }) (xs := vs) (fun _ σ2 H2 => (∃ y, σ2 = σ.set j y) ∧ Ex (upd H1 p (.lst vs)) H2) ⟨⟨y0, hy⟩, Ex.refl _⟩ (fun i σ2 H2 _ z => sq_of (z.2 _ _ upd_same))
      (fun i x σ2 H2 hi z => by
        obtain ⟨⟨y, rfl⟩, e2⟩ := z
        show tu _ ((σ.set j y).set j (some x)) H2
        rw [List.set_set]
        exact hs _ H2 x (fun H3 e3 => ⟨⟨some x, rfl⟩, e2.trans e3⟩) ((e1.trans (Ex.new np)).trans e2) (hm x H1 H2 ((Ex.new np).trans e2) (hv x (List.mem_of_getElem? hi))))
      (fun σ2 H2 z => by
        obtain ⟨⟨y, rfl⟩, e2⟩ := z
        exact hd y H2 ((e1.trans (Ex.new np)).trans e2))⟩⟩
end
end GS




set_option Elab.async false
set_option linter.all false
set_option maxRecDepth 100000
set_option maxHeartbeats 4000000
namespace K09
open PySem PySem.Spec PyProof.Rows L2 Evl GS
abbrev PW := PySem.Challenge.pw_gapswaps_k09_sets_of_counts
def topS (i : Nat) : Stmt := PW.main.body.getD i (.Pass ⟨0, 0, 0, 0⟩)
abbrev s_InvalidNumber_init : Stmt := inClass (topS 2) 0
abbrev N_InvalidNumber_init : List Str := ["self", "value"]
abbrev P_InvalidNumber_init : List Str := ["self", "value"]
theorem sc_InvalidNumber_init : FnScope N_InvalidNumber_init P_InvalidNumber_init (defScope s_InvalidNumber_init) := ⟨rfl, rfl, rfl, by decide +kernel, rfl, by decide +kernel, by decide +kernel⟩
theorem nd_InvalidNumber_init : N_InvalidNumber_init.Nodup := by decide +kernel
abbrev s_InvalidList_init : Stmt := inClass (topS 3) 0
abbrev N_InvalidList_init : List Str := ["self", "value"]
abbrev P_InvalidList_init : List Str := ["self", "value"]
theorem sc_InvalidList_init : FnScope N_InvalidList_init P_InvalidList_init (defScope s_InvalidList_init) := ⟨rfl, rfl, rfl, by decide +kernel, rfl, by decide +kernel, by decide +kernel⟩
theorem nd_InvalidList_init : N_InvalidList_init.Nodup := by decide +kernel
abbrev s_is_whole : Stmt := topS 5
abbrev N_is_whole : List Str := ["value"]
abbrev P_is_whole : List Str := ["value"]
theorem sc_is_whole : FnScope N_is_whole P_is_whole (defScope s_is_whole) := ⟨rfl, rfl, rfl, by decide +kernel, rfl, by decide +kernel, by decide +kernel⟩
theorem nd_is_whole : N_is_whole.Nodup := by decide +kernel
abbrev s_may_be_told : Stmt := topS 9
abbrev N_may_be_told : List Str := ["value"]
abbrev P_may_be_told : List Str := ["value"]
theorem sc_may_be_told : FnScope N_may_be_told P_may_be_told (defScope s_may_be_told) := ⟨rfl, rfl, rfl, by decide +kernel, rfl, by decide +kernel, by decide +kernel⟩
theorem nd_may_be_told : N_may_be_told.Nodup := by decide +kernel
abbrev s_are_numbers : Stmt := topS 10
abbrev N_are_numbers : List Str := ["value", "item"]
abbrev P_are_numbers : List Str := ["value"]
theorem sc_are_numbers : FnScope N_are_numbers P_are_numbers (defScope s_are_numbers) := ⟨rfl, rfl, rfl, by decide +kernel, rfl, by decide +kernel, by decide +kernel⟩
theorem nd_are_numbers : N_are_numbers.Nodup := by decide +kernel
abbrev s_Lets_init : Stmt := inClass (topS 11) 0
abbrev N_Lets_init : List Str := ["self", "numbers", "start"]
abbrev P_Lets_init : List Str := ["self", "numbers", "start"]
theorem sc_Lets_init : FnScope N_Lets_init P_Lets_init (defScope s_Lets_init) := ⟨rfl, rfl, rfl, by decide +kernel, rfl, by decide +kernel, by decide +kernel⟩
theorem nd_Lets_init : N_Lets_init.Nodup := by decide +kernel
abbrev s_Letssettle : Stmt := inClass (topS 11) 1
abbrev N_Letssettle : List Str := ["self", "numbers", "start", "table", "least", "number"]
abbrev P_Letssettle : List Str := ["self", "numbers", "start"]
theorem sc_Letssettle : FnScope N_Letssettle P_Letssettle (defScope s_Letssettle) := ⟨rfl, rfl, rfl, by decide +kernel, rfl, by decide +kernel, by decide +kernel⟩
theorem nd_Letssettle : N_Letssettle.Nodup := by decide +kernel
abbrev s_Lets_numbers : Stmt := inClass (topS 11) 2
abbrev N_Lets_numbers : List Str := ["self"]
abbrev P_Lets_numbers : List Str := ["self"]
theorem sc_Lets_numbers : FnScope N_Lets_numbers P_Lets_numbers (defScope s_Lets_numbers) := ⟨rfl, rfl, rfl, by decide +kernel, rfl, by decide +kernel, by decide +kernel⟩
theorem nd_Lets_numbers : N_Lets_numbers.Nodup := by decide +kernel
abbrev s_Lets_start : Stmt := inClass (topS 11) 3
abbrev N_Lets_start : List Str := ["self"]
abbrev P_Lets_start : List Str := ["self"]
theorem sc_Lets_start : FnScope N_Lets_start P_Lets_start (defScope s_Lets_start) := ⟨rfl, rfl, rfl, by decide +kernel, rfl, by decide +kernel, by decide +kernel⟩
theorem nd_Lets_start : N_Lets_start.Nodup := by decide +kernel
abbrev s_Lets_contains : Stmt := inClass (topS 11) 4
abbrev N_Lets_contains : List Str := ["self", "x"]
abbrev P_Lets_contains : List Str := ["self", "x"]
theorem sc_Lets_contains : FnScope N_Lets_contains P_Lets_contains (defScope s_Lets_contains) := ⟨rfl, rfl, rfl, by decide +kernel, rfl, by decide +kernel, by decide +kernel⟩
theorem nd_Lets_contains : N_Lets_contains.Nodup := by decide +kernel
abbrev s_Lets_eq : Stmt := inClass (topS 11) 5
abbrev N_Lets_eq : List Str := ["self", "other"]
abbrev P_Lets_eq : List Str := ["self", "other"]
theorem sc_Lets_eq : FnScope N_Lets_eq P_Lets_eq (defScope s_Lets_eq) := ⟨rfl, rfl, rfl, by decide +kernel, rfl, by decide +kernel, by decide +kernel⟩
theorem nd_Lets_eq : N_Lets_eq.Nodup := by decide +kernel
abbrev s_l_hash : Stmt := topS 13
abbrev N_l_hash : List Str := ["_law_seed", "_law_index", "_law_mixed"]
abbrev P_l_hash : List Str := ["_law_seed", "_law_index"]
theorem sc_l_hash : FnScope N_l_hash P_l_hash (defScope s_l_hash) := ⟨rfl, rfl, rfl, by decide +kernel, rfl, by decide +kernel, by decide +kernel⟩
theorem nd_l_hash : N_l_hash.Nodup := by decide +kernel
abbrev s_l_random : Stmt := topS 14
abbrev N_l_random : List Str := ["_law_generator_here", "_law_bound", "_law_drawn", "_law_turn"]
abbrev P_l_random : List Str := ["_law_generator_here", "_law_bound"]
theorem sc_l_random : FnScope N_l_random P_l_random (defScope s_l_random) := ⟨rfl, rfl, rfl, by decide +kernel, rfl, by decide +kernel, by decide +kernel⟩
theorem nd_l_random : N_l_random.Nodup := by decide +kernel
abbrev s_l_cell : Stmt := topS 15
abbrev N_l_cell : List Str := ["_law_script", "_law_index"]
abbrev P_l_cell : List Str := ["_law_script", "_law_index"]
theorem sc_l_cell : FnScope N_l_cell P_l_cell (defScope s_l_cell) := ⟨rfl, rfl, rfl, by decide +kernel, rfl, by decide +kernel, by decide +kernel⟩
theorem nd_l_cell : N_l_cell.Nodup := by decide +kernel
abbrev s_l_generator : Stmt := topS 16
abbrev N_l_generator : List Str := ["_law_script", "_law_index", "_law_seed"]
abbrev P_l_generator : List Str := ["_law_script", "_law_index"]
theorem sc_l_generator : FnScope N_l_generator P_l_generator (defScope s_l_generator) := ⟨rfl, rfl, rfl, by decide +kernel, rfl, by decide +kernel, by decide +kernel⟩
theorem nd_l_generator : N_l_generator.Nodup := by decide +kernel
abbrev s_l_in : Stmt := topS 17
abbrev N_l_in : List Str := ["_law_told", "_law_number", "_law_numbers", "_law_start"]
abbrev P_l_in : List Str := ["_law_told", "_law_number"]
theorem sc_l_in : FnScope N_l_in P_l_in (defScope s_l_in) := ⟨rfl, rfl, rfl, by decide +kernel, rfl, by decide +kernel, by decide +kernel⟩
theorem nd_l_in : N_l_in.Nodup := by decide +kernel
abbrev s_l_set : Stmt := topS 18
abbrev N_l_set : List Str := ["_law_generator_here", "_law_most", "_law_numbers", "_law_number"]
abbrev P_l_set : List Str := ["_law_generator_here", "_law_most"]
theorem sc_l_set : FnScope N_l_set P_l_set (defScope s_l_set) := ⟨rfl, rfl, rfl, by decide +kernel, rfl, by decide +kernel, by decide +kernel⟩
theorem nd_l_set : N_l_set.Nodup := by decide +kernel
abbrev s_l_form : Stmt := topS 19
abbrev N_l_form : List Str := ["_law_told", "_law_numbers", "_law_start", "_law_number"]
abbrev P_l_form : List Str := ["_law_told"]
theorem sc_l_form : FnScope N_l_form P_l_form (defScope s_l_form) := ⟨rfl, rfl, rfl, by decide +kernel, rfl, by decide +kernel, by decide +kernel⟩
theorem nd_l_form : N_l_form.Nodup := by decide +kernel
abbrev s_l_list : Stmt := topS 20
abbrev N_l_list : List Str := ["_law_generator_here", "_law_numbers", "_law_left", "_law_found"]
abbrev P_l_list : List Str := ["_law_generator_here", "_law_numbers"]
theorem sc_l_list : FnScope N_l_list P_l_list (defScope s_l_list) := ⟨rfl, rfl, rfl, by decide +kernel, rfl, by decide +kernel, by decide +kernel⟩
theorem nd_l_list : N_l_list.Nodup := by decide +kernel
abbrev s_l_one_right : Stmt := topS 21
abbrev N_l_one_right : List Str := ["_law_generator_here", "_law_told", "_law_given", "_law_kept", "_law_lets", "_law_form_here", "_law_numbers", "_law_number", "_law_value"]
abbrev P_l_one_right : List Str := ["_law_generator_here", "_law_told"]
theorem sc_l_one_right : FnScope N_l_one_right P_l_one_right (defScope s_l_one_right) := ⟨rfl, rfl, rfl, by decide +kernel, rfl, by decide +kernel, by decide +kernel⟩
theorem nd_l_one_right : N_l_one_right.Nodup := by decide +kernel
abbrev s_l_right : Stmt := topS 22
abbrev N_l_right : List Str := ["_law_generator_here", "_law_one", "_law_other", "_law_same"]
abbrev P_l_right : List Str := ["_law_generator_here"]
theorem sc_l_right : FnScope N_l_right P_l_right (defScope s_l_right) := ⟨rfl, rfl, rfl, by decide +kernel, rfl, by decide +kernel, by decide +kernel⟩
theorem nd_l_right : N_l_right.Nodup := by decide +kernel
abbrev s_law : Stmt := topS 23
abbrev N_law : List Str := ["_law_script", "_law_index", "_law_most"]
abbrev P_law : List Str := ["_law_script"]
theorem sc_law : FnScope N_law P_law (defScope s_law) := ⟨rfl, rfl, rfl, by decide +kernel, rfl, by decide +kernel, by decide +kernel⟩
theorem nd_law : N_law.Nodup := by decide +kernel
structure Tx (K : PySem.W.Frag) (mg : Str → Option Value) where
  a_is_whole : Addr
  fd_is_whole : FuncData
  F_is_whole : Fun K "is_whole" "is_whole" s_is_whole a_is_whole fd_is_whole
  g_is_whole : mg "is_whole" = some (.ref a_is_whole)
  b_is_whole : Binds K fd_is_whole P_is_whole []
  a_may_be_told : Addr
  fd_may_be_told : FuncData
  F_may_be_told : Fun K "_may_be_told" "_may_be_told" s_may_be_told a_may_be_told fd_may_be_told
  g_may_be_told : mg "_may_be_told" = some (.ref a_may_be_told)
  b_may_be_told : Binds K fd_may_be_told P_may_be_told []
  a_are_numbers : Addr
  fd_are_numbers : FuncData
  F_are_numbers : Fun K "_are_numbers" "_are_numbers" s_are_numbers a_are_numbers fd_are_numbers
  g_are_numbers : mg "_are_numbers" = some (.ref a_are_numbers)
  b_are_numbers : Binds K fd_are_numbers P_are_numbers []
  a_l_hash : Addr
  fd_l_hash : FuncData
  F_l_hash : Fun K "_law_hash" "_law_hash" s_l_hash a_l_hash fd_l_hash
  g_l_hash : mg "_law_hash" = some (.ref a_l_hash)
  b_l_hash : Binds K fd_l_hash P_l_hash []
  a_l_random : Addr
  fd_l_random : FuncData
  F_l_random : Fun K "_law_random" "_law_random" s_l_random a_l_random fd_l_random
  g_l_random : mg "_law_random" = some (.ref a_l_random)
  b_l_random : Binds K fd_l_random P_l_random []
  a_l_cell : Addr
  fd_l_cell : FuncData
  F_l_cell : Fun K "_law_cell" "_law_cell" s_l_cell a_l_cell fd_l_cell
  g_l_cell : mg "_law_cell" = some (.ref a_l_cell)
  b_l_cell : Binds K fd_l_cell P_l_cell []
  a_l_generator : Addr
  fd_l_generator : FuncData
  F_l_generator : Fun K "_law_generator" "_law_generator" s_l_generator a_l_generator fd_l_generator
  g_l_generator : mg "_law_generator" = some (.ref a_l_generator)
  b_l_generator : Binds K fd_l_generator P_l_generator []
  a_l_in : Addr
  fd_l_in : FuncData
  F_l_in : Fun K "_law_in" "_law_in" s_l_in a_l_in fd_l_in
  g_l_in : mg "_law_in" = some (.ref a_l_in)
  b_l_in : Binds K fd_l_in P_l_in []
  a_l_set : Addr
  fd_l_set : FuncData
  F_l_set : Fun K "_law_set" "_law_set" s_l_set a_l_set fd_l_set
  g_l_set : mg "_law_set" = some (.ref a_l_set)
  b_l_set : Binds K fd_l_set P_l_set []
  a_l_form : Addr
  fd_l_form : FuncData
  F_l_form : Fun K "_law_form" "_law_form" s_l_form a_l_form fd_l_form
  g_l_form : mg "_law_form" = some (.ref a_l_form)
  b_l_form : Binds K fd_l_form P_l_form []
  a_l_list : Addr
  fd_l_list : FuncData
  F_l_list : Fun K "_law_list" "_law_list" s_l_list a_l_list fd_l_list
  g_l_list : mg "_law_list" = some (.ref a_l_list)
  b_l_list : Binds K fd_l_list P_l_list []
  a_l_one_right : Addr
  fd_l_one_right : FuncData
  F_l_one_right : Fun K "_law_one_right" "_law_one_right" s_l_one_right a_l_one_right fd_l_one_right
  g_l_one_right : mg "_law_one_right" = some (.ref a_l_one_right)
  b_l_one_right : Binds K fd_l_one_right P_l_one_right []
  a_l_right : Addr
  fd_l_right : FuncData
  F_l_right : Fun K "_law_right" "_law_right" s_l_right a_l_right fd_l_right
  g_l_right : mg "_law_right" = some (.ref a_l_right)
  b_l_right : Binds K fd_l_right P_l_right []
  a_law : Addr
  fd_law : FuncData
  F_law : Fun K "law" "law" s_law a_law fd_law
  g_law : mg "law" = some (.ref a_law)
  b_law : Binds K fd_law P_law []
  a_GapError : Addr
  a_InvalidNumber : Addr
  a_InvalidList : Addr
  a_Lets : Addr
  g_GapError : mg "GapError" = some (.ref a_GapError)
  g_InvalidNumber : mg "InvalidNumber" = some (.ref a_InvalidNumber)
  e_InvalidNumber : ErrC K a_InvalidNumber
  x_InvalidNumber : OexC K a_InvalidNumber
  ai_InvalidNumber : Addr
  fdi_InvalidNumber : FuncData
  i_InvalidNumber : PySem.W.findIn K (.ref a_InvalidNumber) "__init__" = some (some (.ref ai_InvalidNumber))
  t_InvalidNumber : PySem.W.typeIn K (.ref ai_InvalidNumber) = some (.type "function")
  Fi_InvalidNumber : FunV K "__init__" "InvalidNumber.__init__" s_InvalidNumber_init ai_InvalidNumber fdi_InvalidNumber
  bi_InvalidNumber : Binds K fdi_InvalidNumber P_InvalidNumber_init []
  nv_InvalidNumber : PySem.W.findIn K (.ref a_InvalidNumber) "value" = some none
  m_InvalidNumber_GapError : PySem.W.exmOne K (.ref a_InvalidNumber) (.ref a_GapError) = some true
  k_InvalidNumber_InvalidNumber : PySem.W.kitOne K (.ref a_InvalidNumber) (.ref a_InvalidNumber) = some true
  k_InvalidNumber_InvalidList : PySem.W.kitOne K (.ref a_InvalidNumber) (.ref a_InvalidList) = some false
  kn_InvalidNumber : PySem.W.kitOne K (.type "NoneType") (.ref a_InvalidNumber) = some false
  g_InvalidList : mg "InvalidList" = some (.ref a_InvalidList)
  e_InvalidList : ErrC K a_InvalidList
  x_InvalidList : OexC K a_InvalidList
  ai_InvalidList : Addr
  fdi_InvalidList : FuncData
  i_InvalidList : PySem.W.findIn K (.ref a_InvalidList) "__init__" = some (some (.ref ai_InvalidList))
  t_InvalidList : PySem.W.typeIn K (.ref ai_InvalidList) = some (.type "function")
  Fi_InvalidList : FunV K "__init__" "InvalidList.__init__" s_InvalidList_init ai_InvalidList fdi_InvalidList
  bi_InvalidList : Binds K fdi_InvalidList P_InvalidList_init []
  nv_InvalidList : PySem.W.findIn K (.ref a_InvalidList) "value" = some none
  m_InvalidList_GapError : PySem.W.exmOne K (.ref a_InvalidList) (.ref a_GapError) = some true
  k_InvalidList_InvalidNumber : PySem.W.kitOne K (.ref a_InvalidList) (.ref a_InvalidNumber) = some false
  k_InvalidList_InvalidList : PySem.W.kitOne K (.ref a_InvalidList) (.ref a_InvalidList) = some true
  kn_InvalidList : PySem.W.kitOne K (.type "NoneType") (.ref a_InvalidList) = some false
  g_Lets : mg "Lets" = some (.ref a_Lets)
  cl_Lets : Cls K a_Lets
  ins_Lets : C8.InsC K a_Lets
  na_Lets__start : NoAttr K a_Lets "_start"
  na_Lets__numbers : NoAttr K a_Lets "_numbers"
  na_Lets__table : NoAttr K a_Lets "_table"
  am_Lets_init : Addr
  fd_Lets_init : FuncData
  F_Lets_init : FunV K "__init__" "Lets.__init__" s_Lets_init am_Lets_init fd_Lets_init
  b_Lets_init : Binds K fd_Lets_init P_Lets_init []
  M_Lets : Mk K a_Lets am_Lets_init
  bd_Lets_init : Binds K fd_Lets_init P_Lets_init [.none]
  kw_Lets_numbers_start : KBn K fd_Lets_init P_Lets_init 1 ["numbers", "start"] (fun us ws => us ++ ws) (fun vs zs => vs ++ zs)
  am_Letssettle : Addr
  fd_Letssettle : FuncData
  F_Letssettle : FunV K "_settle" "Lets._settle" s_Letssettle am_Letssettle fd_Letssettle
  b_Letssettle : Binds K fd_Letssettle P_Letssettle []
  me_Letssettle : Meth K a_Lets "_settle" am_Letssettle
  am_Lets_numbers : Addr
  fd_Lets_numbers : FuncData
  F_Lets_numbers : FunV K "numbers" "Lets.numbers" s_Lets_numbers am_Lets_numbers fd_Lets_numbers
  b_Lets_numbers : Binds K fd_Lets_numbers P_Lets_numbers []
  me_Lets_numbers : Meth K a_Lets "numbers" am_Lets_numbers
  am_Lets_start : Addr
  fd_Lets_start : FuncData
  F_Lets_start : FunV K "start" "Lets.start" s_Lets_start am_Lets_start fd_Lets_start
  b_Lets_start : Binds K fd_Lets_start P_Lets_start []
  me_Lets_start : Meth K a_Lets "start" am_Lets_start
  am_Lets_contains : Addr
  fd_Lets_contains : FuncData
  F_Lets_contains : FunV K "__contains__" "Lets.__contains__" s_Lets_contains am_Lets_contains fd_Lets_contains
  b_Lets_contains : Binds K fd_Lets_contains P_Lets_contains []
  me_Lets_contains : Meth K a_Lets "__contains__" am_Lets_contains
  am_Lets_eq : Addr
  fd_Lets_eq : FuncData
  F_Lets_eq : FunV K "__eq__" "Lets.__eq__" s_Lets_eq am_Lets_eq fd_Lets_eq
  b_Lets_eq : Binds K fd_Lets_eq P_Lets_eq []
  me_Lets_eq : Meth K a_Lets "__eq__" am_Lets_eq
  kt_Lets_NoneType : PySem.W.kitOne K (.type "NoneType") (.ref a_Lets) = some false
  ns_Lets_NoneType : PySem.W.subIn K (.type "NoneType") (.ref a_Lets) = some false
  kt_Lets_bool : PySem.W.kitOne K (.type "bool") (.ref a_Lets) = some false
  ns_Lets_bool : PySem.W.subIn K (.type "bool") (.ref a_Lets) = some false
  kt_Lets_int : PySem.W.kitOne K (.type "int") (.ref a_Lets) = some false
  ns_Lets_int : PySem.W.subIn K (.type "int") (.ref a_Lets) = some false
  kt_Lets_str : PySem.W.kitOne K (.type "str") (.ref a_Lets) = some false
  ns_Lets_str : PySem.W.subIn K (.type "str") (.ref a_Lets) = some false
  kt_Lets_list : PySem.W.kitOne K (.type "list") (.ref a_Lets) = some false
  ns_Lets_list : PySem.W.subIn K (.type "list") (.ref a_Lets) = some false
  kt_Lets_tuple : PySem.W.kitOne K (.type "tuple") (.ref a_Lets) = some false
  ns_Lets_tuple : PySem.W.subIn K (.type "tuple") (.ref a_Lets) = some false
  kt_Lets_dict : PySem.W.kitOne K (.type "dict") (.ref a_Lets) = some false
  ns_Lets_dict : PySem.W.subIn K (.type "dict") (.ref a_Lets) = some false
  kb_Lets_int : PySem.W.kitOne K (.ref a_Lets) (.type "int") = some false
  kb_Lets_bool : PySem.W.kitOne K (.ref a_Lets) (.type "bool") = some false
  kb_Lets_list : PySem.W.kitOne K (.ref a_Lets) (.type "list") = some false
  g_MOST_NUMBERS : ∃ tk, mg "MOST_NUMBERS" = some (.int 200 tk)
  g_GREATEST : ∃ tk, mg "GREATEST" = some (.int 1000 tk)
  m_all : mg "all" = none
  m_bool : mg "bool" = none
  m_dict : mg "dict" = none
  m_int : mg "int" = none
  m_isinstance : mg "isinstance" = none
  m_len : mg "len" = none
  m_list : mg "list" = none
  m_max : mg "max" = none
  m_range : mg "range" = none
  m_repr : mg "repr" = none
  m_sorted : mg "sorted" = none
  m_sum : mg "sum" = none
end K09




set_option Elab.async false
set_option linter.all false
set_option maxRecDepth 100000
set_option maxHeartbeats 4000000
namespace K09
open PySem PySem.Spec PyProof.Rows L2 Evl GS
local macro_rules | `(tactic| walk_at "bits") => `(tactic| first | (refine bits64 ?_; omega) | (apply bitsM; (focus walk_at "bits"); (focus walk_at "bits")))
local macro_rules | `(tactic| walk_at "side") => `(tactic| first
  | (apply CMulX.of; (focus walk_at "bits"); (focus walk_at "bits"); decide)
  | (dsimp only; omega) | assumption | decide)
local macro_rules | `(tactic| walk_at "rv") => `(tactic| first | exact rv_I0 | (apply rv_I; walk_at "side"))
local macro_rules | `(tactic| walk_at "ev") => `(tactic| first
  | exact ev_c
  | exact ev_var rfl
  | (apply ev_op; (focus walk_at "ev"); (focus walk_at "ev"); (focus walk_at "rv"))
  | (apply ev_int1; walk_at "ev")
  | (apply ev_max2; (focus walk_at "ev"); (focus walk_at "ev"))
  | (apply ev_bits; walk_at "ev"))
/-! ### the draws -/
def hashI (a b : Int) : Int :=
  ((((a * 1140671 + 27644437 * b * b + 131 * b + 19) % 2147483629) * ((a * 1140671 + 27644437 * b * b + 131 * b + 19) % 2147483629) + 62089 * b + 32416187) % 2147483587 * 48271) % 2147483647
theorem hashI_0 (a b : Int) : 0 ≤ hashI a b := Int.emod_nonneg _ (by decide)
theorem hashI_1 (a b : Int) : hashI a b < 2147483647 := Int.emod_lt_of_pos _ (by decide)
/-- the generator's list: its three numbers, the third at most m -/
def Gn (H : Hp) (g : Addr) (m : Int) : Prop := ∃ a b c : Int, H g = some (.lst [.int a, .int b, .int c]) ∧ 0 ≤ a ∧ a < 10 ^ 600 ∧ 0 ≤ b ∧ b < 2147483647 ∧ 0 ≤ c ∧ c ≤ m
/-- all but the generator is as it was -/
def Off (g : Addr) (H H2 : Hp) : Prop := ∀ x o, x ≠ g → H x = some o → H2 x = some o
theorem Off.refl (g : Addr) (H : Hp) : Off g H H := fun _ _ _ h => h
theorem Off.trans {g : Addr} {H H1 H2 : Hp} (a : Off g H H1) (b : Off g H1 H2) : Off g H H2 := fun x o n h => b x o n (a x o n h)
theorem Off.ex {g : Addr} {H H1 H2 : Hp} (a : Off g H H1) (b : Ex H1 H2) : Off g H H2 := fun x o n h => b x o (a x o n h)
theorem Off.upd {g : Addr} {H H1 : Hp} {o : HO} (a : Off g H H1) : Off g H (upd H1 g o) := fun x u n h => by
  rw [upd_ne n]; exact a x u n h
theorem Off.of {g : Addr} {H H1 : Hp} (a : Ex H H1) : Off g H H1 := fun x o _ h => a x o h
theorem Gn.up {H : Hp} {g : Addr} {m n : Int} (h : Gn H g m) (e : m ≤ n) : Gn H g n := by
  obtain ⟨a, b, c, h1, h2, h3, h4, h5, h6, h7⟩ := h
  exact ⟨a, b, c, h1, h2, h3, h4, h5, h6, by omega⟩
theorem Gn.ex {H H2 : Hp} {g : Addr} {m : Int} (h : Gn H g m) (e : Ex H H2) : Gn H2 g m := by
  obtain ⟨a, b, c, h1, h2⟩ := h
  exact ⟨a, b, c, e _ _ h1, h2⟩
/-- a call of hash gives hashI; what a draw leaves -/
def spHash : Sp := fun vs H Q _ => ∃ a b : Int, vs = [.int a, .int b] ∧ 0 ≤ a ∧ a < 2147483647 ∧ 0 ≤ b ∧ b < 2 ^ 60 ∧
  ∀ H2, Ex H H2 → Q (.int (hashI a b)) H2
def spRand : Sp := fun vs H Q _ => ∃ (g : Addr) (n m : Int), vs = [.ref g, .int n] ∧ Gn H g m ∧ m < 2 ^ 59 ∧ 0 < n ∧ n < 2 ^ 300 ∧
  ∀ r H2, 0 ≤ r → r < n → Off g H H2 → Gn H2 g (m + 11) → Q (.int r) H2
section
variable {P : Program} {w : World} {K : PySem.W.Frag} {mg : Str → Option Value} {base : Heap}
theorem ok_hash (T : Tx K mg) : FnOk P w K mg base CX0 1 T.a_l_hash T.fd_l_hash P_l_hash spHash := by
  refine T.F_l_hash.ok sc_l_hash (fun vs H Q E h => ?_) (fun cdv A outer s H vs Q E hr h => ?_)
  · obtain ⟨a, b, rfl, _⟩ := h
    rfl
  · obtain ⟨a, b, rfl, a0, a1, b0, b1, q⟩ := h
    refine ⟨_, (pss_cons (ps_set (i := 2) nd_l_hash rfl (.inl rfl) (pe_op op_mod (pe_callTy c_int (by rfl) T.m_int (by decide +kernel) (pa_cons (pe_op op_add (pe_op op_add (pe_op op_add (pe_op op_mulX (pv 0) pe_int) (pe_op op_mulX (pe_op op_mulX pe_int (pv 1)) (pv 1))) (pe_op op_mulX pe_int (pv 1))) pe_int) pa_nil)) pe_int))
      (pss_cons (ps_set (i := 2) nd_l_hash rfl (.inl rfl) (pe_op op_mod (pe_callTy c_int (by rfl) T.m_int (by decide +kernel) (pa_cons (pe_op op_add (pe_op op_add (pe_op op_mulX (pv 2) (pv 2)) (pe_op op_mulX pe_int (pv 1))) pe_int) pa_nil)) pe_int))
      (pss_one (ps_ret (pe_op op_mod (pe_callTy c_int (by rfl) T.m_int (by decide +kernel) (pa_cons (pe_op op_mulX (pv 2) pe_int) pa_nil)) pe_int))))), ?_⟩
    unfold hashI at q
    apply q_asg; (focus walk_at "ev")
    intro H1 e1
    have m0 := Int.emod_nonneg (a * 1140671 + 27644437 * b * b + 131 * b + 19) (show (2147483629 : Int) ≠ 0 by decide)
    have m1 := Int.emod_lt_of_pos (a * 1140671 + 27644437 * b * b + 131 * b + 19) (show (0 : Int) < 2147483629 by decide)
    generalize (a * 1140671 + 27644437 * b * b + 131 * b + 19) % 2147483629 = m at m0 m1 q ⊢
    apply q_asg; (focus walk_at "ev")
    intro H2 e2
    have k0 := Int.emod_nonneg (m * m + 62089 * b + 32416187) (show (2147483587 : Int) ≠ 0 by decide)
    have k1 := Int.emod_lt_of_pos (m * m + 62089 * b + 32416187) (show (0 : Int) < 2147483587 by decide)
    generalize (m * m + 62089 * b + 32416187) % 2147483587 = k at k0 k1 q ⊢
    apply s_ret; (focus walk_at "ev")
    intro H3 e3
    exact q H3 ((e1.trans e2).trans e3)
theorem bits_turn {d h : Int} {i : Nat} (hd : Builtin.Int.intBits d ≤ 40 * i) (h0 : 0 ≤ h) (h1 : h < 2147483647) :
    Builtin.Int.intBits (d * 2147483587 + h) ≤ 40 * (i + 1) := by
  have a := PySem.intBits_mul_le hd (bits64 (i := 2147483587) (by omega))
  have b : Builtin.Int.intBits 2147483587 ≤ 31 := PySem.intBits_le_iff.mpr (by decide)
  have c := PySem.intBits_mul_le hd b
  have e : Builtin.Int.intBits h ≤ 31 := PySem.intBits_le_iff.mpr (by omega)
  have f := PySem.intBits_add_le c e
  omega
theorem ok_rand (T : Tx K mg) : FnOk P w K mg base CX0 2 T.a_l_random T.fd_l_random P_l_random spRand := by
  have c_l_hash := ok_hash (P := P) (w := w) (base := base) T
  refine T.F_l_random.ok sc_l_random (fun vs H Q E h => ?_) (fun cdv A outer s H vs Q E hr h => ?_)
  · obtain ⟨g, n, m, rfl, _⟩ := h
    rfl
  · obtain ⟨g, n, m, rfl, ⟨a, b, c, hg, a0, a1, b0, b1, c0, c1⟩, hm, n0, n1, q⟩ := h
    have lg : n.natAbs.log2 < 9000 := by
      rcases Nat.lt_or_ge n.natAbs 1 with z | z
      · omega
      · have : n.natAbs.log2 < 300 := (Nat.log2_lt (by omega)).mpr (by omega)
        omega
    have nb : Builtin.Int.intBits n ≤ 300 := PySem.intBits_le_iff.mpr (by omega)
    refine ⟨_, (pss_cons (ps_if (pt_cmpR op_gt (pe_ix (k_ixl (K := K) rfl) (pv 0) pe_int (fun _ _ => rfl)) pe_int (nomark _)) (pss_cons (ps_set (i := 2) nd_l_random rfl (.inl rfl) (pe_op op_mod (pe_callTy c_int (by rfl) T.m_int (by decide +kernel) (pa_cons (pe_ix (k_ixl (K := K) rfl) (pv 0) pe_int (fun _ _ => rfl)) pa_nil)) (pv 1)))
      (pss_cons (ps_asg (pe_op op_fdivW (pe_ix (k_ixl (K := K) rfl) (pv 0) pe_int (fun _ _ => rfl)) (pv 1)) (pg_sub (pv 0) pe_int set_list))
      (pss_one (ps_ret (pv 2))))) pss_nil)
      (pss_cons (ps_set (i := 2) nd_l_random rfl (.inl rfl) pe_int)
      (pss_cons (ps_for PassesOwn.never rfl (pi_range1 (by rfl) T.m_range (pa_cons (pe_op op_add pe_int (pe_op op_fdivW (pe_bits (pv 1)) pe_int)) pa_nil)) (pg_name (i := 3) nd_l_random rfl (.inl rfl)) (pss_cons (ps_asg (pe_op op_add (pe_ix (k_ixl (K := K) rfl) (pv 0) pe_int (fun _ _ => rfl)) pe_int) (pg_sub (pv 0) pe_int set_list))
      (pss_one (ps_set (i := 2) nd_l_random rfl (.inl rfl) (pe_op op_add (pe_op op_mulX (pv 2) pe_int) (pe_call c_l_hash (hr.mono (by decide)) (by rfl) T.g_l_hash T.F_l_hash.kp T.b_l_hash .nil pass0 (pa_cons (pe_ix (k_ixl (K := K) rfl) (pv 0) pe_int (fun _ _ => rfl)) (pa_cons (pe_ix (k_ixl (K := K) rfl) (pv 0) pe_int (fun _ _ => rfl)) pa_nil))))))))
      (pss_one (ps_ret (pe_op op_mod (pe_callTy c_int (by rfl) T.m_int (by decide +kernel) (pa_cons (pv 2) pa_nil)) (pv 1))))))), ?_⟩
    have g0 : ∀ {H1 : Hp} {x y z : V}, H1 g = some (.lst [x, y, z]) → SqL K H1 g [x, y, z] := fun h => sq_of h
    apply q_when (b := decide (0 < a))
    · apply et_test
      apply ev_op
      (focus (apply ev_ixL (ev_var rfl) ev_c (g0 hg) (atI_nat (j := 0) rfl)))
      (focus exact ev_c)
      (focus exact rv_I0)
    · intro hb H1 e1
      have ha := of_decide_eq_true hb
      have hg1 := e1 _ _ hg
      apply q_asg
      · apply ev_op
        · apply ev_int1
          exact ev_ixL (ev_var rfl) ev_c (g0 hg1) (atI_nat (j := 0) rfl)
        · exact ev_var rfl
        · exact rv_I n0
      intro H2 e2
      have hg2 := e2 _ _ hg1
      apply q_setL (j := 0) hg2
      · apply ev_op
        · exact ev_ixL (ev_var rfl) ev_c (g0 hg2) (atI_nat (j := 0) rfl)
        · exact ev_var rfl
        · exact rv_I ⟨n0, lg⟩
      · exact ev_var rfl
      · exact ev_c
      · show 0 < 3
        decide
      intro H3 e3
      apply s_ret
      · exact ev_var rfl
      intro H4 e4
      refine q _ H4 (Int.emod_nonneg _ (by omega)) (Int.emod_lt_of_pos _ n0) ?_ ?_
      · exact ((Off.of ((e1.trans e2).trans e3)).upd).ex e4
      · refine ⟨a / n, b, c, e4 _ _ upd_same, Int.ediv_nonneg a0 (by omega), ?_, b0, b1, c0, by omega⟩
        exact Int.lt_of_le_of_lt (Int.ediv_le_self n a0) a1
    · intro hb H1 e1
      have hg1 := e1 _ _ hg
      apply q_asg
      · exact ev_c
      intro H2 e2
      have hg2 := e2 _ _ hg1
      have tb : (Builtin.Int.intBits n : Int) / 30 ≤ 10 := by omega
      have tb0 : 0 ≤ (Builtin.Int.intBits n : Int) / 30 := by omega
      apply q_forR1 (n := 1 + (Builtin.Int.intBits n : Int) / 30)
      · apply ea_cons
        · apply ev_op
          · exact ev_c
          · apply ev_op
            · exact ev_bits (ev_var rfl)
            · exact ev_c
            · exact rv_I ⟨by decide, by decide⟩
          · exact rv_I0
        · exact ea_nil
      · omega
      rotate_left 3
      · exact fun i σ H3 => ∃ (d : Int) (y : Option V) (c3 : Int), σ = [some (.ref g), some (.int n), some (.int d), y] ∧ Builtin.Int.intBits d ≤ 40 * i ∧
          Off g H H3 ∧ H3 g = some (.lst [.int a, .int b, .int c3]) ∧ 0 ≤ c3 ∧ c3 ≤ c + i
      · intro H3 e3
        refine ⟨0, none, c, rfl, by decide, Off.of ((e1.trans e2).trans e3), e3 _ _ hg2, c0, by omega⟩
      · rintro i σ3 H3 hi ⟨d, y, c3, rfl, hd, of, hg3, c30, c31⟩
        apply q_setL (j := 2) hg3
        · apply ev_op
          · exact ev_ixL (ev_var rfl) ev_c (g0 hg3) (atI_nat (j := 2) rfl)
          · exact ev_c
          · exact rv_I0
        · exact ev_var rfl
        · exact ev_c
        · show 2 < 3
          decide
        intro H4 e4
        have hg4 : (upd H4 g (.lst [.int a, .int b, .int (c3 + 1)])) g = some (.lst [.int a, .int b, .int (c3 + 1)]) := upd_same
        apply s_asg (v := .int (d * 2147483587 + hashI b (c3 + 1)))
        · apply ev_op
          · apply ev_op
            · exact ev_var rfl
            · exact ev_c
            · apply rv_I
              exact CMulX.of hd (bits64 (by omega)) (by omega)
          · apply ev_own
            · apply ea_cons
              · exact ev_ixL (ev_var rfl) ev_c (g0 hg4) (atI_nat (j := 1) rfl)
              apply ea_cons
              · exact ev_ixL (ev_var rfl) ev_c (g0 hg4) (atI_nat (j := 2) rfl)
              exact ea_nil
            · intro H5 e5 Q2 q2
              exact ⟨b, c3 + 1, rfl, b0, b1, by omega, by omega, q2⟩
          · exact rv_I0
        intro H5 e5
        refine ⟨_, _, c3 + 1, rfl, bits_turn hd (hashI_0 _ _) (hashI_1 _ _), ?_, e5 _ _ hg4, by omega, by omega⟩
        exact ((of.ex e4).upd).ex e5
      · rintro σ3 H3 ⟨d, y, c3, rfl, hd, of, hg3, c30, c31⟩
        apply s_ret
        · apply ev_op
          · apply ev_int1
            exact ev_var rfl
          · exact ev_var rfl
          · exact rv_I n0
        intro H4 e4
        refine q _ H4 (Int.emod_nonneg _ (by omega)) (Int.emod_lt_of_pos _ n0) (of.ex e4) ⟨a, b, c3, e4 _ _ hg3, a0, a1, b0, b1, c30, ?_⟩
        omega
end
end K09




set_option Elab.async false
set_option linter.all false
set_option maxRecDepth 100000
set_option maxHeartbeats 4000000
namespace K09
open PySem PySem.Spec PyProof.Rows L2 Evl GS
local macro_rules | `(tactic| walk_at "bits") => `(tactic| first | (refine bits64 ?_; omega) | (apply bitsM; (focus walk_at "bits"); (focus walk_at "bits")))
local macro_rules | `(tactic| walk_at "side") => `(tactic| first
  | (apply CMulX.of; (focus walk_at "bits"); (focus walk_at "bits"); decide)
  | (dsimp only; omega) | assumption | decide)
local macro_rules | `(tactic| walk_at "rv") => `(tactic| first | exact rv_I0 | (apply rv_I; walk_at "side"))
local macro_rules | `(tactic| walk_at "ev") => `(tactic| first
  | exact ev_c
  | exact ev_var rfl
  | (apply ev_op; (focus walk_at "ev"); (focus walk_at "ev"); (focus walk_at "rv"))
  | (apply ev_int1; walk_at "ev")
  | (apply ev_max2; (focus walk_at "ev"); (focus walk_at "ev"))
  | (apply ev_bits; walk_at "ev"))

def spCell (K : PySem.W.Frag) : Sp := fun vs H Q _ => ∃ (a : Addr) (ns : List Int) (i : Nat), vs = [.ref a, .int i] ∧ SqL K H a (ns.map V.int) ∧
  ∀ (r : Int) H2, Ex H H2 → Q (.int r) H2
def spGen (K : PySem.W.Frag) : Sp := fun vs H Q _ => ∃ (a : Addr) (ns : List Int) (i : Nat), vs = [.ref a, .int i] ∧ SqL K H a (ns.map V.int) ∧ i < 1000 ∧
  ∀ p H2, H p = none → Ex H H2 → Gn H2 p (1000 * i) → Q (.ref p) H2
section
variable {P : Program} {w : World} {K : PySem.W.Frag} {mg : Str → Option Value} {base : Heap}
theorem ok_cell (T : Tx K mg) : FnOk P w K mg base CX0 1 T.a_l_cell T.fd_l_cell P_l_cell (spCell K) := by
  refine T.F_l_cell.ok sc_l_cell (fun vs H Q E h => ?_) (fun cdv A outer s H vs Q E hr h => ?_)
  · obtain ⟨a, ns, i, rfl, _⟩ := h
    rfl
  · obtain ⟨a, ns, i, rfl, hs, q⟩ := h
    refine ⟨_, (pss_cons (ps_if (pt_cmpR op_lt (pv 1) (pe_callB (k_len (K := K) rfl) (by rfl) T.m_len (by decide +kernel) (pa_cons (pv 0) pa_nil)) (nomark _)) (pss_one (ps_ret (pe_ix (k_ixl (K := K) rfl) (pv 0) (pv 1) (fun _ _ => rfl)))) pss_nil)
      (pss_one (ps_ret (pe_op op_mod (pe_callB (k_sum (K := K) rfl rfl) (by rfl) T.m_sum (by decide +kernel) (pa_cons (pe_slice (k_sll (K := K) rfl) (pv 0) po_none (po_some pe_int)) pa_nil)) pe_int)))), ?_⟩
    apply q_when (b := decide ((i : Int) < (ns.map V.int).length))
    · apply et_test
      apply ev_op
      · exact ev_var rfl
      · exact ev_len (ev_var rfl) hs
      · exact rv_I0
    · intro hb H1 e1
      have hl := of_decide_eq_true hb
      rw [List.length_map] at hl
      have hi : i < ns.length := by omega
      apply s_ret
      · exact ev_ixL (ev_var rfl) (ev_var rfl) (ex_l e1 hs) (atI_int (List.getElem?_eq_getElem hi))
      · intro H2 e2
        exact q _ H2 (e1.trans e2)
    · intro hb H1 e1
      apply s_ret
      · apply ev_op
        · refine ev_sumN (ns := (ns.drop (HT.sIx (ns.map V.int).length 0 none)).take (HT.sIx (ns.map V.int).length (ns.map V.int).length (some 1) - HT.sIx (ns.map V.int).length 0 none)) ?_
          rw [List.map_take, List.map_drop]
          exact el_sl (ev_var rfl) eo_none (eo_some ev_c) (ex_l e1 hs)
        · exact ev_c
        · exact rv_I (by decide)
      · intro H2 e2
        exact q _ H2 (e1.trans e2)
theorem ok_gen (T : Tx K mg) : FnOk P w K mg base CX0 2 T.a_l_generator T.fd_l_generator P_l_generator (spGen K) := by
  have c_l_cell := ok_cell (P := P) (w := w) (base := base) T
  refine T.F_l_generator.ok sc_l_generator (fun vs H Q E h => ?_) (fun cdv A outer s H vs Q E hr h => ?_)
  · obtain ⟨a, ns, i, rfl, _⟩ := h
    rfl
  · obtain ⟨a, ns, i, rfl, hs, hi, q⟩ := h
    refine ⟨_, (pss_cons (ps_set (i := 2) nd_l_generator rfl (.inl rfl) (pe_call c_l_cell (hr.mono (by decide)) (by rfl) T.g_l_cell T.F_l_cell.kp T.b_l_cell .nil pass0 (pa_cons (pv 0) (pa_cons (pv 1) pa_nil))))
      (pss_one (ps_ret (pe_lst (pa_cons (pe_op op_mod (pe_callTy c_int (by rfl) T.m_int (by decide +kernel) (pa_cons (pe_callB (c_max2 rfl) (by rfl) T.m_max (by decide +kernel) (pa_cons (pe_op op_sub (pv 2) (pe_op op_powX pe_int pe_int)) (pa_cons pe_int pa_nil))) pa_nil)) (pe_op op_powX (pe_op op_powX pe_int pe_int) pe_int)) (pa_cons (pe_op op_mod (pe_callTy c_int (by rfl) T.m_int (by decide +kernel) (pa_cons (pv 2) pa_nil)) pe_int) (pa_cons (pe_op op_mulX pe_int (pv 1)) pa_nil))))))), ?_⟩
    apply q_set
    refine ⟨.ref a, rfl, .int i, rfl, a, ns, i, rfl, hs, fun r H1 e1 => ?_⟩
    have p0 : (0 : Int) < ((10 : Int) ^ Int.toNat 60) ^ Int.toNat 10 := by decide +kernel
    have pe : ((10 : Int) ^ Int.toNat 60) ^ Int.toNat 10 = 10 ^ 600 := by decide +kernel
    apply s_retL
    · apply el_lst
      · apply ea_cons
        · apply ev_op
          · apply ev_int1
            apply ev_max2
            · apply ev_op
              · exact ev_var rfl
              · apply ev_op
                · exact ev_c
                · exact ev_c
                · exact rv_I ⟨by decide, by decide +kernel⟩
              · exact rv_I0
            · exact ev_c
          · apply ev_op
            · apply ev_op
              · exact ev_c
              · exact ev_c
              · exact rv_I ⟨by decide, by decide +kernel⟩
            · exact ev_c
            · exact rv_I ⟨by decide, by decide +kernel⟩
          · exact rv_I p0
        apply ea_cons
        · apply ev_op
          · apply ev_int1
            exact ev_var rfl
          · exact ev_c
          · exact rv_I (by decide)
        apply ea_cons
        · apply ev_op
          · exact ev_c
          · exact ev_var rfl
          · apply rv_I
            exact CMulX.of (bits64 (by omega)) (bits64 (by omega)) (by decide)
        exact ea_nil
      · show 3 ≤ 100000
        decide
    intro p H2 np e2 hp
    refine q p H2 (free_of e1 np) (e1.trans e2) ⟨_, _, _, hp, Int.emod_nonneg _ (by rw [pe]; decide), ?_, Int.emod_nonneg _ (by decide), Int.emod_lt_of_pos _ (by decide), by omega, Int.le_refl _⟩
    rw [← pe]
    exact Int.emod_lt_of_pos _ p0
end
end K09




set_option Elab.async false
set_option linter.all false
set_option maxRecDepth 100000
set_option maxHeartbeats 4000000
namespace K09
open PySem PySem.Spec PyProof.Rows L2 Evl GS
local macro_rules | `(tactic| walk_at "bits") => `(tactic| first | (refine bits64 ?_; omega) | (apply bitsM; (focus walk_at "bits"); (focus walk_at "bits")))
local macro_rules | `(tactic| walk_at "side") => `(tactic| first
  | (apply CMulX.of; (focus walk_at "bits"); (focus walk_at "bits"); decide)
  | (dsimp only; omega) | assumption | decide)
local macro_rules | `(tactic| walk_at "rv") => `(tactic| first | exact rv_I0 | (apply rv_I; walk_at "side"))
local macro_rules | `(tactic| walk_at "ev") => `(tactic| first
  | exact ev_c
  | exact ev_var rfl
  | (apply ev_op; (focus walk_at "ev"); (focus walk_at "ev"); (focus walk_at "rv"))
  | (apply ev_int1; walk_at "ev")
  | (apply ev_max2; (focus walk_at "ev"); (focus walk_at "ev"))
  | (apply ev_bits; walk_at "ev"))

/-! ### what may be told -/
def isWhole : PyData → Bool
  | .int _ => true
  | _ => false
def intD : PyData → Int
  | .int i => i
  | _ => 0
def intsD (ds : List PyData) : List Int := ds.map intD
def mayD (d : PyData) : Bool := isWhole d && (decide (1 ≤ intD d) && decide (intD d ≤ 1000))
def areD : PyData → Bool
  | .list ds => decide (ds.length ≤ 200) && ds.all mayD
  | _ => false
theorem rp_ints {K : PySem.W.Frag} {H : Hp} : ∀ {ns : List Int} {xs : List V}, RpAll K H xs (ns.map PyData.int) → xs = ns.map V.int
  | [], [], _ => rfl
  | [], _ :: _, h => by cases h
  | n :: ns, [], h => by cases h
  | n :: ns, x :: xs, h => by
    cases h with
    | cons h hs =>
      cases h
      rw [rp_ints hs]
      rfl
/-- of one datum: a truth value -/
def spTell (K : PySem.W.Frag) (f : PyData → Bool) : Sp := fun vs H Q _ => ∃ v d, vs = [v] ∧ Rp K H v d ∧ RetV (.bl (f d)) H Q
def mW : PyData → Bool
  | .int _ => true
  | .bool _ => true
  | _ => false
def mB : PyData → Bool
  | .bool _ => true
  | _ => false
def mL : PyData → Bool
  | .list _ => true
  | _ => false
theorem kWhole (d : PyData) : kitB (tyD d) "int" = some (mW d) := by
  cases d with
  | none => exact (by decide +kernel : kitB "NoneType" "int" = some false)
  | bool b => exact (by decide +kernel : kitB "bool" "int" = some true)
  | int b => exact (by decide +kernel : kitB "int" "int" = some true)
  | str b => exact (by decide +kernel : kitB "str" "int" = some false)
  | list b => exact (by decide +kernel : kitB "list" "int" = some false)
  | tuple b => exact (by decide +kernel : kitB "tuple" "int" = some false)
  | dict b => exact (by decide +kernel : kitB "dict" "int" = some false)
theorem kBool (d : PyData) : kitB (tyD d) "bool" = some (mB d) := by
  cases d with
  | none => exact (by decide +kernel : kitB "NoneType" "bool" = some false)
  | bool b => exact (by decide +kernel : kitB "bool" "bool" = some true)
  | int b => exact (by decide +kernel : kitB "int" "bool" = some false)
  | str b => exact (by decide +kernel : kitB "str" "bool" = some false)
  | list b => exact (by decide +kernel : kitB "list" "bool" = some false)
  | tuple b => exact (by decide +kernel : kitB "tuple" "bool" = some false)
  | dict b => exact (by decide +kernel : kitB "dict" "bool" = some false)
theorem kList (d : PyData) : kitB (tyD d) "list" = some (mL d) := by
  cases d with
  | none => exact (by decide +kernel : kitB "NoneType" "list" = some false)
  | bool b => exact (by decide +kernel : kitB "bool" "list" = some false)
  | int b => exact (by decide +kernel : kitB "int" "list" = some false)
  | str b => exact (by decide +kernel : kitB "str" "list" = some false)
  | list b => exact (by decide +kernel : kitB "list" "list" = some true)
  | tuple b => exact (by decide +kernel : kitB "tuple" "list" = some false)
  | dict b => exact (by decide +kernel : kitB "dict" "list" = some false)
section
variable {K : PySem.W.Frag} {σ : L2.St} {H : Hp} {te : TE}
/-- isinstance of a value whose type is known -/
theorem ev_isTy {T : String} {v : V} {t : Value} {b : Bool} (h : Ev te σ H v) (ty : ∀ H1, Ex H H1 → TyX K H1 v t) (hk : PySem.W.kitOne K t (.type T) = some b) : Ev (tCB (rIsAny K) (tCons te (tCons (tC (.ty T)) tNil))) σ H (.bl b) := fun H1 e Q q =>
  h H1 e _ fun H2 e2 => .inl ⟨v, .ty T, _, _, b, rfl, .ty T, ty H2 (e.trans e2), hk, q H2 e2⟩
end
/-- a value of a known type: whether it is a whole number -/
def spWhole (K : PySem.W.Frag) : Sp := fun vs H Q _ => ∃ (v : V) (t : Value) (a b : Bool), vs = [v] ∧ (∀ H1, Ex H H1 → TyX K H1 v t) ∧ PySem.W.kitOne K t (.type "int") = some a ∧ PySem.W.kitOne K t (.type "bool") = some b ∧ RetV (.bl (a && !b)) H Q
section
variable {P : Program} {w : World} {K : PySem.W.Frag} {mg : Str → Option Value} {base : Heap}
theorem ok_whole (T : Tx K mg) : FnOk P w K mg base CX0 1 T.a_is_whole T.fd_is_whole P_is_whole (spWhole K) := by
  refine T.F_is_whole.ok sc_is_whole (fun vs H Q E h => ?_) (fun cdv A outer s H vs Q E hr h => ?_)
  · obtain ⟨v, t, a, b, rfl, _⟩ := h
    rfl
  · obtain ⟨v, t, a, b, rfl, ty, k1, k2, q⟩ := h
    refine ⟨_, (pss_one (ps_ret (pe_and (pe_callB (k_isi (K := K) rfl) (by rfl) T.m_isinstance (by decide +kernel) (pa_cons (pv 0) (pa_cons (pe_bltn (v := .ty "int") (by rfl) T.m_int (by decide +kernel) rfl) pa_nil))) (pe_one (pe_not (pe_callB (k_isi (K := K) rfl) (by rfl) T.m_isinstance (by decide +kernel) (pa_cons (pv 0) (pa_cons (pe_bltn (v := .ty "bool") (by rfl) T.m_bool (by decide +kernel) rfl) pa_nil)))))))), ?_⟩
    apply s_ret (v := .bl (a && !b))
    · apply ev_andV
      · exact ev_isTy (ev_var rfl) ty k1
      · intro _
        apply ev_notV
        exact ev_isTy (ev_var rfl) ty k2
    · exact fun H2 e2 => q H2 e2
/-- of a datum -/
theorem go_whole {v : V} {d : PyData} {H : Hp} {Q : VK} {E : XK} (h : Rp K H v d) (q : RetV (.bl (isWhole d)) H Q) : spWhole K [v] H Q E := by
  refine ⟨v, _, mW d, mB d, rfl, fun H1 e => (h.to e).ty, kit_ty (kWhole d), kit_ty (kBool d), ?_⟩
  have e : isWhole d = (mW d && !mB d) := by
    cases d <;> rfl
  rw [← e]
  exact q
theorem ok_may (T : Tx K mg) : FnOk P w K mg base CX0 2 T.a_may_be_told T.fd_may_be_told P_may_be_told (spTell K mayD) := by
  have c_is_whole := ok_whole (P := P) (w := w) (base := base) T
  refine T.F_may_be_told.ok sc_may_be_told (fun vs H Q E h => ?_) (fun cdv A outer s H vs Q E hr h => ?_)
  · obtain ⟨v, d, rfl, _⟩ := h
    rfl
  · obtain ⟨v, d, rfl, hd, q⟩ := h
    refine ⟨_, (pss_one (ps_ret (pe_and (pe_call c_is_whole (hr.mono (by decide)) (by rfl) T.g_is_whole T.F_is_whole.kp T.b_is_whole .nil pass0 (pa_cons (pv 0) pa_nil)) (pe_one (pe_chain op_le op_le pe_int (pv 0) (pe_const (by rfl) T.g_GREATEST)))))), ?_⟩
    apply s_ret (v := .bl (mayD d))
    · unfold mayD
      apply ev_andV
      · refine ev_own (ea_cons (ev_var rfl) ea_nil) fun H1 e1 Q2 q2 => go_whole (hd.to e1) q2
      · intro hw
        cases d with
        | int i =>
          cases hd
          exact ev_chain (x := .int 1) (y := .int i) (z := .int 1000) ev_c (ev_var rfl) ev_c rv_I0 fun _ => rv_I0
        | _ => cases hw
    · exact fun H2 e2 => q H2 e2
end
end K09




set_option Elab.async false
set_option linter.all false
set_option maxRecDepth 100000
set_option maxHeartbeats 4000000
namespace K09
open PySem PySem.Spec PyProof.Rows L2 Evl GS
local macro_rules | `(tactic| walk_at "bits") => `(tactic| first | (refine bits64 ?_; omega) | (apply bitsM; (focus walk_at "bits"); (focus walk_at "bits")))
local macro_rules | `(tactic| walk_at "side") => `(tactic| first
  | (apply CMulX.of; (focus walk_at "bits"); (focus walk_at "bits"); decide)
  | (dsimp only; omega) | assumption | decide)
local macro_rules | `(tactic| walk_at "rv") => `(tactic| first | exact rv_I0 | (apply rv_I; walk_at "side"))
local macro_rules | `(tactic| walk_at "ev") => `(tactic| first
  | exact ev_c
  | exact ev_var rfl
  | (apply ev_op; (focus walk_at "ev"); (focus walk_at "ev"); (focus walk_at "rv"))
  | (apply ev_int1; walk_at "ev")
  | (apply ev_max2; (focus walk_at "ev"); (focus walk_at "ev"))
  | (apply ev_bits; walk_at "ev"))

theorem eqvAll_ints : ∀ (a b : List Int), PyData.eqvAll (a.map .int) (b.map .int) = decide (a = b)
  | [], [] => rfl
  | [], _ :: _ => rfl
  | _ :: _, [] => rfl
  | x :: a, y :: b => by
    show ((x == y) && PyData.eqvAll (a.map .int) (b.map .int)) = _
    rw [eqvAll_ints a b]
    by_cases h : x = y
    · subst h
      by_cases h2 : a = b
      · subst h2; simp
      · simp [h2]
    · simp [h]
theorem eqv_ints (a b : List Int) : PyData.eqv (.list (a.map .int)) (.list (b.map .int)) = decide (a = b) := eqvAll_ints a b
theorem lay_ints : ∀ a : List Int, PyData.canLayAll0 (a.map .int) = true
  | [] => rfl
  | x :: a => by
    show (true && PyData.canLayAll0 (a.map .int)) = true
    rw [lay_ints a]; rfl
theorem depth_ints : ∀ a : List Int, PyData.depthAll (a.map .int) = 0
  | [] => rfl
  | x :: a => by
    show max 0 (PyData.depthAll (a.map .int)) = 0
    rw [depth_ints a]; rfl
theorem shaped_ints (a : List Int) : SeqAt.shaped (.list (a.map .int)) = true := by
  show (PyData.canLayAll0 (a.map .int) && decide (PyData.depthAll (a.map .int) + 1 ≤ 64)) = true
  rw [lay_ints, depth_ints]; rfl
theorem nodict_ints' : ∀ a : List Int, PyData.hasDictAll (a.map .int) = false
  | [] => rfl
  | x :: a => by
    show (false || PyData.hasDictAll (a.map .int)) = false
    rw [nodict_ints' a]; rfl
theorem nodict_ints (a : List Int) : (PyData.list (a.map .int)).hasDict = false := nodict_ints' a
/-- an error leaves, with its value -/
def RaisesV (C : Addr) (v : V) (H : Hp) (E : XK) : Prop := ∀ dd H2, H dd = none → Ex H H2 → H2 dd = some (.xd [("value", v)]) → E (.ref C) (some dd) H2
def spInit (C : Addr) : Sp := fun vs H Q _ => ∃ (a : Addr) (v : V), vs = [.ref a, v] ∧ H a = some (exo a C none) ∧
  ∀ dx, H dx = none → dx ≠ a → Q .non (upd (upd H dx (exd dx [("value", v)])) a (exo a C (some dx)))
/-- a check: nothing, or the error with the argument -/
def spNeed (K : PySem.W.Frag) (C : Addr) (f : PyData → Bool) : Sp := fun vs H Q E => ∃ v d, vs = [v] ∧ Rp K H v d ∧
  (f d = true → RetV .non H Q) ∧ (f d = false → RaisesV C v H E)
theorem tMkO_of {C : Addr} {ta : TA} {σ : L2.St} {H : Hp} {v : V} {Q : XK} (ha : EvA ta σ H [v])
    (q : RaisesV C v H Q) : tMkO C (spInit C) [] ta σ H Q := by
  refine ha H (Ex.refl H) _ fun H1 e1 => ⟨by show 1 ≤ 1000; decide, fun a na => ⟨a, v, rfl, upd_same, fun dx hdx nd => ⟨rfl, dx, [("value", v)], upd_same, ?_, ?_, ?_⟩⟩⟩
  · rw [upd_ne nd, upd_same]
  · rw [upd_ne nd] at hdx
    exact hdx
  · rw [upd_ne nd] at hdx
    refine q dx _ (free_of e1 hdx) (fun x o hx => ?_) upd_same
    have h1 := e1 x o hx
    have xa : x ≠ a := ne_of_none h1 na
    have xd : x ≠ dx := ne_of_none h1 hdx
    rw [upd_ne xd, del_ne xa, upd_ne xa, upd_ne xd, upd_ne xa]
    exact h1
section
variable {P : Program} {w : World} {K : PySem.W.Frag} {mg : Str → Option Value} {base : Heap}
theorem ok_initL (T : Tx K mg) : FnOk P w K mg base CX0 1 T.ai_InvalidList T.fdi_InvalidList P_InvalidList_init (spInit T.a_InvalidList) := by
  refine fun_v T.Fi_InvalidList sc_InvalidList_init (fun vs H Q E h => ?_) (fun cdv A outer s H vs Q E hr h => ?_)
  · obtain ⟨a, v, rfl, _⟩ := h
    rfl
  · obtain ⟨a, v, rfl, hs, q⟩ := h
    refine ⟨_, (pss_one (ps_ost (pv 0) (pv 1))), ?_⟩
    exact ⟨v, rfl, .ref a, rfl, a, _, rfl, T.x_InvalidList, T.nv_InvalidList, .inl ⟨hs, fun dx h1 h2 => q dx h1 h2⟩⟩
theorem ok_initN (T : Tx K mg) : FnOk P w K mg base CX0 1 T.ai_InvalidNumber T.fdi_InvalidNumber P_InvalidNumber_init (spInit T.a_InvalidNumber) := by
  refine fun_v T.Fi_InvalidNumber sc_InvalidNumber_init (fun vs H Q E h => ?_) (fun cdv A outer s H vs Q E hr h => ?_)
  · obtain ⟨a, v, rfl, _⟩ := h
    rfl
  · obtain ⟨a, v, rfl, hs, q⟩ := h
    refine ⟨_, (pss_one (ps_ost (pv 0) (pv 1))), ?_⟩
    exact ⟨v, rfl, .ref a, rfl, a, _, rfl, T.x_InvalidNumber, T.nv_InvalidNumber, .inl ⟨hs, fun dx h1 h2 => q dx h1 h2⟩⟩
/-- a call that tells of one datum -/
theorem ev_tell {σ : L2.St} {H : Hp} {te : TE} {f : PyData → Bool} {d : PyData} {E : XK} (h : EvD K te σ H d) : Ev (tCall (spTell K f) [] E (tCons te tNil)) σ H (.bl (f d)) := by
  apply ev_ownD (eda_cons h eda_nil)
  rintro vs H1 e1 hv Q2 q2
  cases hv with
  | cons hv hn =>
    cases hn
    exact ⟨_, d, rfl, hv, q2⟩
theorem ok_are (T : Tx K mg) : FnOk P w K mg base CX0 3 T.a_are_numbers T.fd_are_numbers P_are_numbers (spTell K areD) := by
  have c_may_be_told := ok_may (P := P) (w := w) (base := base) T
  refine T.F_are_numbers.ok sc_are_numbers (fun vs H Q E h => ?_) (fun cdv A outer s H vs Q E hr h => ?_)
  · obtain ⟨v, d, rfl, _⟩ := h
    rfl
  · obtain ⟨v, d, rfl, hd, q⟩ := h
    refine ⟨_, (pss_cons (ps_if (PW.pt (pw_or (pt_not (pt_val (pe_callB (k_isi (K := K) rfl) (by rfl) T.m_isinstance (by decide +kernel) (pa_cons (pv 0) (pa_cons (pe_bltn (v := .ty "list") (by rfl) T.m_list (by decide +kernel) rfl) pa_nil))))) (pw_or1 (pt_cmpR op_gt (pe_callB (k_len (K := K) rfl) (by rfl) T.m_len (by decide +kernel) (pa_cons (pv 0) pa_nil)) (pe_const (by rfl) T.g_MOST_NUMBERS) (nomark _))))) (pss_one (ps_ret pe_bl)) pss_nil)
      (pss_one (ps_ret (pe_callB (k_all (K := K) rfl rfl) (by rfl) T.m_all (by decide +kernel) (pa_cons (pe_lc (own := [("item", 1)]) rfl nd_are_numbers (k_pil (K := K) rfl (pv 0)) (blkOk_by (N := N_are_numbers) (sc := (defScope s_are_numbers)) (by decide +kernel)) (fun _ _ _ _ _ => pg_name (i := 1) nd_are_numbers rfl (.inl rfl)) (fun _ _ _ _ _ => pts_nil) (fun _ _ _ _ _ => (pe_call c_may_be_told (hr.mono (by decide)) (by rfl) T.g_may_be_told T.F_may_be_told.kp T.b_may_be_told .nil pass0 (pa_cons (pv 1) pa_nil)))) pa_nil))))), ?_⟩
    cases d with
    | list ds =>
      cases hd with
      | @lst a xs ds hx hs =>
        have hl := hs.length
        apply q_when (b := decide (200 < (xs.length : Int)))
        · have z : EvT (tNot (tB (tCB (rIsAny K) (tCons (tVar 0) (tCons (tC (.ty "list")) tNil))))) (L2.start N_are_numbers [.ref a]) H false := by
            exact et_is (et_not (et_B (ev_isT (ed_var rfl (.lst hx hs)) (kList _)))) rfl
          refine et_is (a := false || decide (200 < (xs.length : Int))) (et_or z fun _ => et_test ?_) rfl
          apply ev_op
          · exact ev_len (ev_var rfl) hx
          · exact ev_c
          · exact rv_I0
        · intro hb H1 e1
          have h2 := of_decide_eq_true hb
          apply s_ret
          · exact ev_c
          · intro H2 e2
            have e : areD (.list ds) = false := by
              show (decide (ds.length ≤ 200) && ds.all mayD) = false
              rw [decide_eq_false (by omega), Bool.false_and]
            rw [e] at q
            exact q H2 (e1.trans e2)
        · intro hb H1 e1
          have h2 := of_decide_eq_false hb
          apply s_ret (v := .bl (areD (.list ds)))
          · have e : areD (.list ds) = ((List.range ds.length).map fun i => mayD (ds.getD i .none)).all id := by
              show (decide (ds.length ≤ 200) && ds.all mayD) = _
              rw [decide_eq_true (by omega), Bool.true_and, range_getD ds .none mayD, List.all_map]
              rfl
            rw [e]
            apply ev_all
            have e3 : ((List.range ds.length).map fun i => mayD (ds.getD i .none)).map V.bl = given xs.length (fun _ => true) (fun i => .bl (mayD (ds.getD i .none))) := by
              rw [given_all, hl, List.map_map]
              rfl
            rw [e3]
            apply el_lcL (a := a)
            · exact ev_var rfl
            · exact ex_l e1 hx
            · omega
            · intro x; rfl
            · intro j x H3 e3 hj H4 e4 Q4 q4
              exact q4 H4 (Ex.refl _)
            · intro j x H3 e3 hj _
              obtain ⟨d, hdj, hr⟩ := (hs.to (e1.trans e3)).get hj
              have e5 : ds.getD j .none = d := by
                rw [List.getD_eq_getElem?_getD, hdj]; rfl
              rw [e5]
              apply ev_ownD (eda_cons (ed_var rfl hr) eda_nil)
              rintro vs H5 e5 hv Q2 q2
              cases hv with
              | cons hv hn =>
                cases hn
                exact ⟨_, d, rfl, hv, q2⟩
          · exact fun H2 e2 => q H2 (e1.trans e2)
    | _ =>
      apply q_when (b := true)
      · have z := et_not (et_B (ev_isT (K := K) (ed_var (σ := L2.start N_are_numbers [v]) (i := 0) rfl hd) (kList _)))
        refine et_is (a := true || true) (et_or z fun h => by cases h) rfl
      · intro _ H1 e1
        apply s_ret
        · exact ev_c
        · exact fun H2 e2 => q H2 (e1.trans e2)
      · intro h
        cases h
end
end K09




set_option Elab.async false
set_option linter.all false
set_option maxRecDepth 100000
set_option maxHeartbeats 4000000
namespace K09
open PySem PySem.Spec PyProof.Rows L2 Evl GS
local macro_rules | `(tactic| walk_at "bits") => `(tactic| first | (refine bits64 ?_; omega) | (apply bitsM; (focus walk_at "bits"); (focus walk_at "bits")))
local macro_rules | `(tactic| walk_at "side") => `(tactic| first
  | (apply CMulX.of; (focus walk_at "bits"); (focus walk_at "bits"); decide)
  | (dsimp only; omega) | assumption | decide)
local macro_rules | `(tactic| walk_at "rv") => `(tactic| first | exact rv_I0 | (apply rv_I; walk_at "side"))
local macro_rules | `(tactic| walk_at "ev") => `(tactic| first
  | exact ev_c
  | exact ev_var rfl
  | (apply ev_op; (focus walk_at "ev"); (focus walk_at "ev"); (focus walk_at "rv"))
  | (apply ev_int1; walk_at "ev")
  | (apply ev_max2; (focus walk_at "ev"); (focus walk_at "ev"))
  | (apply ev_bits; walk_at "ev"))

theorem not_false' {b : Bool} (h : (!b) = false) : b = true := by cases b with | true => rfl | false => cases h
/-! ### a set of counts in the heap -/
def stV : Option Int → V
  | none => .non
  | some s => .int s
def stD : Option Int → PyData
  | none => .none
  | some s => .int s
theorem stRp {K : PySem.W.Frag} {H : Hp} (st : Option Int) : Rp K H (stV st) (stD st) := by
  cases st with
  | none => exact .non
  | some s => exact .int s
def kS : Str := "_start"
def kN : Str := "_numbers"
def kT : Str := "_table"
def lf (st : Option Int) (nn tt : Addr) : List (Str × V) := [(kS, stV st), (kN, .ref nn), (kT, .ref tt)]
theorem kSN : ¬ kS = kN := by decide +kernel
theorem kST : ¬ kS = kT := by decide +kernel
theorem kNT : ¬ kN = kT := by decide +kernel
theorem pf2 (u v : V) : putF kN v [(kS, u)] = [(kS, u), (kN, v)] := by
  unfold putF
  rw [if_neg kSN]
  rfl
theorem pf3 (u v x : V) : putF kT x [(kS, u), (kN, v)] = [(kS, u), (kN, v), (kT, x)] := by
  unfold putF
  rw [if_neg kST]
  unfold putF
  rw [if_neg kNT]
  rfl
theorem lk_ne {k g : Str} (h : ¬ g = k) (v : V) (r : List (Str × V)) : ((g, v) :: r).lookup k = r.lookup k := by
  have e : (k == g) = false := by
    rw [beq_eq_false_iff_ne]
    exact fun z => h z.symm
  rw [List.lookup_cons, e]
theorem lk_eq {k : Str} (v : V) (r : List (Str × V)) : ((k, v) :: r).lookup k = some v := List.lookup_cons_self
theorem lf_st (st : Option Int) (nn tt : Addr) : (lf st nn tt).lookup kS = some (stV st) := lk_eq _ _
theorem lf_nn (st : Option Int) (nn tt : Addr) : (lf st nn tt).lookup kN = some (.ref nn) := by
  unfold lf
  rw [lk_ne kSN, lk_eq]
theorem lf_tt (st : Option Int) (nn tt : Addr) : (lf st nn tt).lookup kT = some (.ref tt) := by
  unfold lf
  rw [lk_ne kST, lk_ne kNT, lk_eq]
/-- no method's name is a field's -/
theorem lf_no {m : Str} (h1 : ¬ kS = m) (h2 : ¬ kN = m) (h3 : ¬ kT = m) (st : Option Int) (nn tt : Addr) : (lf st nn tt).lookup m = none := by
  unfold lf
  rw [lk_ne h1, lk_ne h2, lk_ne h3]
  rfl
def LetsAt (C : Addr) (H : Hp) (p : Addr) (ns : List Int) (st : Option Int) : Prop := ∃ dx nn tt, H p = some (.ins C dx (lf st nn tt)) ∧ H nn = some (.lst (ns.map V.int)) ∧ H tt = some (.dK (trueK ns))
theorem LetsAt.mono {C : Addr} {H H2 : Hp} {p : Addr} {ns : List Int} {st : Option Int} (e : Ex H H2) (h : LetsAt C H p ns st) : LetsAt C H2 p ns st := by
  obtain ⟨dx, nn, tt, h1, h2, h3⟩ := h
  exact ⟨dx, nn, tt, e _ _ h1, e _ _ h2, e _ _ h3⟩
/-- the same, its list and its dict not there in H0 -/
def LetsN (C : Addr) (H0 H : Hp) (p : Addr) (ns : List Int) (st : Option Int) : Prop := ∃ dx nn tt, H p = some (.ins C dx (lf st nn tt)) ∧ H nn = some (.lst (ns.map V.int)) ∧ H tt = some (.dK (trueK ns)) ∧ H0 nn = none ∧ H0 tt = none
theorem LetsN.at {C : Addr} {H0 H : Hp} {p : Addr} {ns : List Int} {st : Option Int} (h : LetsN C H0 H p ns st) : LetsAt C H p ns st := by
  obtain ⟨dx, nn, tt, h1, h2, h3, _⟩ := h
  exact ⟨dx, nn, tt, h1, h2, h3⟩
theorem LetsN.less {C : Addr} {H0 H1 H : Hp} {p : Addr} {ns : List Int} {st : Option Int} (e : Ex H0 H1) (h : LetsN C H1 H p ns st) : LetsN C H0 H p ns st := by
  obtain ⟨dx, nn, tt, h1, h2, h3, h4, h5⟩ := h
  exact ⟨dx, nn, tt, h1, h2, h3, fresh_back e h4, fresh_back e h5⟩
theorem LetsN.mono {C : Addr} {H0 H H2 : Hp} {p : Addr} {ns : List Int} {st : Option Int} (e : Ex H H2) (h : LetsN C H0 H p ns st) : LetsN C H0 H2 p ns st := by
  obtain ⟨dx, nn, tt, h1, h2, h3, h4⟩ := h
  exact ⟨dx, nn, tt, e _ _ h1, e _ _ h2, e _ _ h3, h4⟩
/-- what H0 had may change -/
theorem LetsN.put {C : Addr} {H0 H : Hp} {p q : Addr} {ns : List Int} {st : Option Int} {o u : HO} (h : LetsN C H0 H p ns st) (n : H0 p = none) (hq : H0 q = some u) : LetsN C H0 (upd H q o) p ns st := by
  obtain ⟨dx, nn, tt, h1, h2, h3, h4, h5⟩ := h
  have n1 := ne_of_none hq n
  have n2 := ne_of_none hq h4
  have n3 := ne_of_none hq h5
  exact ⟨dx, nn, tt, by rw [upd_ne (Ne.symm n1)]; exact h1, by rw [upd_ne (Ne.symm n2)]; exact h2, by rw [upd_ne (Ne.symm n3)]; exact h3, h4, h5⟩
/-- what it is made of -/
structure Told (ns : List Int) (st : Option Int) : Prop where
  len : ns.length ≤ 200
  pos : ∀ x ∈ ns, 1 ≤ x ∧ x ≤ 1000
  st1 : ∀ s, st = some s → 1 ≤ s ∧ s ≤ 1000
def MadeAt (C : Addr) (H : Hp) (p : Addr) (ns : List Int) (st : Option Int) (Q : VK) : Prop := ∀ H2, Ex (hid H p) H2 → LetsN C (hid H p) H2 p (formN ns st) (formS ns st) → Q .non H2
def spSettle (K : PySem.W.Frag) (C : Addr) : Sp := fun vs H Q _ => ∃ (p a dx : Addr) (ns : List Int) (st : Option Int), vs = [.ref p, .ref a, stV st] ∧ H p = some (.ins C dx []) ∧ SqL K H a (ns.map V.int) ∧ Told ns st ∧ MadeAt C H p ns st Q
def spNums (C : Addr) : Sp := fun vs H Q _ => ∃ (p : Addr) (ns : List Int) (st : Option Int), vs = [.ref p] ∧ LetsAt C H p ns st ∧ RetL (ns.map V.int) H Q
def spStart (C : Addr) : Sp := fun vs H Q _ => ∃ (p : Addr) (ns : List Int) (st : Option Int), vs = [.ref p] ∧ LetsAt C H p ns st ∧ RetV (stV st) H Q
def spIn (K : PySem.W.Frag) (C : Addr) : Sp := fun vs H Q _ => ∃ (p : Addr) (ns : List Int) (st : Option Int) (v : V), vs = [.ref p, v] ∧ LetsAt C H p ns st ∧
  ((∃ x : Int, v = .int x ∧ RetV (.bl (memB ns st x)) H Q) ∨
    ∃ (t : Value) (a b : Bool), (∀ H1, Ex H H1 → TyX K H1 v t) ∧ PySem.W.kitOne K t (.type "int") = some a ∧ PySem.W.kitOne K t (.type "bool") = some b ∧ (a && !b) = false ∧ RetV (.bl false) H Q)
def spEq (K : PySem.W.Frag) (C : Addr) : Sp := fun vs H Q _ => ∃ (p : Addr) (ns : List Int) (st : Option Int) (v : V), vs = [.ref p, v] ∧ LetsAt C H p ns st ∧
  ((∃ (p2 : Addr) (ms : List Int) (su : Option Int), v = .ref p2 ∧ LetsAt C H p2 ms su ∧ RetV (.bl (decide (ns = ms) && decide (st = su))) H Q) ∨
    ∃ t : Value, (∀ H1, Ex H H1 → TyX K H1 v t) ∧ PySem.W.kitOne K t (.ref C) = some false ∧ RetV (.bl false) H Q)
theorem sq_hid {K : PySem.W.Frag} {H : Hp} {p a C dx : Addr} {fs : List (Str × V)} {xs : List V} (h : SqL K H a xs) (hp : H p = some (.ins C dx fs)) : SqL K (hid H p) a xs := by
  rcases h with (h | ⟨o, h⟩) | h
  · have n : a ≠ p := ne_of h hp (by intro z; cases z)
    exact .inl (.inl (by rw [hid_ne n]; exact h))
  · have n : a ≠ p := ne_of h hp (by intro z; cases z)
    exact .inl (.inr ⟨o, by rw [hid_ne n]; exact h⟩)
  · exact .inr h
section
variable {K : PySem.W.Frag} {σ : L2.St} {H : Hp} {ta tb te : TE}
theorem ev_isCl {v : V} {t : Value} {C : Addr} {b : Bool} (h : Ev te σ H v) (ty : ∀ H1, Ex H H1 → TyX K H1 v t) (hk : PySem.W.kitOne K t (.ref C) = some b) : Ev (tCB (rIsAny K) (tCons te (tCons (tC (.ref C)) tNil))) σ H (.bl b) := fun H1 e Q q =>
  h H1 e _ fun H2 e2 => .inl ⟨v, .ref C, _, _, b, rfl, .own C, ty H2 (e.trans e2), hk, q H2 e2⟩
theorem ins_ty {C a dx : Addr} {fs : List (Str × V)} (c : C8.InsC K C) (h : H a = some (.ins C dx fs)) : ∀ H1, Ex H H1 → TyX K H1 (.ref a) (.ref C) := fun H1 e => .base (.ins (e _ _ h) c.cl c.ha c.hn c.htk c.hm)
end
theorem eqv_st (a b : Option Int) : PyData.eqv (stD a) (stD b) = decide (a = b) := by
  cases a with
  | none =>
    cases b with
    | none => rfl
    | some t => rfl
  | some s =>
    cases b with
    | none => rfl
    | some t =>
      show (s == t) = decide (some s = some t)
      rw [Bool.eq_iff_iff, beq_iff_eq, decide_eq_true_eq]
      exact ⟨fun h => by rw [h], fun h => Option.some.inj h⟩
theorem st_flat (a : Option Int) : (stD a).hasDict = false ∧ SeqAt.shaped (stD a) = true := by
  cases a <;> exact ⟨rfl, rfl⟩
section
variable {P : Program} {w : World} {K : PySem.W.Frag} {mg : Str → Option Value} {base : Heap}
theorem ok_settle (T : Tx K mg) : FnOk P w K mg base CX0 1 T.am_Letssettle T.fd_Letssettle P_Letssettle (spSettle K T.a_Lets) := by
  refine fun_v T.F_Letssettle sc_Letssettle (fun vs H Q E h => ?_) (fun cdv A outer s H vs Q E hr h => ?_)
  · obtain ⟨p, a, dx, ns, st, rfl, _⟩ := h
    rfl
  · obtain ⟨p, a, dx, ns, st, rfl, hp, hs, told, q⟩ := h
    refine ⟨_, (pss_cons (ps_setDc (own := [("number", 5)]) (i := 3) rfl nd_Letssettle rfl rfl (sw_dict rfl rfl rfl (by decide +kernel)) (k_pil (K := K) rfl (pv 1)) (blkOk_by (N := N_Letssettle) (sc := (defScope s_Letssettle)) (by decide +kernel)) (fun _ _ _ _ _ => pg_name (i := 5) nd_Letssettle rfl (.inl rfl)) (fun _ _ _ _ _ => pts_nil) (fun _ _ _ _ _ => (pv 5)) (fun _ _ _ _ _ => pe_bl))
      (pss_cons (ps_set (i := 4) nd_Letssettle rfl (.inr rfl) (pv 2))
      (pss_cons (ps_while PassesOwn.never (PW.pt (pw_and (pt_cmpR c_notN (pv 4) pe_non (nomark _)) (pw_and1 (pt_cmp (pc_din (hu_of hr) (pe_op op_sub (pv 4) pe_int) (pv 3)))))) (pss_one (ps_aug (i := 4) nd_Letssettle rfl (.inr rfl) pe_int ip_sub)))
      (pss_cons (ps_fld (pv 0) (pv 4) rfl)
      (pss_cons (ps_fld (pv 0) (pe_callB (k_sorted (K := K) rfl) (by rfl) T.m_sorted (by decide +kernel) (pa_cons (pe_lock (pe_lc (own := [("number", 5)]) rfl nd_Letssettle (pi_keys (pv 3)) (blkOk_by (N := N_Letssettle) (sc := (defScope s_Letssettle)) (by decide +kernel)) (fun _ _ _ _ _ => pg_name (i := 5) nd_Letssettle rfl (.inl rfl)) (fun _ _ _ _ _ => pts_one (PW.pt (pw_or (pt_cmpR c_isN (pv 4) pe_non (nomark _)) (pw_or1 (pt_cmpR op_lt (pv 5) (pv 4) (nomark _)))))) (fun _ _ _ _ _ => (pv 5)))) pa_nil)) rfl)
      (pss_one (ps_fld (pv 0) (pe_dc (own := [("number", 5)]) rfl nd_Letssettle (k_pil (K := K) rfl (k_fld (K := K) rfl (pv 0) rfl)) (blkOk_by (N := N_Letssettle) (sc := (defScope s_Letssettle)) (by decide +kernel)) (fun _ _ _ _ _ => pg_name (i := 5) nd_Letssettle rfl (.inl rfl)) (fun _ _ _ _ _ => pts_nil) (fun _ _ _ _ _ => (pv 5)) (fun _ _ _ _ _ => pe_bl)) rfl))))))), ?_⟩
    have pos : ∀ x ∈ ns, 1 ≤ x := fun x hx => (told.pos x hx).1
    apply q_asgK (kvs := trueK (dd ns))
    · exact ek_true (ev_var rfl) hs (by have := told.len; omega) (by show 5 < 6; decide) (fun x => rfl)
    intro t H1 nt e1 ht
    apply q_asg (v := stV st)
    · exact ev_var rfl
    intro H2 e2
    refine q_while (fun m σ' H' => ∃ lo : Option Int, σ' = [some (.ref p), some (.ref a), some (stV st), some (.ref t), some (stV lo), none] ∧ Ex H1 H' ∧
      ((lo = none ∧ st = none) ∨ ∃ l s : Int, lo = some l ∧ st = some s ∧ 1 ≤ l ∧ m = l.toNat ∧ lowI ns l.toNat l = lowI ns s.toNat s)) (match st with | none => 0 | some s => s.toNat) ?_ ?_
    · refine ⟨st, rfl, e2, ?_⟩
      cases st with
      | none => exact .inl ⟨rfl, rfl⟩
      | some s => exact .inr ⟨s, s, rfl, rfl, (told.st1 s rfl).1, rfl, rfl⟩
    · rintro m σ' H' ⟨lo, rfl, e3, hlo⟩
      have ht3 := e3 _ _ ht
      refine ⟨(match lo with | none => false | some l => decide (l - 1 ∈ dd ns)), ?_, fun hb H4 e4 => ?_, fun hb H4 e4 => ?_⟩
      · rcases hlo with ⟨rfl, rfl⟩ | ⟨l, s, rfl, rfl, l1, rfl, hl⟩
        · have z : EvT (tTest (tOp rNotNone (tVar 4) (tC .non))) [some (.ref p), some (.ref a), some (stV none), some (.ref t), some (stV none), none] H' false := et_test (ev_is (ev_notN (x := .non) (ev_var rfl)) rfl)
          exact et_is (a := false && false) (et_and z fun h => by cases h) rfl
        · have z : EvT (tTest (tOp rNotNone (tVar 4) (tC .non))) [some (.ref p), some (.ref a), some (stV (some s)), some (.ref t), some (stV (some l)), none] H' true := et_test (ev_is (ev_notN (x := .int l) (ev_var rfl)) rfl)
          refine et_is (a := true && decide (l - 1 ∈ dd ns)) (et_and z fun _ => et_B (ev_dinT (n := l - 1) ?_ (ev_var rfl) ht3)) (Bool.true_and _)
          exact ev_op (ev_var rfl) ev_c rv_I0
      · rcases hlo with ⟨rfl, rfl⟩ | ⟨l, s, rfl, rfl, l1, rfl, hl⟩
        · cases hb
        · have hm := of_decide_eq_true hb
          have hm2 := dd_mem.mp hm
          have l2 := pos _ hm2
          refine ⟨fun σ2 H2 => ∃ lo : Option Int, σ2 = [some (.ref p), some (.ref a), some (stV (some s)), some (.ref t), some (stV lo), none] ∧ Ex H1 H2 ∧ lo = some (l - 1), ?_, ?_⟩
          · rintro σ2 H2 ⟨lo, rfl, e5, rfl⟩
            refine ⟨(l - 1).toNat, by omega, some (l - 1), rfl, e5, .inr ⟨l - 1, s, rfl, rfl, l2, rfl, ?_⟩⟩
            rw [← hl]
            have ek : l.toNat = (l - 1).toNat + 1 := by omega
            rw [ek]
            show _ = (if l - 1 ∈ ns then lowI ns (l - 1).toNat (l - 1) else l)
            rw [if_pos hm2]
          · refine s_aug (f := fun x y => x - y) (a := l) (b := 1) rfl ev_c fun H5 e5 => ?_
            exact ⟨some (l - 1), rfl, (e3.trans e4).trans e5, rfl⟩
      · have elo : lo = formS ns st := by
          rcases hlo with ⟨rfl, rfl⟩ | ⟨l, s, rfl, rfl, l1, rfl, hl⟩
          · rfl
          · have hm := of_decide_eq_false hb
            show some l = some (lowI ns s.toNat s)
            rw [← hl]
            congr 1
            have ek : l.toNat = (l - 1).toNat + 1 := by omega
            rw [ek]
            show l = (if l - 1 ∈ ns then lowI ns (l - 1).toNat (l - 1) else l)
            rw [if_neg (fun z => hm (dd_mem.mpr z))]
        have e14 : Ex H H4 := (e1.trans e3).trans e4
        have hp4 := e14 _ _ hp
        have ht4 := e4 _ _ ht3
        have tp : t ≠ p := by
          rintro rfl
          rw [nt] at hp
          cases hp
        refine ⟨stV lo, rfl, .ref p, rfl, p, T.a_Lets, dx, [], rfl, hp4, T.cl_Lets, T.na_Lets__start, by decide, ?_⟩
        have hpA : (upd H4 p (.ins T.a_Lets dx [(kS, stV lo)])) p = some (.ins T.a_Lets dx [(kS, stV lo)]) := upd_same
        have htA : (upd H4 p (.ins T.a_Lets dx [(kS, stV lo)])) t = some (.dK (trueK (dd ns))) := by rw [upd_ne tp]; exact ht4
        have eA : Ex (hid H p) (upd H4 p (.ins T.a_Lets dx [(kS, stV lo)])) := (hid_ex.trans e14).mut hid_same
        show (tSeq _ _) _ _ (upd H4 p (.ins T.a_Lets dx [(kS, stV lo)]))
        generalize upd H4 p (.ins T.a_Lets dx [(kS, stV lo)]) = HA at hpA htA eA ⊢
        refine (el_sortN (el_keys (ks := dd ns) (d := t) (j := 5) (belowB lo) rfl htA (by have := dd_len ns; have := told.len; omega) (by show 5 < 6; decide) (fun x => rfl) ?_)) HA (Ex.refl _) _ fun nn HB nn0 eB hnn => ?_
        · intro n Hx hn
          cases lo with
          | none =>
            have z : EvT (tTest (tOp rIsNone (tVar 4) (tC .non))) ([some (.ref p), some (.ref a), some (stV st), some (.ref t), some (stV none), some (.int n)]) Hx true := et_test (ev_is (ev_isN (x := .non) (ev_var rfl)) rfl)
            exact et_is (a := true || true) (et_or z fun h => by cases h) rfl
          | some l =>
            have z : EvT (tTest (tOp rIsNone (tVar 4) (tC .non))) ([some (.ref p), some (.ref a), some (stV st), some (.ref t), some (stV (some l)), some (.int n)]) Hx false := et_test (ev_is (ev_isN (x := .int l) (ev_var rfl)) rfl)
            refine et_is (a := false || decide (n < l)) (et_or z fun _ => et_test (ev_op (ev_var rfl) (ev_var rfl) rv_I0)) (Bool.false_or _)
        have hpB := eB _ _ hpA
        refine ⟨.ref p, rfl, p, T.a_Lets, dx, _, rfl, hpB, T.cl_Lets, T.na_Lets__numbers, (by show 1 < 1000; decide), ?_⟩
        have np : nn ≠ p := by
          rintro rfl
          rw [nn0] at hpA
          cases hpA
        have fe : putF kN (.ref nn) [(kS, stV lo)] = [(kS, stV lo), (kN, .ref nn)] := pf2 _ _
        have hpC : (upd HB p (.ins T.a_Lets dx [(kS, stV lo), (kN, .ref nn)])) p = some (.ins T.a_Lets dx [(kS, stV lo), (kN, .ref nn)]) := upd_same
        have hnC : (upd HB p (.ins T.a_Lets dx [(kS, stV lo), (kN, .ref nn)])) nn = some (.lst ((formN ns st).map V.int)) := by
          rw [upd_ne np]
          unfold formN
          rw [← elo]
          exact hnn
        have eC : Ex (hid H p) (upd HB p (.ins T.a_Lets dx [(kS, stV lo), (kN, .ref nn)])) := (eA.trans eB).mut hid_same
        show (sFld K (tVar 0) (tDc (iList K (tFld K (tVar 0) kN)) (gName 5) tYes (tVar 5) (tC (V.bl true)) [5]) kT) _ _ (upd HB p (.ins T.a_Lets dx (putF kN (.ref nn) [(kS, stV lo)])))
        rw [fe]
        generalize upd HB p (.ins T.a_Lets dx [(kS, stV lo), (kN, .ref nn)]) = HC at hpC hnC eC ⊢
        have lkn : ([(kS, stV lo), (kN, V.ref nn)] : List (Str × V)).lookup kN = some (.ref nn) := by rw [lk_ne kSN, lk_eq]
        refine (ek_true (ns := formN ns st) (a := nn) (j := 5) (ev_fld (ev_var rfl) hpC T.cl_Lets T.na_Lets__numbers lkn) (sq_of hnC) (by have := formN_len ns st; have := told.len; omega) (by show 5 < 6; decide) (fun x => rfl)) HC (Ex.refl _) _ fun tt HD tt0 eD htt => ?_
        have hpD := eD _ _ hpC
        have ttp : tt ≠ p := by
          rintro rfl
          rw [tt0] at hpC
          cases hpC
        have fe2 : putF kT (.ref tt) [(kS, stV lo), (kN, .ref nn)] = [(kS, stV lo), (kN, .ref nn), (kT, .ref tt)] := pf3 _ _ _
        refine ⟨.ref p, rfl, p, T.a_Lets, dx, _, rfl, hpD, T.cl_Lets, T.na_Lets__table, (by show 2 < 1000; decide), ?_⟩
        refine q _ ((eC.trans eD).mut hid_same) ⟨dx, nn, tt, ?_, ?_, ?_, free_of eA nn0, free_of eC tt0⟩
        · rw [upd_same]
          show some (HO.ins T.a_Lets dx (putF kT (.ref tt) [(kS, stV lo), (kN, .ref nn)])) = _
          rw [fe2, elo]
          rfl
        · rw [upd_ne np]
          exact eD _ _ hnC
        · rw [upd_ne ttp, htt, dd_id (formN_nd ns st)]
theorem are_ok {ns : List Int} {st : Option Int} (t : Told ns st) : areD (.list (ns.map .int)) = true := by
  show (decide ((ns.map PyData.int).length ≤ 200) && (ns.map PyData.int).all mayD) = true
  rw [List.length_map, decide_eq_true t.len, Bool.true_and, List.all_map, List.all_eq_true]
  intro x hx
  have := t.pos x hx
  show (true && (decide (1 ≤ x) && decide (x ≤ 1000))) = true
  rw [decide_eq_true this.1, decide_eq_true this.2]
  rfl
theorem may_ok {ns : List Int} {s : Int} (t : Told ns (some s)) : mayD (.int s) = true := by
  have := t.st1 s rfl
  show (true && (decide (1 ≤ s) && decide (s ≤ 1000))) = true
  rw [decide_eq_true this.1, decide_eq_true this.2]
  rfl
theorem MadeAt.go {C : Addr} {H H1 : Hp} {p : Addr} {ns : List Int} {st : Option Int} {Q : VK} (e : Ex H H1) (h : MadeAt C H p ns st Q) : MadeAt C H1 p ns st Q := fun H2 e2 l => h H2 ((hid_mono e).trans e2) (l.less (hid_mono e))
theorem ok_linit (T : Tx K mg) : FnOk P w K mg base (L2.CX P w) 4 T.am_Lets_init T.fd_Lets_init P_Lets_init (spSettle K T.a_Lets) := by
  have c_are_numbers := ok_are (P := P) (w := w) (base := base) T
  have c_may_be_told := ok_may (P := P) (w := w) (base := base) T
  have c_Letssettle := ok_settle (P := P) (w := w) (base := base) T
  have c_InvalidList_init := ok_initL (P := P) (w := w) (base := base) T
  have c_InvalidNumber_init := ok_initN (P := P) (w := w) (base := base) T
  refine fun_vX T.F_Lets_init sc_Lets_init (fun vs H Q E h => ?_) (fun cdv A outer s H vs Q E hr h => ?_)
  · obtain ⟨p, a, dx, ns, st, rfl, _⟩ := h
    rfl
  · obtain ⟨p, a, dx, ns, st, rfl, hp, hs, told, q⟩ := h
    refine ⟨_, (pss_cons (ps_if (pt_not (pt_val (pe_call c_are_numbers (hr.mono (by decide)) (by rfl) T.g_are_numbers T.F_are_numbers.kp T.b_are_numbers .nil pass0 (pa_cons (pv 1) pa_nil)))) (pss_one (ps_raise rfl (takes_of rfl rfl rfl rfl) (pmk_oex T.x_InvalidList T.i_InvalidList T.t_InvalidList c_InvalidList_init (hr.mono (by decide)) T.bi_InvalidList .nil pass0 (by rfl) T.g_InvalidList (pa_cons (pv 1) pa_nil)))) pss_nil)
      (pss_cons (ps_if (PW.pt (pw_and (pt_cmpR c_notN (pv 2) pe_non (nomark _)) (pw_and1 (pt_not (pt_val (pe_call c_may_be_told (hr.mono (by decide)) (by rfl) T.g_may_be_told T.F_may_be_told.kp T.b_may_be_told .nil pass0 (pa_cons (pv 2) pa_nil))))))) (pss_one (ps_raise rfl (takes_of rfl rfl rfl rfl) (pmk_oex T.x_InvalidNumber T.i_InvalidNumber T.t_InvalidNumber c_InvalidNumber_init (hr.mono (by decide)) T.bi_InvalidNumber .nil pass0 (by rfl) T.g_InvalidNumber (pa_cons (pv 2) pa_nil)))) pss_nil)
      (pss_one (ps_expr (pe_meth (pv 0) T.cl_Lets T.me_Letssettle c_Letssettle (hr.mono (by decide)) T.b_Letssettle .nil pass0 (pa_cons (pv 1) (pa_cons (pv 2) pa_nil))))))), ?_⟩
    apply q_when (b := false)
    · exact et_is (et_not (et_B (ev_tell (ed_of (ev_var rfl) (.lst hs (rpInts ns)))))) (by rw [are_ok told]; rfl)
    · intro z; cases z
    intro _ H1 e1
    apply q_when (b := false)
    · cases st with
      | none =>
        have z : EvT (tTest (tOp rNotNone (tVar 2) (tC .non))) [some (.ref p), some (.ref a), some (stV none)] H1 false := et_test (ev_is (ev_notN (x := .non) (ev_var rfl)) rfl)
        exact et_is (a := false && false) (et_and z fun h => by cases h) rfl
      | some s =>
        have z : EvT (tTest (tOp rNotNone (tVar 2) (tC .non))) [some (.ref p), some (.ref a), some (stV (some s))] H1 true := et_test (ev_is (ev_notN (x := .int s) (ev_var rfl)) rfl)
        refine et_is (a := true && !mayD (.int s)) (et_and z fun _ => et_not (et_B (ev_tell (ed_int (ev_var rfl))))) ?_
        rw [may_ok told]; rfl
    · intro z; cases z
    intro _ H2 e2
    have e12 := e1.trans e2
    refine ⟨.ref p, rfl, p, dx, [], rfl, e12 _ _ hp, rfl, .ref a, rfl, stV st, rfl, p, a, dx, ns, st, rfl, e12 _ _ hp, ex_l e12 hs, told, q.go e12⟩
theorem ok_nums (T : Tx K mg) : FnOk P w K mg base CX0 1 T.am_Lets_numbers T.fd_Lets_numbers P_Lets_numbers (spNums T.a_Lets) := by
  refine fun_v T.F_Lets_numbers sc_Lets_numbers (fun vs H Q E h => ?_) (fun cdv A outer s H vs Q E hr h => ?_)
  · obtain ⟨p, ns, st, rfl, _⟩ := h
    rfl
  · obtain ⟨p, ns, st, rfl, ⟨dx, nn, tt, h1, h2, h3⟩, q⟩ := h
    refine ⟨_, (pss_one (ps_ret (pe_callTy (k_list (K := K) rfl) (by rfl) T.m_list (by decide +kernel) (pa_cons (k_fld (K := K) rfl (pv 0) rfl) pa_nil)))), ?_⟩
    apply s_retL
    · exact el_list (ev_fld (ev_var rfl) h1 T.cl_Lets T.na_Lets__numbers (lf_nn _ _ _)) (sq_of h2)
    · exact fun p2 H2 n2 e2 hp2 => q p2 H2 n2 e2 hp2
theorem ok_start (T : Tx K mg) : FnOk P w K mg base CX0 1 T.am_Lets_start T.fd_Lets_start P_Lets_start (spStart T.a_Lets) := by
  refine fun_v T.F_Lets_start sc_Lets_start (fun vs H Q E h => ?_) (fun cdv A outer s H vs Q E hr h => ?_)
  · obtain ⟨p, ns, st, rfl, _⟩ := h
    rfl
  · obtain ⟨p, ns, st, rfl, ⟨dx, nn, tt, h1, h2, h3⟩, q⟩ := h
    refine ⟨_, (pss_one (ps_ret (k_fld (K := K) rfl (pv 0) rfl))), ?_⟩
    apply s_ret
    · exact ev_fld (ev_var rfl) h1 T.cl_Lets T.na_Lets__start (lf_st _ _ _)
    · exact fun H2 e2 => q H2 e2
theorem ok_in (T : Tx K mg) : FnOk P w K mg base CX0 2 T.am_Lets_contains T.fd_Lets_contains P_Lets_contains (spIn K T.a_Lets) := by
  have c_is_whole := ok_whole (P := P) (w := w) (base := base) T
  refine fun_v T.F_Lets_contains sc_Lets_contains (fun vs H Q E h => ?_) (fun cdv A outer s H vs Q E hr h => ?_)
  · obtain ⟨p, ns, st, v, rfl, _⟩ := h
    rfl
  · obtain ⟨p, ns, st, v, rfl, ⟨dx, nn, tt, h1, h2, h3⟩, hc⟩ := h
    refine ⟨_, (pss_cons (ps_if (pt_not (pt_val (pe_call c_is_whole (hr.mono (by decide)) (by rfl) T.g_is_whole T.F_is_whole.kp T.b_is_whole .nil pass0 (pa_cons (pv 1) pa_nil)))) (pss_one (ps_ret pe_bl)) pss_nil)
      (pss_cons (ps_if (PW.pt (pw_and (pt_cmpR c_notN (k_fld (K := K) rfl (pv 0) rfl) pe_non (nomark _)) (pw_and1 (pt_cmpR op_ge (pv 1) (k_fld (K := K) rfl (pv 0) rfl) (nomark _))))) (pss_one (ps_ret pe_bl)) pss_nil)
      (pss_one (ps_ret (pe_cmp (pc_din (hu_of hr) (pv 1) (k_fld (K := K) rfl (pv 0) rfl))))))), ?_⟩
    rcases hc with ⟨x, rfl, q⟩ | ⟨t, a, b, ty, k1, k2, hab, q⟩
    · apply q_when (b := false)
      · exact et_is (et_not (et_B (ev_own (v := .bl true) (ea_cons (ev_var rfl) ea_nil) fun H1 e1 Q2 q2 => go_whole (.int x) q2))) rfl
      · intro z; cases z
      intro _ H1 e1
      have g1 := e1 _ _ h1
      cases st with
      | none =>
        apply q_when (b := false)
        · have z : EvT (tTest (tOp rNotNone (tFld K (tVar 0) kS) (tC .non))) [some (.ref p), some (.int x)] H1 false := et_test (ev_is (ev_notN (x := .non) (ev_fld (ev_var rfl) g1 T.cl_Lets T.na_Lets__start (lf_st _ _ _))) rfl)
          exact et_is (a := false && false) (et_and z fun h => by cases h) rfl
        · intro z; cases z
        intro _ H2 e2
        apply s_ret (v := .bl (decide (x ∈ ns)))
        · exact ev_dinT (ev_var rfl) (ev_fld (ev_var rfl) (e2 _ _ g1) T.cl_Lets T.na_Lets__table (lf_tt _ _ _)) (e2 _ _ (e1 _ _ h3))
        · intro H3 e3
          have z := q H3 ((e1.trans e2).trans e3)
          unfold memB at z
          rw [Bool.or_false] at z
          exact z
      | some s =>
        apply q_when (b := decide (s ≤ x))
        · have z : EvT (tTest (tOp rNotNone (tFld K (tVar 0) kS) (tC .non))) [some (.ref p), some (.int x)] H1 true := et_test (ev_is (ev_notN (x := .int s) (ev_fld (ev_var rfl) g1 T.cl_Lets T.na_Lets__start (lf_st _ _ _))) rfl)
          refine et_is (a := true && decide (s ≤ x)) (et_and z fun _ => et_test (ev_op (ev_var rfl) (ev_fld (x := .int s) (ev_var rfl) g1 T.cl_Lets T.na_Lets__start (lf_st _ _ _)) rv_I0)) (Bool.true_and _)
        · intro hb H2 e2
          apply s_ret
          · exact ev_c
          · intro H3 e3
            have z := q H3 ((e1.trans e2).trans e3)
            unfold memB at z
            have hb2 : decide (s ≤ x) = true := hb
            simp only [hb2, Bool.or_true] at z
            exact z
        intro hb H2 e2
        apply s_ret (v := .bl (decide (x ∈ ns)))
        · exact ev_dinT (ev_var rfl) (ev_fld (ev_var rfl) (e2 _ _ g1) T.cl_Lets T.na_Lets__table (lf_tt _ _ _)) (e2 _ _ (e1 _ _ h3))
        · intro H3 e3
          have z := q H3 ((e1.trans e2).trans e3)
          unfold memB at z
          have hb2 : decide (s ≤ x) = false := hb
          simp only [hb2, Bool.or_false] at z
          exact z
    · apply q_when (b := true)
      · refine et_is (et_not (et_B (ev_own (v := .bl (a && !b)) (ea_cons (ev_var rfl) ea_nil) fun H1 e1 Q2 q2 => ⟨v, t, a, b, rfl, fun H2 e2 => ty H2 (e1.trans e2), k1, k2, q2⟩))) ?_
        rw [hab]; rfl
      · intro _ H1 e1
        apply s_ret
        · exact ev_c
        · exact fun H2 e2 => q H2 (e1.trans e2)
      · intro z; cases z
theorem ok_eq (T : Tx K mg) : FnOk P w K mg base CX0 1 T.am_Lets_eq T.fd_Lets_eq P_Lets_eq (spEq K T.a_Lets) := by
  refine fun_v T.F_Lets_eq sc_Lets_eq (fun vs H Q E h => ?_) (fun cdv A outer s H vs Q E hr h => ?_)
  · obtain ⟨p, ns, st, v, rfl, _⟩ := h
    rfl
  · obtain ⟨p, ns, st, v, rfl, ⟨dx, nn, tt, h1, h2, h3⟩, hc⟩ := h
    refine ⟨_, (pss_cons (ps_if (pt_not (pt_val (pe_callB (k_isi (K := K) rfl) (by rfl) T.m_isinstance (by decide +kernel) (pa_cons (pv 1) (pa_cons (pe_glob (by rfl) T.g_Lets (show RelV (.ref T.a_Lets) (.ref T.a_Lets) from rfl)) pa_nil))))) (pss_one (ps_ret pe_bl)) pss_nil)
      (pss_one (ps_ret (pe_and (pe_cmpR (k_eq (K := K) rfl hr.units) (k_fld (K := K) rfl (pv 0) rfl) (k_fld (K := K) rfl (pv 1) rfl) (nomark _)) (pe_one (pe_cmpR (k_eq (K := K) rfl hr.units) (k_fld (K := K) rfl (pv 0) rfl) (k_fld (K := K) rfl (pv 1) rfl) (nomark _))))))), ?_⟩
    rcases hc with ⟨p2, ms, su, rfl, ⟨dy, mm, uu, g1, g2, g3⟩, q⟩ | ⟨t, ty, k1, q⟩
    · apply q_when (b := false)
      · exact et_is (et_not (et_B (ev_isCl (ev_var rfl) (ins_ty T.ins_Lets g1) T.ins_Lets.me))) rfl
      · intro z; cases z
      intro _ H1 e1
      apply s_ret (v := .bl (decide (ns = ms) && decide (st = su)))
      · apply ev_andV
        · refine ev_is (ev_eqD (K := K) (d := .list (ns.map .int)) (e := .list (ms.map .int)) (ed_of (ev_fld (ev_var rfl) (e1 _ _ h1) T.cl_Lets T.na_Lets__numbers (lf_nn _ _ _)) (.lst (sq_of (e1 _ _ h2)) (rpInts ns))) (ed_of (ev_fld (ev_var rfl) (e1 _ _ g1) T.cl_Lets T.na_Lets__numbers (lf_nn _ _ _)) (.lst (sq_of (e1 _ _ g2)) (rpInts ms))) (nodict_ints _) (nodict_ints _) (shaped_ints _) (shaped_ints _)) ?_
          rw [eqv_ints]
        · intro _
          refine ev_is (ev_eqD (K := K) (d := stD st) (e := stD su) (ed_of (ev_fld (ev_var rfl) (e1 _ _ h1) T.cl_Lets T.na_Lets__start (lf_st _ _ _)) (stRp st)) (ed_of (ev_fld (ev_var rfl) (e1 _ _ g1) T.cl_Lets T.na_Lets__start (lf_st _ _ _)) (stRp su)) (st_flat _).1 (st_flat _).1 (st_flat _).2 (st_flat _).2) ?_
          rw [eqv_st]
      · exact fun H2 e2 => q H2 (e1.trans e2)
    · apply q_when (b := true)
      · exact et_is (et_not (et_B (ev_isCl (ev_var rfl) ty k1))) rfl
      · intro _ H1 e1
        apply s_ret
        · exact ev_c
        · exact fun H2 e2 => q H2 (e1.trans e2)
      · intro z; cases z
end
/-! ### a new set -/
def EvLets (C : Addr) (te : TE) (σ : L2.St) (H : Hp) (ns : List Int) (st : Option Int) : Prop := ∀ H1, Ex H H1 → ∀ Q : VK, (∀ p H2, H1 p = none → Ex H1 H2 → LetsN C H1 H2 p ns st → Q (.ref p) H2) → te σ H1 Q
section
variable {K : PySem.W.Frag} {σ : L2.St} {H : Hp} {ta tb te : TE} {C : Addr} {E : XK} {ns : List Int} {st : Option Int}
theorem go_make {a : Addr} {H3 : Hp} {Q : VK} (hs : SqL K H3 a (ns.map V.int)) (told : Told ns st) (q : ∀ p H2, H3 p = none → Ex H3 H2 → LetsN C H3 H2 p (formN ns st) (formS ns st) → Q (.ref p) H2) :
    ∀ x dx, H3 x = none → H3 dx = none → dx ≠ x → spSettle K C [.ref x, .ref a, stV st] (upd (upd H3 dx (.own x)) x (.ins C dx [])) (fun v H2 => v = .non ∧ Q (.ref x) H2) E := fun x dx nx ndx ne => by
  have e : Ex H3 (upd (upd H3 dx (.own x)) x (.ins C dx [])) := (Ex.new ndx).mut nx
  have ee : Ex H3 (hid (upd (upd H3 dx (.own x)) x (.ins C dx [])) x) := hid_new nx e
  refine ⟨x, a, dx, ns, st, rfl, upd_same, ex_l e hs, told, fun H4 e4 hl => ⟨rfl, q x H4 nx (ee.trans e4) (hl.less ee)⟩⟩
theorem el_make {a : Addr} (ha : Ev ta σ H (.ref a)) (hs : SqL K H a (ns.map V.int)) (hb : Ev tb σ H (stV st)) (told : Told ns st) : EvLets C (tMake C (spSettle K C) [] E (tCons ta (tCons tb tNil))) σ H (formN ns st) (formS ns st) := fun H1 e Q q =>
  ha H1 e _ fun H2 e2 => hb H2 (e.trans e2) _ fun H3 e3 => go_make (ex_l ((e.trans e2).trans e3) hs) told fun p H4 np e4 hl => q p H4 (free_of (e2.trans e3) np) ((e2.trans e3).trans e4) (hl.less (e2.trans e3))
/-- of a new list -/
theorem el_makeN (ha : EvL ta σ H (ns.map V.int)) (hb : Ev tb σ H (stV st)) (told : Told ns st) : EvLets C (tMake C (spSettle K C) [] E (tCons ta (tCons tb tNil))) σ H (formN ns st) (formS ns st) := fun H1 e Q q =>
  ha H1 e _ fun a H2 na e2 h2 => hb H2 (e.trans e2) _ fun H3 e3 => go_make (sq_of (e3 _ _ h2)) told fun p H4 np e4 hl => q p H4 (free_of (e2.trans e3) np) ((e2.trans e3).trans e4) (hl.less (e2.trans e3))
theorem el_makeN0 (ha : EvL ta σ H (ns.map V.int)) (told : Told ns none) : EvLets C (tMake C (spSettle K C) [.non] E (tCons ta tNil)) σ H (formN ns none) none := fun H1 e Q q =>
  ha H1 e _ fun a H2 na e2 h2 => go_make (st := none) (sq_of h2) told fun p H4 np e4 hl => q p H4 (free_of e2 np) (e2.trans e4) (hl.less e2)
theorem el_makeK {a : Addr} (ha : Ev ta σ H (.ref a)) (hs : SqL K H a (ns.map V.int)) (hb : Ev tb σ H (stV st)) (told : Told ns st) :
    EvLets C (tMakeK C 0 2 (spSettle K C) (fun us ws => us ++ ws) E tNil (tCons ta (tCons tb tNil))) σ H (formN ns st) (formS ns st) := fun H1 e Q q =>
  ha H1 e _ fun H2 e2 => hb H2 (e.trans e2) _ fun H3 e3 => ⟨rfl, rfl, go_make (ex_l ((e.trans e2).trans e3) hs) told fun p H4 np e4 hl => q p H4 (free_of (e2.trans e3) np) ((e2.trans e3).trans e4) (hl.less (e2.trans e3))⟩
theorem el_nums {p : Addr} (ha : Ev ta σ H (.ref p)) (h : LetsAt C H p ns st) : EvL (tMeth C "numbers" (spNums C) [] E ta tNil) σ H (ns.map V.int) := fun H1 e Q q =>
  ha H1 e _ fun H2 e2 => by
    have h2 := h.mono (e.trans e2)
    obtain ⟨dx, nn, tt, g1, g2, g3⟩ := id h2
    exact ⟨p, dx, _, rfl, g1, lf_no (by decide +kernel) (by decide +kernel) (by decide +kernel) _ _ _, p, ns, st, rfl, h2, fun p2 H3 n3 e3 h3 => q p2 H3 (free_of e2 n3) (e2.trans e3) h3⟩
theorem el_numsN (ha : EvLets C ta σ H ns st) : EvL (tMeth C "numbers" (spNums C) [] E ta tNil) σ H (ns.map V.int) := fun H1 e Q q =>
  ha H1 e _ fun p H2 np e2 h2' => by
    have h2 := h2'.at
    obtain ⟨dx, nn, tt, g1, g2, g3⟩ := id h2
    exact ⟨p, dx, _, rfl, g1, lf_no (by decide +kernel) (by decide +kernel) (by decide +kernel) _ _ _, p, ns, st, rfl, h2, fun p2 H3 n3 e3 h3 => q p2 H3 (free_of e2 n3) (e2.trans e3) h3⟩
theorem ev_start {p : Addr} (ha : Ev ta σ H (.ref p)) (h : LetsAt C H p ns st) : Ev (tMeth C "start" (spStart C) [] E ta tNil) σ H (stV st) := fun H1 e Q q =>
  ha H1 e _ fun H2 e2 => by
    have h2 := h.mono (e.trans e2)
    obtain ⟨dx, nn, tt, g1, g2, g3⟩ := id h2
    exact ⟨p, dx, _, rfl, g1, lf_no (by decide +kernel) (by decide +kernel) (by decide +kernel) _ _ _, p, ns, st, rfl, h2, fun H3 e3 => q H3 (e2.trans e3)⟩
theorem ev_startN (ha : EvLets C ta σ H ns st) : Ev (tMeth C "start" (spStart C) [] E ta tNil) σ H (stV st) := fun H1 e Q q =>
  ha H1 e _ fun p H2 np e2 h2' => by
    have h2 := h2'.at
    obtain ⟨dx, nn, tt, g1, g2, g3⟩ := id h2
    exact ⟨p, dx, _, rfl, g1, lf_no (by decide +kernel) (by decide +kernel) (by decide +kernel) _ _ _, p, ns, st, rfl, h2, fun H3 e3 => q H3 (e2.trans e3)⟩
/-- n in lets -/
theorem ev_inI {p : Addr} {x : Int} (ha : Ev ta σ H (.int x)) (hb : Ev tb σ H (.ref p)) (h : LetsAt C H p ns st) : Ev (tOp (rInOwn C (spIn K C) E) ta tb) σ H (.bl (memB ns st x)) := by
  obtain ⟨dx, nn, tt, g1, g2, g3⟩ := id h
  exact ev_inOwn ha hb g1 fun H1 e1 Q q => ⟨p, ns, st, .int x, rfl, h.mono e1, .inl ⟨x, rfl, q⟩⟩
theorem ev_inO {p : Addr} {v : V} {t : Value} {a b : Bool} (ha : Ev ta σ H v) (hb : Ev tb σ H (.ref p)) (h : LetsAt C H p ns st) (ty : ∀ H1, Ex H H1 → TyX K H1 v t) (k1 : PySem.W.kitOne K t (.type "int") = some a) (k2 : PySem.W.kitOne K t (.type "bool") = some b) (hab : (a && !b) = false) :
    Ev (tOp (rInOwn C (spIn K C) E) ta tb) σ H (.bl false) := by
  obtain ⟨dx, nn, tt, g1, g2, g3⟩ := id h
  exact ev_inOwn ha hb g1 fun H1 e1 Q q => ⟨p, ns, st, v, rfl, h.mono e1, .inr ⟨t, a, b, fun H2 e2 => ty H2 (e1.trans e2), k1, k2, hab, q⟩⟩
theorem go_eqL {p p2 : Addr} {ms : List Int} {su : Option Int} {H1 : Hp} {Q : VK} (h : LetsAt C H1 p ns st) (h2 : LetsAt C H1 p2 ms su) (q : RetV (.bl (decide (ns = ms) && decide (st = su))) H1 Q) : spEq K C [.ref p, .ref p2] H1 Q E :=
  ⟨p, ns, st, .ref p2, rfl, h, .inl ⟨p2, ms, su, rfl, h2, q⟩⟩
/-- lets == a new one -/
theorem ev_eqL {p : Addr} {ms : List Int} {su : Option Int} (ic : C8.InsC K C) (ha : Ev ta σ H (.ref p)) (h : LetsAt C H p ns st) (hb : EvLets C tb σ H ms su) : Ev (tOp (rEqOwn K C (spEq K C) E) ta tb) σ H (.bl (decide (ns = ms) && decide (st = su))) := fun H1 e Q q =>
  ha H1 e _ fun H2 e2 => hb H2 (e.trans e2) _ fun p2 H3 n3 e3 h3' => by
    have h3 := h3'.at
    have g := h.mono ((e.trans e2).trans e3)
    obtain ⟨dx, nn, tt, g1, g2, g3⟩ := id g
    obtain ⟨dy, mm, uu, f1, f2, f3⟩ := id h3
    exact ⟨p, dx, _, _, rfl, g1, ins_ty ic f1 H3 (Ex.refl _), notFirst_same, go_eqL g h3 fun H4 e4 => q H4 ((e2.trans e3).trans e4)⟩
/-- a new one == a new one -/
theorem ev_eqNN {ms : List Int} {su : Option Int} (ic : C8.InsC K C) (ha : EvLets C ta σ H ns st) (hb : EvLets C tb σ H ms su) : Ev (tOp (rEqOwn K C (spEq K C) E) ta tb) σ H (.bl (decide (ns = ms) && decide (st = su))) := fun H1 e Q q =>
  ha H1 e _ fun p H2 n2 e2 h2 => hb H2 (e.trans e2) _ fun p2 H3 n3 e3 h3' => by
    have h3 := h3'.at
    have g := h2.at.mono e3
    obtain ⟨dx, nn, tt, g1, g2, g3⟩ := id g
    obtain ⟨dy, mm, uu, f1, f2, f3⟩ := id h3
    exact ⟨p, dx, _, _, rfl, g1, ins_ty ic f1 H3 (Ex.refl _), notFirst_same, go_eqL g h3 fun H4 e4 => q H4 ((e2.trans e3).trans e4)⟩
/-- lets == something else -/
theorem ev_eqO {p : Addr} {v : V} {T : String} (ha : Ev ta σ H (.ref p)) (h : LetsAt C H p ns st) (hb : Ev tb σ H v) (ty : ∀ H1, Ex H H1 → TyX K H1 v (.type T)) (ns1 : PySem.W.subIn K (.type T) (.ref C) = some false) (k : PySem.W.kitOne K (.type T) (.ref C) = some false) :
    Ev (tOp (rEqOwn K C (spEq K C) E) ta tb) σ H (.bl false) := by
  obtain ⟨dx, nn, tt, g1, g2, g3⟩ := id h
  exact ev_eqOwn ha hb g1 ty (notFirst_of ns1) fun H1 e1 Q q => ⟨p, ns, st, v, rfl, h.mono e1, .inr ⟨_, fun H2 e2 => ty H2 (e1.trans e2), k, q⟩⟩
end
end K09




set_option Elab.async false
set_option linter.all false
set_option maxRecDepth 100000
set_option maxHeartbeats 4000000
namespace K09
open PySem PySem.Spec PyProof.Rows L2 Evl GS
local macro_rules | `(tactic| walk_at "bits") => `(tactic| first | (refine bits64 ?_; omega) | (apply bitsM; (focus walk_at "bits"); (focus walk_at "bits")))
local macro_rules | `(tactic| walk_at "side") => `(tactic| first
  | (apply CMulX.of; (focus walk_at "bits"); (focus walk_at "bits"); decide)
  | (dsimp only; omega) | assumption | decide)
local macro_rules | `(tactic| walk_at "rv") => `(tactic| first | exact rv_I0 | (apply rv_I; walk_at "side"))
local macro_rules | `(tactic| walk_at "ev") => `(tactic| first
  | exact ev_c
  | exact ev_var rfl
  | (apply ev_op; (focus walk_at "ev"); (focus walk_at "ev"); (focus walk_at "rv"))
  | (apply ev_int1; walk_at "ev")
  | (apply ev_max2; (focus walk_at "ev"); (focus walk_at "ev"))
  | (apply ev_bits; walk_at "ev"))

set_option exponentiation.threshold 2000
theorem gn_ne {H : Hp} {g D : Addr} {m : Int} (h : Gn H g m) (n : H D = none) : D ≠ g := by
  obtain ⟨a, b, c, h1, _⟩ := h
  rintro rfl
  rw [n] at h1
  cases h1
theorem Ex.off {H H1 H2 : Hp} {g : Addr} (e : Ex H H1) (n : H g = none) (o : Off g H1 H2) : Ex H H2 := fun x u h => o x u (ne_of_none h n) (e x u h)
/-- a told set: a tuple of a list and a start -/
def ToldAt (H : Hp) (t : Addr) (ns : List Int) (st : Option Int) : Prop := ∃ l, H t = some (.tup [.ref l, stV st]) ∧ H l = some (.lst (ns.map V.int))
theorem ToldAt.mono {H H2 : Hp} {t : Addr} {ns : List Int} {st : Option Int} (e : Ex H H2) (h : ToldAt H t ns st) : ToldAt H2 t ns st := by
  obtain ⟨l, h1, h2⟩ := h
  exact ⟨l, e _ _ h1, e _ _ h2⟩
/-- its list not there in H0 -/
def ToldN (H0 H : Hp) (t : Addr) (ns : List Int) (st : Option Int) : Prop := ∃ l, H t = some (.tup [.ref l, stV st]) ∧ H l = some (.lst (ns.map V.int)) ∧ H0 l = none
theorem ToldN.at {H0 H : Hp} {t : Addr} {ns : List Int} {st : Option Int} (h : ToldN H0 H t ns st) : ToldAt H t ns st := by
  obtain ⟨l, h1, h2, _⟩ := h
  exact ⟨l, h1, h2⟩
theorem ToldN.mono {H0 H H2 : Hp} {t : Addr} {ns : List Int} {st : Option Int} (e : Ex H H2) (h : ToldN H0 H t ns st) : ToldN H0 H2 t ns st := by
  obtain ⟨l, h1, h2, h3⟩ := h
  exact ⟨l, e _ _ h1, e _ _ h2, h3⟩
theorem ToldN.put {H0 H : Hp} {t q : Addr} {ns : List Int} {st : Option Int} {o u : HO} (h : ToldN H0 H t ns st) (n : H0 t = none) (hq : H0 q = some u) : ToldN H0 (upd H q o) t ns st := by
  obtain ⟨l, h1, h2, h3⟩ := h
  have n1 := ne_of_none hq n
  have n2 := ne_of_none hq h3
  exact ⟨l, by rw [upd_ne (Ne.symm n1)]; exact h1, by rw [upd_ne (Ne.symm n2)]; exact h2, h3⟩
/-- apart from the generator -/
def ToldG (H : Hp) (g t : Addr) (ns : List Int) (st : Option Int) : Prop := ∃ l, H t = some (.tup [.ref l, stV st]) ∧ H l = some (.lst (ns.map V.int)) ∧ t ≠ g ∧ l ≠ g
theorem ToldG.at {H : Hp} {g t : Addr} {ns : List Int} {st : Option Int} (h : ToldG H g t ns st) : ToldAt H t ns st := by
  obtain ⟨l, h1, h2, _⟩ := h
  exact ⟨l, h1, h2⟩
theorem ToldG.off {H H2 : Hp} {g t : Addr} {ns : List Int} {st : Option Int} (h : ToldG H g t ns st) (e : Off g H H2) : ToldG H2 g t ns st := by
  obtain ⟨l, h1, h2, h3, h4⟩ := h
  exact ⟨l, e _ _ h3 h1, e _ _ h4 h2, h3, h4⟩
structure SetOk (ns : List Int) (st : Option Int) : Prop where
  pw : ns.Pairwise (· < ·)
  len : ns.length ≤ 40
  pos : ∀ x ∈ ns, 1 ≤ x ∧ x ≤ 40
  st1 : ∀ s, st = some s → 1 ≤ s ∧ s ≤ 42
theorem SetOk.nd {ns : List Int} {st : Option Int} (h : SetOk ns st) : ns.Nodup := h.pw.imp fun h => by omega
def spLIn : Sp := fun vs H Q _ => ∃ (t : Addr) (ns : List Int) (st : Option Int) (x : Int), vs = [.ref t, .int x] ∧ ToldAt H t ns st ∧ RetV (.bl (memB ns st x)) H Q
def spSet : Sp := fun vs H Q _ => ∃ (g : Addr) (m : Int) (n : Nat), vs = [.ref g, .int n] ∧ Gn H g m ∧ n ≤ 40 ∧ m + 11 * (n + 2) < 2 ^ 59 ∧
  ∀ t ns st H2, H t = none → Off g H H2 → Gn H2 g (m + 11 * (n + 2)) → ToldG H2 g t ns st → SetOk ns st → Q (.ref t) H2
def spForm : Sp := fun vs H Q _ => ∃ (t : Addr) (ns : List Int) (st : Option Int), vs = [.ref t] ∧ ToldAt H t ns st ∧ SetOk ns st ∧
  ∀ t2 H2, H t2 = none → Ex H H2 → ToldN H H2 t2 (formN ns st) (formS ns st) → Q (.ref t2) H2
def spList (K : PySem.W.Frag) : Sp := fun vs H Q _ => ∃ (g a : Addr) (m : Int) (ns : List Int), vs = [.ref g, .ref a] ∧ Gn H g m ∧ SqL K H a (ns.map V.int) ∧ ns.length ≤ 40 ∧ m + 33 * ns.length < 2 ^ 59 ∧
  ∀ (p : Addr) (ms : List Int) (H2 : Hp), H p = none → Off g H H2 → Gn H2 g (m + 33 * ns.length) → H2 p = some (.lst (ms.map V.int)) → (∀ x, x ∈ ms ↔ x ∈ ns) → ms.length ≤ 2 * ns.length → Q (.ref p) H2
section
variable {P : Program} {w : World} {K : PySem.W.Frag} {mg : Str → Option Value} {base : Heap}
theorem ok_lin (T : Tx K mg) : FnOk P w K mg base CX0 1 T.a_l_in T.fd_l_in P_l_in spLIn := by
  refine T.F_l_in.ok sc_l_in (fun vs H Q E h => ?_) (fun cdv A outer s H vs Q E hr h => ?_)
  · obtain ⟨t, ns, st, x, rfl, _⟩ := h
    rfl
  · obtain ⟨t, ns, st, x, rfl, ⟨l, h1, h2⟩, q⟩ := h
    refine ⟨_, (pss_cons (ps_asg (pv 0) (k_gtup (K := K) (n := 2) rfl rfl (pgs_cons (pg_name (i := 2) nd_l_in rfl (.inl rfl)) (pgs_cons (pg_name (i := 3) nd_l_in rfl (.inl rfl)) pgs_nil))))
      (pss_one (ps_ret (pe_or (pe_cmpR op_in_seq (pv 1) (pv 2) rfl) (pe_one (pe_and (pe_cmpR c_notN (pv 3) pe_non (nomark _)) (pe_one (pe_cmpR op_ge (pv 1) (pv 3) (nomark _))))))))), ?_⟩
    apply q_two rfl h1
    apply s_ret (v := .bl (memB ns st x))
    · unfold memB
      apply ev_orV
      · exact ev_inInts (ev_var rfl) (ev_var rfl) (sq_of h2)
      · intro _
        cases st with
        | none =>
          refine ev_is (v := .bl (false && false)) (ev_andV (ev_is (ev_notN (x := .non) (ev_var rfl)) rfl) fun h => by cases h) rfl
        | some s =>
          refine ev_is (v := .bl (true && decide (s ≤ x))) (ev_andV (ev_is (ev_notN (x := .int s) (ev_var rfl)) rfl) fun _ => ?_) (by rw [Bool.true_and])
          exact ev_op (ev_var rfl) (ev_var rfl) rv_I0
    · exact fun H2 e2 => q H2 e2
theorem ok_set (T : Tx K mg) : FnOk P w K mg base CX0 3 T.a_l_set T.fd_l_set P_l_set spSet := by
  have c_l_random := ok_rand (P := P) (w := w) (base := base) T
  refine T.F_l_set.ok sc_l_set (fun vs H Q E h => ?_) (fun cdv A outer s H vs Q E hr h => ?_)
  · obtain ⟨g, m, n, rfl, _⟩ := h
    rfl
  · obtain ⟨g, m, n, rfl, hg, hn, hm, q⟩ := h
    refine ⟨_, (pss_cons (ps_setLc (own := [("_law_number", 3)]) (i := 2) rfl nd_l_set rfl rfl (sw_true rfl rfl rfl (by decide +kernel)) (pi_range2 (by rfl) T.m_range (pa_cons pe_int (pa_cons (pe_op op_add (pv 1) pe_int) pa_nil))) (blkOk_by (N := N_l_set) (sc := (defScope s_l_set)) (by decide +kernel)) (fun _ _ _ _ _ => pg_name (i := 3) nd_l_set rfl (.inl rfl)) (fun _ _ _ _ _ => pts_one (pt_cmpR (k_eq (K := K) rfl hr.units) (pe_call c_l_random (hr.mono (by decide)) (by rfl) T.g_l_random T.F_l_random.kp T.b_l_random .nil pass0 (pa_cons (pv 0) (pa_cons pe_int pa_nil))) pe_int (nomark _))) (fun _ _ _ _ _ => (pv 3)))
      (pss_one (ps_ret (pe_tup (pa_cons (pv 2) (pa_cons (pe_ifExp (pt_cmpR op_gt (pe_call c_l_random (hr.mono (by decide)) (by rfl) T.g_l_random T.F_l_random.kp T.b_l_random .nil pass0 (pa_cons (pv 0) (pa_cons pe_int pa_nil))) pe_int (nomark _)) pe_non (pe_op op_add pe_int (pe_call c_l_random (hr.mono (by decide)) (by rfl) T.g_l_random T.F_l_random.kp T.b_l_random .nil pass0 (pa_cons (pv 0) (pa_cons (pe_op op_add (pv 1) pe_int) pa_nil))))) pa_nil)))))), ?_⟩
    apply q_set
    refine lc_rng2 (lo := 1) (n := (n : Int) + 1) ?_ ⟨by omega, by omega, by omega⟩ (fun x => rfl) (fun D i H2 => ∃ ns : List Int, H2 D = some (.lst (ns.map V.int)) ∧ H D = none ∧ D ≠ g ∧ Off g H H2 ∧ Gn H2 g (m + 11 * i) ∧
      ns.Pairwise (· < ·) ∧ ns.length ≤ i ∧ ∀ x ∈ ns, 1 ≤ x ∧ x ≤ i) ?_ ?_ ?_
    · apply ea_cons ev_c
      apply ea_cons
      · exact ev_op (ev_var rfl) ev_c rv_I0
      · exact ea_nil
    · intro D H1 e1 hD
      exact ⟨[], upd_same, free_of e1 hD, gn_ne (hg.ex e1) hD, Off.of (e1.trans (Ex.new hD)), ((hg.ex e1).ex (Ex.new hD)).up (by omega), .nil, Nat.le_refl _, fun x hx => by cases hx⟩
    · rintro D i H2 hi ⟨ns, hD, nD, Dg, of, g2, pw, hl, hx⟩
      refine ⟨.ref g, rfl, g, 3, m + 11 * i, rfl, g2, by omega, by decide, by decide, fun r H3 r0 r1 of3 g3 => ?_⟩
      have D3 := of3 D _ Dg hD
      have of23 : Off g H H3 := of.trans of3
      have g3' : Gn H3 g (m + 11 * ((i + 1 : Nat) : Int)) := g3.up (by push_cast; omega)
      refine ⟨.int r, .int 0, .int r, .int 0, rfl, rfl, decide (r = 0), by
        show V.bl (r == 0) = _
        congr 1, ?_⟩
      by_cases hr : r = 0
      · refine Eq.mpr (if_pos (decide_eq_true hr)) ?_
        refine ⟨.int (1 + (i : Int)), rfl, ns.map V.int, D3, ?_, ns ++ [1 + (i : Int)], ?_, nD, Dg, ?_, ?_, ?_, ?_, ?_⟩
        · rw [List.length_map]; exact sz_lt (by omega)
        · rw [upd_same, List.map_append]; rfl
        · intro x o nx hx
          rw [upd_ne (ne_of_none hx nD)]
          exact of23 x o nx hx
        · obtain ⟨a, b, c, h1, h2⟩ := g3'
          exact ⟨a, b, c, by rw [upd_ne (Ne.symm Dg)]; exact h1, h2⟩
        · refine List.pairwise_append.mpr ⟨pw, List.pairwise_singleton _ _, fun a ha b hb => ?_⟩
          have := (hx a ha).2
          rw [List.mem_singleton.mp hb]
          omega
        · rw [List.length_append, List.length_singleton]; omega
        · intro x hm
          rcases List.mem_append.mp hm with hm | hm
          · have := hx x hm
            push_cast
            omega
          · rw [List.mem_singleton.mp hm]
            push_cast
            omega
      · refine Eq.mpr (if_neg (by rw [decide_eq_false hr]; decide)) ?_
        refine ⟨ns, D3, nD, Dg, of23, g3', pw, by omega, fun x hm => ?_⟩
        have := hx x hm
        push_cast
        omega
    · rintro D H2 ⟨ns, hD, nD, Dg, of, g2, pw, hl, hx⟩
      have en : ((n : Int) + 1 - 1).toNat = n := by omega
      rw [en] at g2 hl hx
      refine ⟨.ref D, rfl, .ref g, rfl, g, 3, m + 11 * n, rfl, g2, by omega, by decide, by decide, fun r H3 r0 r1 of3 g3 => ?_⟩
      have D3 := of3 D _ Dg hD
      -- the end, with the start st
      have fin : ∀ (st : Option Int) H4, Off g H3 H4 → Gn H4 g (m + 11 * (n + 2)) → (∀ s, st = some s → 1 ≤ s ∧ s ≤ 42) → (fun vs H5 => vs.length ≤ sizeLine ∧ ∀ p, H5 p = none → Q (.ref p) (upd H5 p (.tup vs))) [V.ref D, stV st] H4 := fun st H4 of4 g4 hst => by
        refine ⟨sz_of (by show 2 ≤ 100000; decide), fun p np => q p ns st _ ?_ ?_ (g4.ex (Ex.new np)) ⟨D, upd_same, Ex.new np _ _ (of4 _ _ Dg D3), gn_ne g4 np, Dg⟩ ⟨pw, by omega, fun x hm => ?_, hst⟩⟩
        · have pg := gn_ne g4 np
          cases e : H p with
          | none => rfl
          | some o =>
            have z := of4 p o pg (of3 p o pg (of p o pg e))
            rw [np] at z
            cases z
        · intro x o nx hx
          exact Ex.new np _ _ (of4 x o nx (of3 x o nx (of x o nx hx)))
        · have := hx x hm
          omega
      refine ⟨r, 0, rfl, rfl, decide (0 < r), rfl, ?_⟩
      by_cases hr : 0 < r
      · refine Eq.mpr (if_pos (decide_eq_true hr)) ?_
        exact fin none H3 (fun _ _ _ h => h) (g3.up (by omega)) (fun s hs => by cases hs)
      · refine Eq.mpr (if_neg (by rw [decide_eq_false hr]; decide)) ?_
        refine ⟨.ref g, rfl, .int n, rfl, n, 2, rfl, rfl, g, (n : Int) + 2, m + 11 * n + 11, rfl, g3, by omega, by omega, by omega, fun s H4 s0 s1 of4 g4 => ?_⟩
        refine ⟨1, s, rfl, rfl, ?_⟩
        exact fin (some (1 + s)) H4 of4 (g4.up (by omega)) (fun t ht => by cases ht; omega)
end
end K09




set_option Elab.async false
set_option linter.all false
set_option maxRecDepth 100000
set_option maxHeartbeats 4000000
namespace K09
open PySem PySem.Spec PyProof.Rows L2 Evl GS
local macro_rules | `(tactic| walk_at "bits") => `(tactic| first | (refine bits64 ?_; omega) | (apply bitsM; (focus walk_at "bits"); (focus walk_at "bits")))
local macro_rules | `(tactic| walk_at "side") => `(tactic| first
  | (apply CMulX.of; (focus walk_at "bits"); (focus walk_at "bits"); decide)
  | (dsimp only; omega) | assumption | decide)
local macro_rules | `(tactic| walk_at "rv") => `(tactic| first | exact rv_I0 | (apply rv_I; walk_at "side"))
local macro_rules | `(tactic| walk_at "ev") => `(tactic| first
  | exact ev_c
  | exact ev_var rfl
  | (apply ev_op; (focus walk_at "ev"); (focus walk_at "ev"); (focus walk_at "rv"))
  | (apply ev_int1; walk_at "ev")
  | (apply ev_max2; (focus walk_at "ev"); (focus walk_at "ev"))
  | (apply ev_bits; walk_at "ev"))

set_option exponentiation.threshold 2000
theorem el_is {te : TE} {σ : L2.St} {H : Hp} {xs ys : List V} (h : EvL te σ H xs) (e : xs = ys) : EvL te σ H ys := e ▸ h
theorem ed_ints {K : PySem.W.Frag} {σ : L2.St} {H : Hp} {te : TE} {a : Addr} {ns : List Int} (h : Ev te σ H (.ref a)) (hs : SqL K H a (ns.map V.int)) : EvD K te σ H (.list (ns.map .int)) := ed_of h (.lst hs (rpInts ns))
theorem ed_newI {K : PySem.W.Frag} {σ : L2.St} {H : Hp} {te : TE} {ns : List Int} (h : EvL te σ H (ns.map V.int)) : EvD K te σ H (.list (ns.map .int)) := ed_new (EvL.ld h fun _ => rpInts _)
theorem ev_neI {K : PySem.W.Frag} {σ : L2.St} {H : Hp} {ta tb : TE} {a b : List Int} (ha : EvD K ta σ H (.list (a.map .int))) (hb : EvD K tb σ H (.list (b.map .int))) : Ev (tOp (rNeD K) ta tb) σ H (.bl (!decide (a = b))) := by
  have z := ev_neD ha hb (nodict_ints a) (nodict_ints b) (shaped_ints a) (shaped_ints b)
  rwa [eqv_ints] at z
section
variable {P : Program} {w : World} {K : PySem.W.Frag} {mg : Str → Option Value} {base : Heap}
theorem ok_form (T : Tx K mg) : FnOk P w K mg base CX0 1 T.a_l_form T.fd_l_form P_l_form spForm := by
  refine T.F_l_form.ok sc_l_form (fun vs H Q E h => ?_) (fun cdv A outer s H vs Q E hr h => ?_)
  · obtain ⟨t, ns, st, rfl, _⟩ := h
    rfl
  · obtain ⟨t, ns, st, rfl, ⟨l, h1, h2⟩, ok, q⟩ := h
    refine ⟨_, (pss_cons (ps_asg (pv 0) (k_gtup (K := K) (n := 2) rfl rfl (pgs_cons (pg_name (i := 1) nd_l_form rfl (.inl rfl)) (pgs_cons (pg_name (i := 2) nd_l_form rfl (.inr rfl)) pgs_nil))))
      (pss_cons (ps_if (pt_cmpR c_isN (pv 2) pe_non (nomark _)) (pss_one (ps_ret (pe_tup (pa_cons (pe_callB (c_sortDI rfl) (by rfl) T.m_sorted (by decide +kernel) (pa_cons (pe_callTy (k_dictP (K := K) rfl rfl) (by rfl) T.m_dict (by decide +kernel) (pa_cons (pe_lc (own := [("_law_number", 3)]) rfl nd_l_form (k_pil (K := K) rfl (pv 1)) (blkOk_by (N := N_l_form) (sc := (defScope s_l_form)) (by decide +kernel)) (fun _ _ _ _ _ => pg_name (i := 3) nd_l_form rfl (.inl rfl)) (fun _ _ _ _ _ => pts_nil) (fun _ _ _ _ _ => (pe_tup (pa_cons (pv 3) (pa_cons pe_int pa_nil))))) pa_nil)) pa_nil)) (pa_cons pe_non pa_nil))))) pss_nil)
      (pss_cons (ps_while PassesOwn.never (PW.pt (pw_and (pt_cmpR op_gt (pv 2) pe_int (nomark _)) (pw_and1 (pt_cmpR op_in_seq (pe_op op_sub (pv 2) pe_int) (pv 1) rfl)))) (pss_one (ps_set (i := 2) nd_l_form rfl (.inr rfl) (pe_op op_sub (pv 2) pe_int))))
      (pss_one (ps_ret (pe_tup (pa_cons (pe_callB (c_sortDI rfl) (by rfl) T.m_sorted (by decide +kernel) (pa_cons (pe_callTy (k_dictP (K := K) rfl rfl) (by rfl) T.m_dict (by decide +kernel) (pa_cons (pe_lc (own := [("_law_number", 3)]) rfl nd_l_form (k_pil (K := K) rfl (pv 1)) (blkOk_by (N := N_l_form) (sc := (defScope s_l_form)) (by decide +kernel)) (fun _ _ _ _ _ => pg_name (i := 3) nd_l_form rfl (.inl rfl)) (fun _ _ _ _ _ => pts_one (pt_cmpR op_lt (pv 3) (pv 2) (nomark _))) (fun _ _ _ _ _ => (pe_tup (pa_cons (pv 3) (pa_cons pe_int pa_nil))))) pa_nil)) pa_nil)) (pa_cons (pv 2) pa_nil)))))))), ?_⟩
    apply q_two rfl h1
    have nl := ok.len
    cases st with
    | none =>
      apply q_when (b := true)
      · exact et_test (ev_is (ev_isN (x := .non) (ev_var rfl)) rfl)
      · intro _ H1 e1
        refine (el_sortDict (K := K) (ns := ns) (a := l) (j := 3) (fun _ => true) (ev_var rfl) (sq_of h2) (by omega) ok.nd (by show 3 < 4; decide) (fun x => rfl) (fun n H2 hn H3 e3 Q3 q3 => q3 H3 (Ex.refl _))) H1 e1 _ fun r H2 nr e2 hr2 => ?_
        refine ⟨sz_of (by show 2 ≤ 100000; decide), fun p np => q p _ (free_of (e1.trans e2) np) ((e1.trans e2).trans (Ex.new np)) ⟨r, upd_same, ?_, free_of e1 nr⟩⟩
        have e : formN ns none = isort (ns.filter fun _ => true) := by
          unfold formN
          rw [dd_id ok.nd]
          rfl
        rw [e]
        exact Ex.new np _ _ hr2
      · intro z; cases z
    | some s =>
      have pos : ∀ x ∈ ns, 1 ≤ x := fun x hx => (ok.pos x hx).1
      apply q_when (b := false)
      · exact et_test (ev_is (ev_isN (x := .int s) (ev_var rfl)) rfl)
      · intro z; cases z
      intro _ H1 e1
      refine q_while (fun m σ' H' => ∃ i : Int, σ' = [some (.ref t), some (.ref l), some (.int i), none] ∧ Ex H H' ∧ 1 ≤ i ∧ m = i.toNat ∧ lowI ns i.toNat i = lowI ns s.toNat s) s.toNat ?_ ?_
      · exact ⟨s, rfl, e1, (ok.st1 s rfl).1, rfl, rfl⟩
      · rintro m σ' H' ⟨i, rfl, e2, i1, rfl, hi⟩
        refine ⟨decide (1 < i) && decide (i - 1 ∈ ns), ?_, fun hb H4 e4 => ?_, fun hb H4 e4 => ?_⟩
        · apply et_and
          · apply et_test
            exact ev_op (ev_var rfl) ev_c rv_I0
          · intro _
            apply et_test
            exact ev_inInts (k := i - 1) (ev_op (ev_var rfl) ev_c rv_I0) (ev_var rfl) (sq_of (e2 _ _ h2))
        · obtain ⟨b1, b2⟩ := Bool.and_eq_true_iff.mp hb
          have c1 := of_decide_eq_true b1
          have c2 := of_decide_eq_true b2
          refine ⟨fun σ2 H2 => σ2 = [some (.ref t), some (.ref l), some (.int (i - 1)), none] ∧ Ex H H2, ?_, ?_⟩
          · rintro σ2 H2 ⟨rfl, e5⟩
            refine ⟨(i - 1).toNat, by omega, i - 1, rfl, e5, by omega, rfl, ?_⟩
            rw [← hi]
            have ek : i.toNat = (i - 1).toNat + 1 := by omega
            rw [ek]
            show _ = (if i - 1 ∈ ns then lowI ns (i - 1).toNat (i - 1) else i)
            rw [if_pos c2]
          · apply s_asg (v := .int (i - 1))
            · exact ev_op (ev_var rfl) ev_c rv_I0
            · intro H5 e5
              exact ⟨rfl, (e2.trans e4).trans e5⟩
        · have no : i - 1 ∉ ns := fun hm => by
            have := pos _ hm
            have b1 : decide (1 < i) = true := decide_eq_true (by omega)
            have b2 : decide (i - 1 ∈ ns) = true := decide_eq_true hm
            rw [b1, b2] at hb
            cases hb
          have ei : formS ns (some s) = some i := by
            show some (lowI ns s.toNat s) = some i
            rw [← hi]
            congr 1
            have ek : i.toNat = (i - 1).toNat + 1 := by omega
            rw [ek]
            show (if i - 1 ∈ ns then lowI ns (i - 1).toNat (i - 1) else i) = i
            rw [if_neg no]
          have e24 := e2.trans e4
          refine (el_sortDict (K := K) (ns := ns) (a := l) (j := 3) (fun n => decide (n < i)) (ev_var rfl) (sq_of (e24 _ _ h2)) (by omega) ok.nd (by show 3 < 4; decide) (fun x => rfl) (fun n H2 hn => et_test (ev_op (ev_var rfl) (ev_var rfl) rv_I0))) H4 (Ex.refl _) _ fun r H5 nr e5 hr5 => ?_
          refine ⟨.int i, rfl, sz_of (by show 2 ≤ 100000; decide), fun p np => q p _ (free_of (e24.trans e5) np) ((e24.trans e5).trans (Ex.new np)) ⟨r, ?_, ?_, free_of e24 nr⟩⟩
          · rw [ei]
            exact upd_same
          · have e : formN ns (some s) = isort (ns.filter fun n => decide (n < i)) := by
              unfold formN
              rw [dd_id ok.nd, ei]
              rfl
            rw [e]
            exact Ex.new np _ _ hr5
theorem ok_list (T : Tx K mg) : FnOk P w K mg base CX0 3 T.a_l_list T.fd_l_list P_l_list (spList K) := by
  have c_l_random := ok_rand (P := P) (w := w) (base := base) T
  refine T.F_l_list.ok sc_l_list (fun vs H Q E h => ?_) (fun cdv A outer s H vs Q E hr h => ?_)
  · obtain ⟨g, a, m, ns, rfl, _⟩ := h
    rfl
  · obtain ⟨g, a, m, ns, rfl, hg, hs, hn, hm, q⟩ := h
    refine ⟨_, (pss_cons (ps_par (i := 2) (j := 3) rfl nd_l_list rfl rfl (by decide) rfl rfl (pa_cons (pe_callTy (k_list (K := K) rfl) (by rfl) T.m_list (by decide +kernel) (pa_cons (pv 1) pa_nil)) (pa_cons (pe_lst pa_nil) pa_nil)) (by rfl))
      (pss_cons (ps_while PassesOwn.never (pt_cmpR (k_ne (K := K) rfl hr.units) (pv 2) (pe_lst pa_nil) (nomark _)) (pss_cons (ps_expr (pe_bm PySem.F.plainAttrs_list PySem.F.slot_list_append PySem.F.type_list_append mt_append (pv 3) (pa_cons (pe_bm PySem.F.plainAttrs_list PySem.F.slot_list_pop PySem.F.type_list_pop mt_popAt (pv 2) (pa_cons (pe_call c_l_random (hr.mono (by decide)) (by rfl) T.g_l_random T.F_l_random.kp T.b_l_random .nil pass0 (pa_cons (pv 0) (pa_cons (pe_callB (k_len (K := K) rfl) (by rfl) T.m_len (by decide +kernel) (pa_cons (pv 2) pa_nil)) pa_nil))) pa_nil)) pa_nil)))
      (pss_one (ps_if (pt_cmpR (k_eq (K := K) rfl hr.units) (pe_call c_l_random (hr.mono (by decide)) (by rfl) T.g_l_random T.F_l_random.kp T.b_l_random .nil pass0 (pa_cons (pv 0) (pa_cons pe_int pa_nil))) pe_int (nomark _)) (pss_one (ps_expr (pe_bm PySem.F.plainAttrs_list PySem.F.slot_list_append PySem.F.type_list_append mt_append (pv 3) (pa_cons (pe_ix (k_ixl (K := K) rfl) (pv 3) (pe_call c_l_random (hr.mono (by decide)) (by rfl) T.g_l_random T.F_l_random.kp T.b_l_random .nil pass0 (pa_cons (pv 0) (pa_cons (pe_callB (k_len (K := K) rfl) (by rfl) T.m_len (by decide +kernel) (pa_cons (pv 3) pa_nil)) pa_nil))) (fun _ _ => rfl)) pa_nil)))) pss_nil))))
      (pss_one (ps_ret (pv 3))))), ?_⟩
    refine (el_list (K := K) (p := a) (ev_var rfl) hs) H (Ex.refl _) _ fun l H1 nl e1 hl => ?_
    refine (el_lst (vs := []) ea_nil (by decide)) H1 (Ex.refl _) _ fun f H2 nf e2 hf => ?_
    refine ⟨.ref l, .ref f, rfl, ?_⟩
    have nf0 : H f = none := free_of e1 nf
    have lf : l ≠ f := ne_of_none hl nf
    have lg : l ≠ g := gn_ne hg nl
    have fg : f ≠ g := gn_ne (hg.ex e1) nf
    refine q_while (fun k σ' H' => ∃ left found : List Int, σ' = [some (.ref g), some (.ref a), some (.ref l), some (.ref f)] ∧ k = left.length ∧ H' l = some (.lst (left.map V.int)) ∧ H' f = some (.lst (found.map V.int)) ∧
      Off g H H' ∧ left.length ≤ ns.length ∧ Gn H' g (m + 33 * ((ns.length - left.length : Nat) : Int)) ∧ found.length ≤ 2 * (ns.length - left.length) ∧ ∀ x, (x ∈ left ∨ x ∈ found) ↔ x ∈ ns) ns.length ?_ ?_
    · refine ⟨ns, [], rfl, rfl, e2 _ _ hl, hf, Off.of (e1.trans e2), Nat.le_refl _, ((hg.ex e1).ex e2).up (by omega), Nat.zero_le _, fun x => ⟨fun h => h.elim id (fun h => by cases h), .inl⟩⟩
    · rintro k σ' H' ⟨left, found, rfl, rfl, hl2, hf2, of, lln, g2, fl, mem⟩
      refine ⟨!decide (left = []), ?_, fun hb H3 e3 => ?_, fun hb H3 e3 => ?_⟩
      · exact et_test (ev_neI (ed_ints (ev_var rfl) (sq_of hl2)) (ed_newI (ns := []) (el_lst ea_nil (by decide))))
      · have ne : left ≠ [] := by
          intro z
          rw [z] at hb
          cases hb
        have lp : 0 < left.length := List.length_pos_iff.mpr ne
        have hl3 := e3 _ _ hl2
        have hf3 := e3 _ _ hf2
        have gx := g2.ex e3
        refine ⟨fun σ2 H2 => ∃ left2 found2 : List Int, σ2 = [some (.ref g), some (.ref a), some (.ref l), some (.ref f)] ∧ left2.length + 1 = left.length ∧ H2 l = some (.lst (left2.map V.int)) ∧ H2 f = some (.lst (found2.map V.int)) ∧
          Off g H H2 ∧ Gn H2 g (m + 33 * ((ns.length - left2.length : Nat) : Int)) ∧ found2.length ≤ 2 * (ns.length - left2.length) ∧ ∀ x, (x ∈ left2 ∨ x ∈ found2) ↔ x ∈ ns, ?_, ?_⟩
        · rintro σ2 H2 ⟨left2, found2, rfl, h1, h2, h3, h4, h5, h6, h7⟩
          exact ⟨left2.length, by omega, left2, found2, rfl, rfl, h2, h3, h4, by omega, h5, h6, h7⟩
        refine ⟨.ref f, rfl, .inl ⟨rfl, _, sq_of hf3⟩, .ref l, rfl, .inl ⟨rfl, _, sq_of hl3⟩, .ref g, rfl, .ref l, rfl, l, _, rfl, .inl (sq_of hl3), ?_⟩
        rw [List.length_map]
        refine ⟨g, (left.length : Int), m + 33 * ((ns.length - left.length : Nat) : Int), rfl, gx, by omega, by omega, by omega, fun r H4 r0 r1 of4 g4 => ?_⟩
        obtain ⟨i, rfl⟩ := Int.eq_ofNat_of_zero_le r0
        have il : i < left.length := by omega
        have hl4 := of4 _ _ lg hl3
        have hf4 := of4 _ _ fg hf3
        refine ⟨l, left.map V.int, i, i, .int left[i], rfl, rfl, hl4, by omega, by omega, seqIx_nat (by rw [List.length_map]; exact il), by rw [List.getElem?_map, List.getElem?_eq_getElem il]; rfl, ?_⟩
        refine ⟨f, found.map V.int, .int left[i], rfl, rfl, by rw [upd_ne (Ne.symm lf)]; exact hf4, by rw [List.length_map]; exact sz_lt (by omega), ?_⟩
        -- one moved
        have hlA : (upd (upd H4 l (.lst ((left.map V.int).eraseIdx i))) f (.lst (found.map V.int ++ [.int left[i]]))) l = some (.lst ((left.eraseIdx i).map V.int)) := by
          rw [upd_ne lf, upd_same, map_eraseIdx]
        have hfA : (upd (upd H4 l (.lst ((left.map V.int).eraseIdx i))) f (.lst (found.map V.int ++ [.int left[i]]))) f = some (.lst ((found ++ [left[i]]).map V.int)) := by
          rw [upd_same, List.map_append]; rfl
        have ofA : Off g H (upd (upd H4 l (.lst ((left.map V.int).eraseIdx i))) f (.lst (found.map V.int ++ [.int left[i]]))) := fun x o nx hx => by
          rw [upd_ne (ne_of_none hx nf0), upd_ne (ne_of_none hx nl)]
          exact of4 x o nx (e3 _ _ (of x o nx hx))
        have gA : Gn (upd (upd H4 l (.lst ((left.map V.int).eraseIdx i))) f (.lst (found.map V.int ++ [.int left[i]]))) g (m + 33 * ((ns.length - left.length : Nat) : Int) + 11) := by
          obtain ⟨x, y, z, z1, z2⟩ := g4
          exact ⟨x, y, z, by rw [upd_ne (Ne.symm fg), upd_ne (Ne.symm lg)]; exact z1, z2⟩
        have memA : ∀ x, (x ∈ left.eraseIdx i ∨ x ∈ found ++ [left[i]]) ↔ x ∈ ns := fun x => by
          rw [← mem x, List.mem_append, List.mem_singleton]
          have pe : x ∈ left ↔ x = left[i] ∨ x ∈ left.eraseIdx i := by
            have z := RK.perm_erase il
            rw [← z.mem_iff, List.mem_cons]
          rw [pe]
          constructor
          · rintro (h | h | h)
            · exact .inl (.inr h)
            · exact .inr h
            · exact .inl (.inl h)
          · rintro ((h | h) | h)
            · exact .inr (.inr h)
            · exact .inl h
            · exact .inr (.inl h)
        have ll2 : (left.eraseIdx i).length + 1 = left.length := by rw [List.length_eraseIdx_of_lt il]; omega
        dsimp only
        generalize upd (upd H4 l (.lst ((left.map V.int).eraseIdx i))) f (.lst (found.map V.int ++ [.int left[i]])) = HA at hlA hfA ofA gA ⊢
        have fl2 : (found ++ [left[i]]).length = found.length + 1 := by rw [List.length_append, List.length_singleton]
        generalize found ++ [left[i]] = found2 at hfA memA fl2 ⊢
        generalize left.eraseIdx i = left2 at hlA memA ll2 ⊢
        refine ⟨.ref g, rfl, g, 3, _, rfl, gA, by omega, by decide, by decide, fun r2 H5 s0 s1 of5 g5 => ?_⟩
        have hl5 := of5 _ _ lg hlA
        have hf5 := of5 _ _ fg hfA
        refine ⟨.int r2, .int 0, .int r2, .int 0, rfl, rfl, decide (r2 = 0), by
          show V.bl (r2 == 0) = _
          congr 1, ?_⟩
        by_cases hr : r2 = 0
        · refine Eq.mpr (if_pos (decide_eq_true hr)) ?_
          refine ⟨.ref f, rfl, .inl ⟨rfl, _, sq_of hf5⟩, .ref f, rfl, .ref g, rfl, .ref f, rfl, f, _, rfl, .inl (sq_of hf5), ?_⟩
          rw [List.length_map]
          refine ⟨g, (found2.length : Int), _, rfl, g5, by omega, by omega, by omega, fun r3 H6 t0 t1 of6 g6 => ?_⟩
          obtain ⟨j, rfl⟩ := Int.eq_ofNat_of_zero_le t0
          have jl : j < found2.length := by omega
          have hl6 := of6 _ _ lg hl5
          have hf6 := of6 _ _ fg hf5
          refine ⟨f, found2.map V.int, j, .int found2[j], rfl, rfl, sq_of hf6, atI_int (List.getElem?_eq_getElem jl), ?_⟩
          refine ⟨f, found2.map V.int, .int found2[j], rfl, rfl, hf6, by rw [List.length_map]; exact sz_lt (by omega), ?_⟩
          refine ⟨left2, found2 ++ [found2[j]], rfl, ll2, by rw [upd_ne lf]; exact hl6, by rw [upd_same, List.map_append]; rfl, fun x o nx hx => ?_, ?_, ?_, fun x => ?_⟩
          · rw [upd_ne (ne_of_none hx nf0)]
            exact of6 x o nx (of5 x o nx (ofA x o nx hx))
          · obtain ⟨x, y, z, z1, z2, z3, z4, z5, z6, z7⟩ := g6
            exact ⟨x, y, z, by rw [upd_ne (Ne.symm fg)]; exact z1, z2, z3, z4, z5, z6, by omega⟩
          · rw [List.length_append, List.length_singleton]; omega
          · rw [← memA x, List.mem_append, List.mem_singleton]
            constructor
            · rintro (h | h | h)
              · exact .inl h
              · exact .inr h
              · exact .inr (h ▸ List.getElem_mem jl)
            · rintro (h | h)
              · exact .inl h
              · exact .inr (.inl h)
        · refine Eq.mpr (if_neg (by rw [decide_eq_false hr]; decide)) ?_
          exact ⟨left2, found2, rfl, ll2, hl5, hf5, fun x o nx hx => of5 x o nx (ofA x o nx hx), g5.up (by omega), by omega, memA⟩
      · have eq : left = [] := by
          have z := hb
          cases left with
          | nil => rfl
          | cons x r => cases z
        subst eq
        apply s_ret
        · exact ev_var rfl
        intro H4 e4
        have e34 := e3.trans e4
        refine q f found H4 nf0 (fun x o nx hx => e34 _ _ (of x o nx hx)) ((g2.ex e34).up ?_) (e34 _ _ hf2) (fun x => ?_) ?_
        · simp
        · rw [← mem x]
          exact ⟨.inr, fun h => h.elim (fun h => by cases h) id⟩
        · simpa using fl
end
end K09




set_option Elab.async false
set_option linter.all false
set_option maxRecDepth 100000
set_option maxHeartbeats 4000000
namespace K09
open PySem PySem.Spec PyProof.Rows L2 Evl GS
local macro_rules | `(tactic| walk_at "bits") => `(tactic| first | (refine bits64 ?_; omega) | (apply bitsM; (focus walk_at "bits"); (focus walk_at "bits")))
local macro_rules | `(tactic| walk_at "side") => `(tactic| first
  | (apply CMulX.of; (focus walk_at "bits"); (focus walk_at "bits"); decide)
  | (dsimp only; omega) | assumption | decide)
local macro_rules | `(tactic| walk_at "rv") => `(tactic| first | exact rv_I0 | (apply rv_I; walk_at "side"))
local macro_rules | `(tactic| walk_at "ev") => `(tactic| first
  | exact ev_c
  | exact ev_var rfl
  | (apply ev_op; (focus walk_at "ev"); (focus walk_at "ev"); (focus walk_at "rv"))
  | (apply ev_int1; walk_at "ev")
  | (apply ev_max2; (focus walk_at "ev"); (focus walk_at "ev"))
  | (apply ev_bits; walk_at "ev"))

section
variable {K : PySem.W.Frag} {σ : L2.St} {H : Hp} {ta tb te tl : TE} {D : Ends} {tz tu : TS} {t : TT}
theorem q_parLL {i j : Nat} {xs ys : List V} (ha : EvL ta σ H xs) (hb : EvL tb σ H ys)
    (k : ∀ p r H2, H p = none → H r = none → p ≠ r → Ex H H2 → H2 p = some (.lst xs) → H2 r = some (.lst ys) → tz D ((σ.set i (some (.ref p))).set j (some (.ref r))) H2) :
    tSeq (tPar i j (tCons ta (tCons tb tNil))) tz D σ H :=
  ha H (Ex.refl H) _ fun p H1 n1 e1 hp => hb H1 e1 _ fun r H2 n2 e2 hr => ⟨.ref p, .ref r, rfl,
    k p r H2 n1 (free_of e1 n2) (ne_of_none hp n2) (e1.trans e2) (e2 _ _ hp) hr⟩
theorem ev_eqI {a b : List Int} (ha : EvD K ta σ H (.list (a.map .int))) (hb : EvD K tb σ H (.list (b.map .int))) : Ev (tOp (rEqD K) ta tb) σ H (.bl (decide (a = b))) := by
  have z := ev_eqD ha hb (nodict_ints a) (nodict_ints b) (shaped_ints a) (shaped_ints b)
  rwa [eqv_ints] at z
theorem ev_neSame {a : List Int} (ha : EvD K ta σ H (.list (a.map .int))) (hb : EvD K tb σ H (.list (a.map .int))) : Ev (tOp (rNeD K) ta tb) σ H (.bl false) :=
  ev_is (ev_neI ha hb) (by rw [decide_eq_true rfl]; rfl)
theorem ev_eqSame {a : List Int} (ha : EvD K ta σ H (.list (a.map .int))) (hb : EvD K tb σ H (.list (a.map .int))) : Ev (tOp (rEqD K) ta tb) σ H (.bl true) :=
  ev_is (ev_eqI ha hb) (by rw [decide_eq_true rfl])
theorem ev_neStr {s : Str} (ha : Ev ta σ H (.str s)) (hb : Ev tb σ H (.str s)) : Ev (tOp rNe ta tb) σ H (.bl false) := by
  have z := ev_op ha hb (rv_ne (H := H) (x := .str s) (y := .str s) rfl)
  exact ev_is z (by rw [decide_eq_true rfl]; rfl)
theorem et_or2 {a b : TT} (h1 : EvT a σ H false) (h2 : EvT b σ H false) : EvT (tOr a b) σ H false := et_is (et_or h1 fun _ => h2) rfl
theorem ev_and3 {a b c : TE} (h1 : Ev a σ H (.bl true)) (h2 : Ev b σ H (.bl true)) (h3 : Ev c σ H (.bl true)) : Ev (tAndV a (tAndV b c)) σ H (.bl true) :=
  ev_is (ev_andV h1 fun _ => ev_andV h2 fun _ => h3) rfl
theorem no_if {t : TT} {tu : TS} (h : EvT t σ H false) (k : ∀ H1, Ex H H1 → tz D σ H1) : tSeq (tIfS t tu tNext) tz D σ H :=
  q_when (b := false) h (fun z => by cases z) fun _ => k
theorem ev_neg {i : Int} (h : Ev ta σ H (.int i)) : Ev (tUn (rU fun i => .int (-i)) ta) σ H (.int (-i)) := fun H1 e Q q =>
  h H1 e _ fun H2 e2 => ⟨i, rfl, q H2 e2⟩
theorem ed_neg {i : Int} : EvD K (tUn (rU fun i => .int (-i)) (tC (.int i))) σ H (.int (-i)) := ed_int (ev_neg ev_c)
theorem ev_isB {a b : Bool} (ha : Ev ta σ H (.bl a)) (hb : Ev tb σ H (.bl b)) : Ev (tOp rIsB ta tb) σ H (.bl (decide (a = b))) := fun H1 e Q q =>
  ha H1 e _ fun H2 e2 => hb H2 (e.trans e2) _ fun H3 e3 => ⟨a, b, rfl, rfl, q H3 (e2.trans e3)⟩
theorem ev_notB {a b : Bool} (ha : Ev ta σ H (.bl a)) (hb : Ev tb σ H (.bl b)) : Ev (tOp rNotB ta tb) σ H (.bl (!decide (a = b))) := fun H1 e Q q =>
  ha H1 e _ fun H2 e2 => hb H2 (e.trans e2) _ fun H3 e3 => ⟨a, b, rfl, rfl, q H3 (e2.trans e3)⟩
theorem q_forD {j : Nat} {ds : List PyData} (h : EvLD K tl σ H ds) (y0 : Option V) (hy : σ = σ.set j y0)
    (hs : ∀ (N : L2.St → Hp → Prop) H' x d, (∀ H2, Ex H' H2 → N (σ.set j (some x)) H2) → Ex H H' → d ∈ ds → Rp K H' x d → tu { D with nx := N, ct := N, bk := tz D } (σ.set j (some x)) H')
    (hd : ∀ y H', Ex H H' → tz D (σ.set j y) H') : tSeq (tFor (iList K tl) (gName j) tu) tz D σ H :=
  h H (Ex.refl H) _ fun p xs H1 n1 e1 hp r1 => ⟨p, rfl, ⟨xs, sq_of hp⟩,
    for_list (D := { D with nx := tz D }) (xs := xs) (fun _ σ' H' => (∃ y, σ' = σ.set j y) ∧ Ex H1 H') ⟨⟨y0, hy⟩, Ex.refl _⟩ (fun i σ' H' _ z => sq_of (z.2 _ _ hp))
      (fun i x σ' H' hi z => by
        obtain ⟨⟨y, rfl⟩, e2⟩ := z
        obtain ⟨d, hd2, hr⟩ := r1.get hi
        show tu _ ((σ.set j y).set j (some x)) H'
        rw [List.set_set]
        exact hs _ H' x d (fun H2 e3 => ⟨⟨some x, rfl⟩, e2.trans e3⟩) (e1.trans e2) (List.mem_of_getElem? hd2) (hr.to e2))
      (fun σ' H' z => by
        obtain ⟨⟨y, rfl⟩, e2⟩ := z
        exact hd y H' (e1.trans e2))⟩
theorem et_or3 {a b c : TT} (h1 : EvT a σ H false) (h2 : EvT b σ H false) (h3 : EvT c σ H false) : EvT (tOr a (tOr b c)) σ H false :=
  et_is (et_or h1 fun _ => et_or h2 fun _ => h3) rfl
theorem ev_and2 {a b : TE} (h1 : Ev a σ H (.bl true)) (h2 : Ev b σ H (.bl true)) : Ev (tAndV a b) σ H (.bl true) := ev_is (ev_andV h1 fun _ => h2) rfl
theorem ev_neBl {a : Bool} (h1 : Ev ta σ H (.bl a)) (h2 : Ev tb σ H (.bl a)) : Ev (tOp (rNeD K) ta tb) σ H (.bl false) :=
  ev_is (ev_neD (ed_bl h1) (ed_bl h2) rfl rfl rfl rfl) (by
    show V.bl (!(a == a)) = .bl false
    rw [beq_self_eq_true]; rfl)
theorem ev_eqBl {a : Bool} (h1 : Ev ta σ H (.bl a)) (h2 : Ev tb σ H (.bl a)) : Ev (tOp (rEqD K) ta tb) σ H (.bl true) :=
  ev_is (ev_eqD (ed_bl h1) (ed_bl h2) rfl rfl rfl rfl) (by
    show V.bl (a == a) = .bl true
    rw [beq_self_eq_true])
theorem ev_eqInt {i : Int} (h1 : Ev ta σ H (.int i)) (h2 : Ev tb σ H (.int i)) : Ev (tOp (rEqD K) ta tb) σ H (.bl true) :=
  ev_is (ev_eqD (ed_int h1) (ed_int h2) rfl rfl rfl rfl) (by
    show V.bl (i == i) = .bl true
    rw [beq_self_eq_true])
/-- x is True, x is not True, x is False, .. -/
theorem ev_isNotT {te : TE} (h : Ev te σ H (.bl true)) : Ev (tOp rNotB te (tC (.bl true))) σ H (.bl false) := ev_is (ev_notB h ev_c) rfl
theorem ev_isNotF {te : TE} (h : Ev te σ H (.bl false)) : Ev (tOp rNotB te (tC (.bl false))) σ H (.bl false) := ev_is (ev_notB h ev_c) rfl
theorem ev_isT' {te : TE} (h : Ev te σ H (.bl true)) : Ev (tOp rIsB te (tC (.bl true))) σ H (.bl true) := ev_is (ev_isB h ev_c) rfl
theorem ev_isF' {te : TE} (h : Ev te σ H (.bl false)) : Ev (tOp rIsB te (tC (.bl false))) σ H (.bl true) := ev_is (ev_isB h ev_c) rfl
end
end K09




set_option Elab.async false
set_option linter.all false
set_option maxRecDepth 100000
set_option maxHeartbeats 4000000
namespace K09
open PySem PySem.Spec PyProof.Rows L2 Evl GS
local macro_rules | `(tactic| walk_at "bits") => `(tactic| first | (refine bits64 ?_; omega) | (apply bitsM; (focus walk_at "bits"); (focus walk_at "bits")))
local macro_rules | `(tactic| walk_at "side") => `(tactic| first
  | (apply CMulX.of; (focus walk_at "bits"); (focus walk_at "bits"); decide)
  | (dsimp only; omega) | assumption | decide)
local macro_rules | `(tactic| walk_at "rv") => `(tactic| first | exact rv_I0 | (apply rv_I; walk_at "side"))
local macro_rules | `(tactic| walk_at "ev") => `(tactic| first
  | exact ev_c
  | exact ev_var rfl
  | (apply ev_op; (focus walk_at "ev"); (focus walk_at "ev"); (focus walk_at "rv"))
  | (apply ev_int1; walk_at "ev")
  | (apply ev_max2; (focus walk_at "ev"); (focus walk_at "ev"))
  | (apply ev_bits; walk_at "ev"))

set_option exponentiation.threshold 2000
def rInsert : V → List V → Hp → VK → Prop := fun x vs H Q => ∃ (l : Addr) (xs : List V) (i : Int) (y : V), x = .ref l ∧ vs = [.int i, y] ∧ H l = some (.lst xs) ∧ xs.length < sizeLine ∧ 0 ≤ i ∧ i < 2 ^ 63 ∧ Q .non (upd H l (.lst (xs.take i.toNat ++ [y] ++ xs.drop i.toNat)))
/-- no whole number -/
def Odd (K : PySem.W.Frag) (H : Hp) (v : V) : Prop := ∃ (t : Value) (a b : Bool), (∀ H1, Ex H H1 → TyX K H1 v t) ∧ PySem.W.kitOne K t (.type "int") = some a ∧ PySem.W.kitOne K t (.type "bool") = some b ∧ (a && !b) = false
theorem Odd.mono {K : PySem.W.Frag} (v : V) (H H2 : Hp) (e : Ex H H2) (h : Odd K H v) : Odd K H2 v := by
  obtain ⟨t, a, b, ty, k1, k2, hab⟩ := h
  exact ⟨t, a, b, fun H3 e3 => ty H3 (e.trans e3), k1, k2, hab⟩
theorem Odd.rp {K : PySem.W.Frag} {H : Hp} {v : V} {d : PyData} (h : Rp K H v d) (n : isWhole d = false) : Odd K H v :=
  ⟨_, mW d, mB d, fun H1 e => (h.to e).ty, kit_ty (kWhole d), kit_ty (kBool d), by cases d <;> first | rfl | cases n⟩
theorem told_of {ns ms : List Int} {st : Option Int} (ok : SetOk ns st) (mem : ∀ x, x ∈ ms ↔ x ∈ ns) (hl : ms.length ≤ 2 * ns.length) : Told ms st :=
  ⟨by have := ok.len; omega, fun x hx => by have := ok.pos x ((mem x).mp hx); omega, fun s hs => by have := ok.st1 s hs; omega⟩
theorem memB_same {ns ms : List Int} {st : Option Int} (mem : ∀ x, x ∈ ms ↔ x ∈ ns) (x : Int) : memB ms st x = memB ns st x := by
  unfold memB
  rw [decide_eq_decide.mpr (mem x)]
theorem eqv_form (a b : List Int) (s t : Option Int) : PyData.eqv (.tuple [.list (a.map .int), stD s]) (.tuple [.list (b.map .int), stD t]) = (decide (a = b) && decide (s = t)) := by
  show (PyData.eqv (.list (a.map .int)) (.list (b.map .int)) && (PyData.eqv (stD s) (stD t) && true)) = _
  rw [eqv_ints, eqv_st, Bool.and_true]
theorem nd_form (a : List Int) (s : Option Int) : (PyData.tuple [.list (a.map .int), stD s]).hasDict = false := by
  show ((PyData.list (a.map .int)).hasDict || ((stD s).hasDict || false)) = false
  rw [nodict_ints, (st_flat s).1]; rfl
theorem sh_form (a : List Int) (s : Option Int) : SeqAt.shaped (.tuple [.list (a.map .int), stD s]) = true := by
  cases s with
  | none =>
    show ((PyData.canLayAll0 (a.map .int) && (true && true)) && decide (max (PyData.depthAll (a.map .int) + 1) (max 0 0) + 1 ≤ 64)) = true
    rw [lay_ints, depth_ints]; rfl
  | some s =>
    show ((PyData.canLayAll0 (a.map .int) && (true && true)) && decide (max (PyData.depthAll (a.map .int) + 1) (max 0 0) + 1 ≤ 64)) = true
    rw [lay_ints, depth_ints]; rfl
theorem toldRp {K : PySem.W.Frag} {H : Hp} {t : Addr} {ns : List Int} {st : Option Int} (h : ToldAt H t ns st) : Rp K H (.ref t) (.tuple [.list (ns.map .int), stD st]) := by
  obtain ⟨l, h1, h2⟩ := h
  exact .tup (st_of h1) (.cons (.lst (sq_of h2) (rpInts ns)) (.cons (stRp st) .nil))
structure StRepr (s : Option Int) : Prop where
  sh : (stD s).showable = true
  dp : (stD s).depth ≤ 60
  ln : (stD s).shown.length ≤ sizeLine
theorem stRepr {s : Option Int} (h : ∀ x, s = some x → 0 ≤ x ∧ x ≤ 42) : StRepr s := by
  cases s with
  | none => exact ⟨rfl, by decide, sz_of (by decide)⟩
  | some x =>
    obtain ⟨n, rfl⟩ := Int.eq_ofNat_of_zero_le (h x rfl).1
    have hn : n < 43 := by have := (h _ rfl).2; omega
    have z : ∀ k : Fin 43, (PyData.int (k : Nat)).showable = true ∧ (PyData.int (k : Nat)).shown.length ≤ 10 := by decide +kernel
    have q := z ⟨n, hn⟩
    exact ⟨q.1, by show 0 ≤ 60; decide, sz_of (Nat.le_trans q.2 (by decide))⟩
theorem off_put {g p : Addr} {H H1 : Hp} {o : HO} (a : Off g H H1) (n : H p = none) : Off g H (upd H1 p o) := fun x u ng hx => by
  rw [upd_ne (ne_of_none hx n)]
  exact a x u ng hx
theorem Gn.put {g p : Addr} {H : Hp} {o : HO} {m : Int} (h : Gn H g m) (n : p ≠ g) : Gn (upd H p o) g m := by
  obtain ⟨a, b, c, h1, h2⟩ := h
  exact ⟨a, b, c, by rw [upd_ne (Ne.symm n)]; exact h1, h2⟩
theorem LetsN.off {C : Addr} {H0 H H2 : Hp} {p g : Addr} {m : Int} {ns : List Int} {st : Option Int} (h : LetsN C H0 H p ns st) (hg : Gn H0 g m) (np : H0 p = none) (o : Off g H H2) : LetsN C H0 H2 p ns st := by
  obtain ⟨dx, nn, tt, h1, h2, h3, h4, h5⟩ := h
  exact ⟨dx, nn, tt, o _ _ (gn_ne hg np) h1, o _ _ (gn_ne hg h4) h2, o _ _ (gn_ne hg h5) h3, h4, h5⟩
theorem ToldN.off {H0 H H2 : Hp} {t g : Addr} {m : Int} {ns : List Int} {st : Option Int} (h : ToldN H0 H t ns st) (hg : Gn H0 g m) (nt : H0 t = none) (o : Off g H H2) : ToldN H0 H2 t ns st := by
  obtain ⟨l, h1, h2, h3⟩ := h
  exact ⟨l, o _ _ (gn_ne hg nt) h1, o _ _ (gn_ne hg h3) h2, h3⟩
theorem formS_le {ns : List Int} {st : Option Int} (ok : SetOk ns st) : ∀ s, formS ns st = some s → 1 ≤ s ∧ s ≤ 42 := by
  cases st with
  | none => intro s h; cases h
  | some s =>
    intro x h
    have e : lowI ns s.toNat s = x := Option.some.inj h
    have h1 := lowI_le ns s.toNat s
    have h2 := lowI_pos (fun x hx => (ok.pos x hx).1) s.toNat s (ok.st1 s rfl).1
    have h3 := (ok.st1 s rfl).2
    omega
theorem told_form {ns : List Int} {st : Option Int} (ok : SetOk ns st) : Told (formN ns st) (formS ns st) :=
  ⟨by have := formN_len ns st; have := ok.len; omega, fun x hx => by have := ok.pos x (formN_mem.mp hx).1; omega, fun s hs => by have := formS_le ok s hs; omega⟩
section
variable {K : PySem.W.Frag} {σ : L2.St} {H : Hp} {ta tb te : TE} {D : Ends} {tz : TS}
theorem ev_ixT {p : Addr} {xs : List V} {i : Int} {v : V} (ha : Ev ta σ H (.ref p)) (hb : Ev tb σ H (.int i)) (h : SqT K H p xs) (hi : atI xs i = some v) : Ev (tOp (rIxT K) ta tb) σ H v := ev_op ha hb (rv_ixT h hi)
theorem q_insert {l : Addr} {xs : List V} {i : Int} {y : V} (hl : H l = some (.lst xs)) (ha : Ev ta σ H (.ref l)) (hi : Ev tb σ H (.int i)) (hy : Ev te σ H y) (hz : xs.length < 100000) (h0 : 0 ≤ i) (h1 : i < 2 ^ 63)
    (k : ∀ H1, Ex H H1 → tz D σ (upd H1 l (.lst (xs.take i.toNat ++ [y] ++ xs.drop i.toNat)))) : tSeq (tDrop (tBM K "list" rInsert ta (tCons tb (tCons te tNil)))) tz D σ H :=
  ha H (Ex.refl H) _ fun H1 e1 => ⟨.inl ⟨rfl, _, sq_of (e1 _ _ hl)⟩, hi H1 e1 _ fun H2 e2 => hy H2 (e1.trans e2) _ fun H3 e3 => by
    have e := (e1.trans e2).trans e3
    exact ⟨l, xs, i, y, rfl, rfl, e _ _ hl, sz_lt hz, h0, h1, k H3 e⟩⟩
/-- (lets.numbers(), lets.start()) != form -/
theorem ev_same {C lp t2 : Addr} {E : XK} {i j : Nat} {ns : List Int} {st : Option Int} (hl : LetsAt C H lp ns st) (ht : ToldAt H t2 ns st) (hi : σ[i]? = some (some (.ref lp))) (hj : σ[j]? = some (some (.ref t2))) :
    Ev (tOp (rNeD K) (tTup (tCons (tMeth C "numbers" (spNums C) [] E (tVar i) tNil) (tCons (tMeth C "start" (spStart C) [] E (tVar i) tNil) tNil))) (tVar j)) σ H (.bl false) := by
  refine ev_is (ev_neD (ed_tup (eda_cons (ed_newI (el_nums (ev_var hi) hl)) (eda_cons (ed_of (ev_start (ev_var hi) hl) (stRp _)) eda_nil)) (by show 2 ≤ 100000; decide)) (ed_of (ev_var hj) (toldRp ht)) (nd_form _ _) (nd_form _ _) (sh_form _ _) (sh_form _ _)) ?_
  rw [eqv_form, decide_eq_true rfl, decide_eq_true rfl]
  rfl
end
def spOne : Sp := fun vs H Q _ => ∃ (g t : Addr) (m : Int) (ns : List Int) (st : Option Int), vs = [.ref g, .ref t] ∧ Gn H g m ∧ ToldG H g t ns st ∧ SetOk ns st ∧ m + 2700 < 2 ^ 59 ∧
  ∀ H2, Off g H H2 → Gn H2 g (m + 2640) → Q (.bl true) H2
section
variable {P : Program} {w : World} {K : PySem.W.Frag} {mg : Str → Option Value} {base : Heap}
theorem ok_one (T : Tx K mg) : FnG P w K mg base CX0 6 T.a_l_one_right T.fd_l_one_right P_l_one_right spOne := by
  have c_l_list := ok_list (P := P) (w := w) (base := base) T
  have c_l_form := ok_form (P := P) (w := w) (base := base) T
  have c_l_in := ok_lin (P := P) (w := w) (base := base) T
  have c_Lets_init := ok_linit (P := P) (w := w) (base := base) T
  have c_Lets_numbers := ok_nums (P := P) (w := w) (base := base) T
  have c_Lets_start := ok_start (P := P) (w := w) (base := base) T
  have c_Lets_contains := ok_in (P := P) (w := w) (base := base) T
  have c_Lets_eq := ok_eq (P := P) (w := w) (base := base) T
  refine fun_g T.F_l_one_right sc_l_one_right (fun vs H Q E h => ?_) (fun cdv A outer s H vs Q E hr hq h => ?_)
  · obtain ⟨g, t, m, ns, st, rfl, _⟩ := h
    rfl
  · obtain ⟨g, t, m, ns, st, rfl, hg, htg, ok, hm, q⟩ := h
    refine ⟨_, (pss_cons (ps_set (i := 2) nd_l_one_right rfl (.inl rfl) (pe_call c_l_list (hr.mono (by decide)) (by rfl) T.g_l_list T.F_l_list.kp T.b_l_list .nil pass0 (pa_cons (pv 0) (pa_cons (pe_ix (k_ixt (K := K) rfl) (pv 1) pe_int (fun _ _ => rfl)) pa_nil))))
      (pss_cons (ps_set (i := 3) nd_l_one_right rfl (.inl rfl) (pe_callTy (k_list (K := K) rfl) (by rfl) T.m_list (by decide +kernel) (pa_cons (pv 2) pa_nil)))
      (pss_cons (ps_set (i := 4) nd_l_one_right rfl (.inl rfl) (pe_make T.M_Lets c_Lets_init (hr.mono (by decide)) (by rfl) T.g_Lets T.b_Lets_init .nil passL (pa_cons (pv 2) (pa_cons (pe_ix (k_ixt (K := K) rfl) (pv 1) pe_int (fun _ _ => rfl)) pa_nil))))
      (pss_cons (ps_set (i := 5) nd_l_one_right rfl (.inl rfl) (pe_call c_l_form (hr.mono (by decide)) (by rfl) T.g_l_form T.F_l_form.kp T.b_l_form .nil pass0 (pa_cons (pv 1) pa_nil)))
      (pss_cons (ps_if (PW.pt (pw_or (pt_cmpR (k_ne (K := K) rfl hr.units) (pv 2) (pv 3) (nomark _)) (pw_or (pt_cmpR (k_ne (K := K) rfl hr.units) (pe_tup (pa_cons (pe_meth0 (pv 4) T.cl_Lets T.me_Lets_numbers c_Lets_numbers (hr.mono (by decide)) T.b_Lets_numbers .nil pass0) (pa_cons (pe_meth0 (pv 4) T.cl_Lets T.me_Lets_start c_Lets_start (hr.mono (by decide)) T.b_Lets_start .nil pass0) pa_nil))) (pv 5) (nomark _)) (pw_or1 (pt_cmpR op_ne (pe_callB (k_repr (K := K) rfl hq hr.units) (by rfl) T.m_repr (by decide +kernel) (pa_cons (pe_meth0 (pe_makeK0 T.M_Lets c_Lets_init (hr.mono (by decide)) (by rfl) T.g_Lets T.kw_Lets_numbers_start passL (pk_cons (pv 2) (pk_cons (pe_ix (k_ixt (K := K) rfl) (pv 1) pe_int (fun _ _ => rfl)) pk_nil))) T.cl_Lets T.me_Lets_start c_Lets_start (hr.mono (by decide)) T.b_Lets_start .nil pass0) pa_nil)) (pe_callB (k_repr (K := K) rfl hq hr.units) (by rfl) T.m_repr (by decide +kernel) (pa_cons (pe_ix (k_ixt (K := K) rfl) (pv 5) pe_int (fun _ _ => rfl)) pa_nil)) (nomark _)))))) (pss_one (ps_ret pe_bl)) pss_nil)
      (pss_cons (ps_expr (pe_bm PySem.F.plainAttrs_list PySem.F.slot_list_append PySem.F.type_list_append mt_append (pv 2) (pa_cons pe_int pa_nil)))
      (pss_cons (ps_set (i := 6) nd_l_one_right rfl (.inl rfl) (pe_meth0 (pv 4) T.cl_Lets T.me_Lets_numbers c_Lets_numbers (hr.mono (by decide)) T.b_Lets_numbers .nil pass0))
      (pss_cons (ps_expr (pe_bm PySem.F.plainAttrs_list PySem.F.slot_list_append PySem.F.type_list_append mt_append (pv 6) (pa_cons pe_int pa_nil)))
      (pss_cons (ps_expr (pe_bm PySem.F.plainAttrs_list PySem.F.slot_list_insert PySem.F.type_list_insert mt_insert (pv 6) (pa_cons pe_int (pa_cons pe_int pa_nil))))
      (pss_cons (ps_for PassesOwn.never rfl (k_pil (K := K) rfl (pe_op op_cat (pe_listRg rfl (by rfl) T.m_list (prg_2 (by rfl) T.m_range (pe_un un_neg pe_int) pe_int)) (pe_lst (pa_cons (pe_op op_powX pe_int pe_int) (pa_cons (pe_un un_neg (pe_op op_powX pe_int pe_int)) (pa_cons pe_int (pa_cons pe_int pa_nil))))))) (pg_name (i := 7) nd_l_one_right rfl (.inl rfl)) (pss_one (ps_if (pt_cmpR (k_ne (K := K) rfl hr.units) (pe_cmpR (k_inOwn (K := K) rfl T.me_Lets_contains.at_ T.me_Lets_contains.fn c_Lets_contains (hr.mono (by decide)) T.b_Lets_contains pass0) (pv 7) (pv 4) rfl) (pe_call c_l_in (hr.mono (by decide)) (by rfl) T.g_l_in T.F_l_in.kp T.b_l_in .nil pass0 (pa_cons (pv 1) (pa_cons (pv 7) pa_nil))) (nomark _)) (pss_one (ps_ret pe_bl)) pss_nil)))
      (pss_cons (ps_for PassesOwn.never rfl (k_pil (K := K) rfl (pe_lst (pa_cons pe_non (pa_cons pe_bl (pa_cons pe_bl (pa_cons pe_str (pa_cons (pe_lst (pa_cons pe_int pa_nil)) (pa_cons (pe_tup (pa_cons pe_int pa_nil)) (pa_cons (pe_lst pa_nil) (pa_cons pe_dnewK (pa_cons (pv 4) pa_nil))))))))))) (pg_name (i := 8) nd_l_one_right rfl (.inl rfl)) (pss_one (ps_if (pt_cmpR op_notBl (pe_cmpR (k_inOwn (K := K) rfl T.me_Lets_contains.at_ T.me_Lets_contains.fn c_Lets_contains (hr.mono (by decide)) T.b_Lets_contains pass0) (pv 8) (pv 4) rfl) pe_bl (nomark _)) (pss_one (ps_ret pe_bl)) pss_nil)))
      (pss_cons (ps_if (PW.pt (pw_or (pt_cmpR (k_ne (K := K) rfl hr.units) (pe_tup (pa_cons (pe_meth0 (pv 4) T.cl_Lets T.me_Lets_numbers c_Lets_numbers (hr.mono (by decide)) T.b_Lets_numbers .nil pass0) (pa_cons (pe_meth0 (pv 4) T.cl_Lets T.me_Lets_start c_Lets_start (hr.mono (by decide)) T.b_Lets_start .nil pass0) pa_nil))) (pv 5) (nomark _)) (pw_or1 (pt_cmpR op_notBl (pe_cmpR (k_eqOwn (K := K) rfl T.me_Lets_eq.at_ T.me_Lets_eq.fn c_Lets_eq (hr.mono (by decide)) T.b_Lets_eq pass0) (pv 4) (pe_make T.M_Lets c_Lets_init (hr.mono (by decide)) (by rfl) T.g_Lets T.b_Lets_init .nil passL (pa_cons (pe_ix (k_ixt (K := K) rfl) (pv 5) pe_int (fun _ _ => rfl)) (pa_cons (pe_ix (k_ixt (K := K) rfl) (pv 5) pe_int (fun _ _ => rfl)) pa_nil))) (nomark _)) pe_bl (nomark _))))) (pss_one (ps_ret pe_bl)) pss_nil)
      (pss_one (ps_ret (pe_and (pe_cmpR op_isBl (pe_cmpR (k_eqOwn (K := K) rfl T.me_Lets_eq.at_ T.me_Lets_eq.fn c_Lets_eq (hr.mono (by decide)) T.b_Lets_eq pass0) (pv 4) (pe_make T.M_Lets c_Lets_init (hr.mono (by decide)) (by rfl) T.g_Lets T.b_Lets_init .nil passL (pa_cons (pe_call c_l_list (hr.mono (by decide)) (by rfl) T.g_l_list T.F_l_list.kp T.b_l_list .nil pass0 (pa_cons (pv 0) (pa_cons (pe_ix (k_ixt (K := K) rfl) (pv 1) pe_int (fun _ _ => rfl)) pa_nil))) (pa_cons (pe_ix (k_ixt (K := K) rfl) (pv 1) pe_int (fun _ _ => rfl)) pa_nil))) (nomark _)) pe_bl (nomark _)) (pe_and (pe_cmpR op_isBl (pe_cmpR (k_eqOwn (K := K) rfl T.me_Lets_eq.at_ T.me_Lets_eq.fn c_Lets_eq (hr.mono (by decide)) T.b_Lets_eq pass0) (pv 4) (pe_ix (k_ixt (K := K) rfl) (pv 5) pe_int (fun _ _ => rfl)) (nomark _)) pe_bl (nomark _)) (pe_one (pe_cmpR op_isBl (pe_cmpR (k_eqOwn (K := K) rfl T.me_Lets_eq.at_ T.me_Lets_eq.fn c_Lets_eq (hr.mono (by decide)) T.b_Lets_eq pass0) (pv 4) (pv 5) (nomark _)) pe_bl (nomark _))))))))))))))))))), ?_⟩
    obtain ⟨l, h1, h2, tg, lg⟩ := id htg
    have nl := ok.len
    have sr := stRepr (s := formS ns st) fun x hx => by
      have := formS_le ok x hx
      omega
    apply q_set
    refine ⟨.ref g, rfl, .ref t, rfl, t, [.ref l, stV st], 0, .ref l, rfl, rfl, st_of h1, rfl, g, l, m, ns, rfl, hg, sq_of h2, nl, by omega, fun p ms H1 np of1 g1 hp mem hms => ?_⟩
    have pg : p ≠ g := gn_ne hg np
    have told := told_of ok mem hms
    have fN : formN ms st = formN ns st := formN_same mem st
    have fS : formS ms st = formS ns st := formS_same mem st
    -- kept
    apply q_asgL (xs := ms.map V.int)
    · exact el_list (ev_var rfl) (sq_of hp)
    intro kp H2 nk e2 hk
    have hp2 := e2 _ _ hp
    have g2 := g1.ex e2
    -- lets
    obtain ⟨l1, j1, j2, _, _⟩ := id (htg.off (of1.ex e2))
    apply q_set
    refine (el_make (K := K) (C := T.a_Lets) (ns := ms) (st := st) (ev_var rfl) (sq_of hp2) (ev_ixT (ev_var rfl) ev_c (st_of j1) rfl) told) H2 (Ex.refl _) _ fun lp H3 nlp e3 hlp => ?_
    rw [fN, fS] at hlp
    have hp3 := e3 _ _ hp2
    have g3 := g2.ex e3
    -- its form
    apply q_set
    refine ⟨.ref t, rfl, t, ns, st, rfl, (htg.off ((of1.ex e2).ex e3)).at, ok, fun t2 H4 nt2 e4 ht2 => ?_⟩
    have of4 : Off g H H4 := ((of1.ex e2).ex e3).ex e4
    have g4 := g3.ex e4
    have hl4 := hlp.mono e4
    have tl4 := (htg.off of4).at
    obtain ⟨l4, k1, k2⟩ := id tl4
    obtain ⟨l5, f1, f2, _⟩ := id ht2
    refine no_if (et_or3 (et_test (ev_neSame (ed_ints (ev_var rfl) (sq_of (e4 _ _ hp3))) (ed_ints (ev_var rfl) (sq_of (e4 _ _ (e3 _ _ hk)))))) (et_test (ev_same hl4.at ht2.at rfl rfl))
      (et_test (ev_neStr (ev_repr (d := stD (formS ns st)) (ed_of (ev_startN (C := T.a_Lets) (ns := formN ns st) (by rw [← fN, ← fS]; exact el_makeK (ev_var rfl) (sq_of (e4 _ _ hp3)) (ev_ixT (ev_var rfl) ev_c (st_of k1) rfl) told)) (stRp _)) (.inl (st_flat _).1) sr.sh sr.dp sr.ln)
        (ev_repr (d := stD (formS ns st)) (ed_of (ev_ixT (ev_var rfl) ev_c (st_of f1) rfl) (stRp _)) (.inl (st_flat _).1) sr.sh sr.dp sr.ln)))) fun H5 e5 => ?_
    -- what was given changes
    refine q_app (l := p) (xs := ms.map V.int) (v := .int 9) (e5 _ _ (e4 _ _ hp3)) (ev_var rfl) ev_c (by rw [List.length_map]; have := told.len; omega) fun H6 e6 => ?_
    have e46 := e5.trans e6
    have of7 : Off g H (upd H6 p (.lst (ms.map V.int ++ [V.int 9]))) := off_put (of4.ex e46) np
    have hl7 : LetsN T.a_Lets H2 (upd H6 p (.lst (ms.map V.int ++ [V.int 9]))) lp (formN ns st) (formS ns st) := (hl4.mono e46).put nlp hp2
    have ht7 : ToldN H3 (upd H6 p (.lst (ms.map V.int ++ [V.int 9]))) t2 (formN ns st) (formS ns st) := (ht2.mono e46).put nt2 hp3
    have g7 : Gn (upd H6 p (.lst (ms.map V.int ++ [V.int 9]))) g (m + 33 * ns.length) := (g4.ex e46).put pg
    generalize upd H6 p (.lst (ms.map V.int ++ [V.int 9])) = H7 at of7 hl7 ht7 g7 ⊢
    -- so does what it told
    apply q_asgL (xs := (formN ns st).map V.int)
    · exact el_nums (ev_var rfl) hl7.at
    intro r H8 nr e8 hr8
    have fl := formN_len ns st
    refine q_app (l := r) (xs := (formN ns st).map V.int) (v := .int 7) hr8 (ev_var rfl) ev_c (by rw [List.length_map]; omega) fun H9 e9 => ?_
    refine q_insert (l := r) (xs := (formN ns st).map V.int ++ [.int 7]) (i := 0) (y := .int 3) upd_same (ev_var rfl) ev_c ev_c (by rw [List.length_append, List.length_map]; show _ + 1 < _; omega) (by decide) (by decide) fun HA eA => ?_
    have eB : Ex H7 (upd HA r (.lst (((formN ns st).map V.int ++ [V.int 7]).take (0 : Int).toNat ++ [V.int 3] ++ ((formN ns st).map V.int ++ [V.int 7]).drop (0 : Int).toNat))) := (((e8.trans e9).mut nr).trans eA).mut nr
    generalize upd HA r (.lst (((formN ns st).map V.int ++ [V.int 7]).take (0 : Int).toNat ++ [V.int 3] ++ ((formN ns st).map V.int ++ [V.int 7]).drop (0 : Int).toNat)) = HB at eB ⊢
    have ofB := of7.ex eB
    have hlB := hl7.mono eB
    have htB := ht7.mono eB
    have gB := g7.ex eB
    -- each number
    refine q_forD (ds := (((List.range 48).map fun i => (-3 : Int) + (i : Nat)) ++ [10 ^ 29, -10 ^ 29, 1000, 1001]).map .int) (EvL.ld (el_is (el_cat (el_range2 (a := -3) (b := 45) (ev_neg ev_c) ev_c ⟨by omega, by omega, by omega, by omega⟩) (el_lst (vs := [.int (10 ^ 29), .int (-10 ^ 29), .int 1000, .int 1001]) (ea_cons (ev_op (z := .int (10 ^ 29)) ev_c ev_c (rv_I (C := CPowX) (g := fun i j => .int (i ^ j.toNat)) (i := 10) (j := 29) ⟨by decide, by decide +kernel⟩)) (ea_cons (ev_neg (ev_op (z := .int (10 ^ 29)) ev_c ev_c (rv_I (C := CPowX) (g := fun i j => .int (i ^ j.toNat)) (i := 10) (j := 29) ⟨by decide, by decide +kernel⟩))) (ea_cons ev_c (ea_cons ev_c ea_nil)))) (by decide)) (by decide)) (by decide +kernel)) fun _ => rpInts _) none rfl ?_ ?_
    · intro N H' x d cont e hd hr
      obtain ⟨k, _, rfl⟩ := List.mem_map.mp hd
      cases hr
      apply s_when (b := false)
      · refine et_test (ev_neBl (a := memB ns st k) (ev_is (ev_inI (ev_var rfl) (ev_var rfl) (hlB.mono e).at) (by rw [form_mem])) (ev_own (ea_cons (ev_var rfl) (ea_cons (ev_var rfl) ea_nil)) fun HC eC Q qq => ⟨t, ns, st, k, rfl, (htg.off (ofB.ex (e.trans eC))).at, qq⟩))
      · intro z; cases z
      · exact fun _ => cont
    intro y HC eC
    have ofC := ofB.ex eC
    have hlC := hlB.mono eC
    have htC := htB.mono eC
    have gC := gB.ex eC
    -- each thing that is no number
    obtain ⟨dx, nn, tt, c1, c2, c3, _⟩ := id hlC
    refine q_forP (P := Odd K) (n := 9) (fun v H1 H2 e h => h.mono _ _ _ e) ?_ (by decide) none rfl ?_ ?_
    · have z : ∀ {d : PyData} {te : TE} {σ : L2.St}, isWhole d = false → EvD K te σ HC d → EvQ te σ HC (Odd K) := fun n h => eq_of h fun v H1 r => Odd.rp r n
      refine ep_cons (fun v H1 H2 e h => h.mono _ _ _ e) (z (d := .none) rfl (ed_non ev_c)) (ep_cons (fun v H1 H2 e h => h.mono _ _ _ e) (z (d := .bool true) rfl (ed_bl ev_c)) (ep_cons (fun v H1 H2 e h => h.mono _ _ _ e) (z (d := .bool false) rfl (ed_bl ev_c))
        (ep_cons (fun v H1 H2 e h => h.mono _ _ _ e) (z (d := .str "1") rfl (ed_str ev_c)) (ep_cons (fun v H1 H2 e h => h.mono _ _ _ e) (z (d := .list [.int 1]) rfl (ed_lst (eda_cons (ed_int ev_c) eda_nil) (by decide)))
          (ep_cons (fun v H1 H2 e h => h.mono _ _ _ e) (z (d := .tuple [.int 1]) rfl (ed_tup (eda_cons (ed_int ev_c) eda_nil) (by decide))) (ep_cons (fun v H1 H2 e h => h.mono _ _ _ e) (z (d := .list []) rfl (ed_lst eda_nil (by decide)))
            (ep_cons (fun v H1 H2 e h => h.mono _ _ _ e) (z (d := .dict []) rfl ed_emp) (ep_cons (fun v H1 H2 e h => h.mono _ _ _ e) ?_ ep_nil))))))))
      exact fun H1 e Q qq => ⟨.ref lp, rfl, qq _ _ (Ex.refl _) ⟨_, false, false, ins_ty T.ins_Lets (e _ _ c1), T.kb_Lets_int, T.kb_Lets_bool, rfl⟩⟩
    · intro N H' x cont e hx
      obtain ⟨ty, a, b, ty1, b1, b2, hab⟩ := hx
      apply s_when (b := false)
      · exact et_test (ev_isNotF (ev_inO (ev_var rfl) (ev_var rfl) (hlC.mono e).at ty1 b1 b2 hab))
      · intro z; cases z
      · exact fun _ => cont
    intro y2 HD eD
    have ofD := ofC.ex eD
    have hlD := hlC.mono eD
    have htD := htC.mono eD
    have gD := gC.ex eD
    obtain ⟨l6, f3, f4, f5⟩ := id htD
    have idm := form_idem (ns := ns) (fun x hx => (ok.pos x hx).1) (st := st) fun s hs => (ok.st1 s hs).1
    refine no_if (et_or2 (et_test (ev_same hlD.at htD.at rfl rfl)) (et_test (ev_isNotT (ev_is (ev_eqL T.ins_Lets (ev_var rfl) hlD.at (el_make (ns := formN ns st) (st := formS ns st) (ev_ixT (ev_var rfl) ev_c (st_of f3) rfl) (sq_of f4) (ev_ixT (ev_var rfl) ev_c (st_of f3) rfl) (told_form ok))) (by
      rw [idm.1, idm.2, decide_eq_true rfl, decide_eq_true rfl]
      rfl))))) fun HE eE => ?_
    -- drawn again
    have ofE := ofD.ex eE
    have hlE := hlD.mono eE
    have htE := htD.mono eE
    have gE := gD.ex eE
    obtain ⟨l7, i1, i2, i3, i4⟩ := id (htg.off ofE)
    refine ⟨.ref lp, rfl, .ref g, rfl, .ref t, rfl, t, [.ref l7, stV st], 0, .ref l7, rfl, rfl, st_of i1, rfl, g, l7, _, ns, rfl, gE, sq_of i2, nl, by omega, fun p2 ms2 HF np2 ofF gF hp2F mem2 hms2 => ?_⟩
    obtain ⟨l8, j3, j4, _, _⟩ := id ((htg.off ofE).off ofF)
    refine ⟨.ref t, rfl, t, [.ref l8, stV st], 1, stV st, rfl, rfl, st_of j3, rfl, ?_⟩
    have hlF := hlE.off g2 nlp ofF
    have htF := htE.off g3 nt2 ofF
    refine fun x dx nx ndx ne => go_make (Q := fun y H2 => rEqOwn K T.a_Lets (spEq K T.a_Lets) E0 (.ref lp) y H2 _) (st := st) (sq_of hp2F) (told_of ok mem2 hms2) (fun p3 HG n3 eG hG => ?_) x dx nx ndx ne
    rw [formN_same mem2, formS_same mem2] at hG
    have hlG := hlF.mono eG
    have htG := htF.mono eG
    have gG := gF.ex eG
    have ofG : Off g H HG := (ofE.trans ofF).ex eG
    obtain ⟨ex, n1, t1, x1, x2, x3, _⟩ := id hlG
    obtain ⟨ey, n4, t4, y1, y2, y3, _⟩ := id hG
    refine ⟨lp, ex, _, _, rfl, x1, ins_ty T.ins_Lets y1 HG (Ex.refl _), notFirst_same, go_eqL hlG.at hG.at fun HH eH => ?_⟩
    rw [decide_eq_true rfl, decide_eq_true rfl]
    refine ⟨true, true, rfl, rfl, true, rfl, ?_⟩
    refine Eq.mpr (if_pos rfl) ?_
    have hlH := hlG.mono eH
    have htH := htG.mono eH
    obtain ⟨l9, f6, f7, f8⟩ := id htH
    refine (ev_and2 (ev_isF' (ev_eqO (T := "list") (ev_var rfl) hlH.at (ev_ixT (ev_var rfl) ev_c (st_of f6) rfl) (fun H1 e => ((Rp.lst (sq_of f7) (rpInts _)).to e).ty) T.ns_Lets_list T.kt_Lets_list))
      (ev_isF' (ev_eqO (T := "tuple") (ev_var rfl) hlH.at (ev_var rfl) (fun H1 e => ((toldRp htH.at).to e).ty) T.ns_Lets_tuple T.kt_Lets_tuple))) HH (Ex.refl _) _ fun HI eI => ?_
    have gI := (gG.ex eH).ex eI
    exact q _ ((ofG.ex eH).ex eI) (gI.up (by omega))
end
end K09




set_option Elab.async false
set_option linter.all false
set_option maxRecDepth 100000
set_option maxHeartbeats 4000000
namespace K09
open PySem PySem.Spec PyProof.Rows L2 Evl GS
local macro_rules | `(tactic| walk_at "bits") => `(tactic| first | (refine bits64 ?_; omega) | (apply bitsM; (focus walk_at "bits"); (focus walk_at "bits")))
local macro_rules | `(tactic| walk_at "side") => `(tactic| first
  | (apply CMulX.of; (focus walk_at "bits"); (focus walk_at "bits"); decide)
  | (dsimp only; omega) | assumption | decide)
local macro_rules | `(tactic| walk_at "rv") => `(tactic| first | exact rv_I0 | (apply rv_I; walk_at "side"))
local macro_rules | `(tactic| walk_at "ev") => `(tactic| first
  | exact ev_c
  | exact ev_var rfl
  | (apply ev_op; (focus walk_at "ev"); (focus walk_at "ev"); (focus walk_at "rv"))
  | (apply ev_int1; walk_at "ev")
  | (apply ev_max2; (focus walk_at "ev"); (focus walk_at "ev"))
  | (apply ev_bits; walk_at "ev"))

set_option exponentiation.threshold 2000
theorem op_go {r : V → V → Hp → VK → Prop} {ta tb : TE} {σ : L2.St} {H : Hp} {Q : VK} (h : ta σ H fun x H1 => tb σ H1 fun y H2 => r x y H2 Q) : tOp r ta tb σ H Q := h
theorem cons_go {te : TE} {ta : TA} {σ : L2.St} {H : Hp} {Q : List V → Hp → Prop} (h : te σ H fun x H1 => ta σ H1 fun xs H2 => Q (x :: xs) H2) : tCons te ta σ H Q := h
theorem next_tz {tz : TS} {D : Ends} {σ : L2.St} {H : Hp} (h : tz D σ H) : tNext { D with nx := tz D } σ H := h
def spRight : Sp := fun vs H Q _ => ∃ (g : Addr) (m : Int), vs = [.ref g] ∧ Gn H g m ∧ m + 8000 < 2 ^ 59 ∧ ∀ H2, Off g H H2 → Q (.bl true) H2
section
variable {P : Program} {w : World} {K : PySem.W.Frag} {mg : Str → Option Value} {base : Heap}
theorem ok_right (T : Tx K mg) : FnG P w K mg base CX0 7 T.a_l_right T.fd_l_right P_l_right spRight := by
  have c_l_random := ok_rand (P := P) (w := w) (base := base) T
  have c_l_set := ok_set (P := P) (w := w) (base := base) T
  have c_l_form := ok_form (P := P) (w := w) (base := base) T
  have c_l_one_right := ok_one (P := P) (w := w) (base := base) T
  have c_Lets_init := ok_linit (P := P) (w := w) (base := base) T
  have c_Lets_eq := ok_eq (P := P) (w := w) (base := base) T
  refine fun_g T.F_l_right sc_l_right (fun vs H Q E h => ?_) (fun cdv A outer s H vs Q E hr hq h => ?_)
  · obtain ⟨g, m, rfl, _⟩ := h
    rfl
  · obtain ⟨g, m, rfl, hg, hm, q⟩ := h
    refine ⟨_, (pss_cons (ps_par (i := 1) (j := 2) rfl nd_l_right rfl rfl (by decide) rfl rfl (pa_cons (pe_call c_l_set (hr.mono (by decide)) (by rfl) T.g_l_set T.F_l_set.kp T.b_l_set .nil pass0 (pa_cons (pv 0) (pa_cons (pe_ix (k_ixl (K := K) rfl) (pe_lst (pa_cons pe_int (pa_cons pe_int (pa_cons pe_int pa_nil)))) (pe_call c_l_random (hr.mono (by decide)) (by rfl) T.g_l_random T.F_l_random.kp T.b_l_random .nil pass0 (pa_cons (pv 0) (pa_cons pe_int pa_nil))) (fun _ _ => rfl)) pa_nil))) (pa_cons (pe_call c_l_set (hr.mono (by decide)) (by rfl) T.g_l_set T.F_l_set.kp T.b_l_set .nil pass0 (pa_cons (pv 0) (pa_cons pe_int pa_nil))) pa_nil)) (by rfl))
      (pss_cons (ps_if (PW.pt (pw_or (pt_not (pt_val (pe_callG c_l_one_right (hr.mono (by decide)) hq (by rfl) T.g_l_one_right T.F_l_one_right.kp T.b_l_one_right .nil pass0 (pa_cons (pv 0) (pa_cons (pv 1) pa_nil))))) (pw_or1 (pt_not (pt_val (pe_callG c_l_one_right (hr.mono (by decide)) hq (by rfl) T.g_l_one_right T.F_l_one_right.kp T.b_l_one_right .nil pass0 (pa_cons (pv 0) (pa_cons (pv 2) pa_nil)))))))) (pss_one (ps_ret pe_bl)) pss_nil)
      (pss_cons (ps_set (i := 3) nd_l_right rfl (.inl rfl) (pe_cmpR (k_eq (K := K) rfl hr.units) (pe_call c_l_form (hr.mono (by decide)) (by rfl) T.g_l_form T.F_l_form.kp T.b_l_form .nil pass0 (pa_cons (pv 1) pa_nil)) (pe_call c_l_form (hr.mono (by decide)) (by rfl) T.g_l_form T.F_l_form.kp T.b_l_form .nil pass0 (pa_cons (pv 2) pa_nil)) (nomark _)))
      (pss_one (ps_ret (pe_cmpR (k_eq (K := K) rfl hr.units) (pe_cmpR (k_eqOwn (K := K) rfl T.me_Lets_eq.at_ T.me_Lets_eq.fn c_Lets_eq (hr.mono (by decide)) T.b_Lets_eq pass0) (pe_make T.M_Lets c_Lets_init (hr.mono (by decide)) (by rfl) T.g_Lets T.b_Lets_init .nil passL (pa_cons (pe_callTy (k_list (K := K) rfl) (by rfl) T.m_list (by decide +kernel) (pa_cons (pe_ix (k_ixt (K := K) rfl) (pv 1) pe_int (fun _ _ => rfl)) pa_nil)) (pa_cons (pe_ix (k_ixt (K := K) rfl) (pv 1) pe_int (fun _ _ => rfl)) pa_nil))) (pe_make T.M_Lets c_Lets_init (hr.mono (by decide)) (by rfl) T.g_Lets T.b_Lets_init .nil passL (pa_cons (pe_callTy (k_list (K := K) rfl) (by rfl) T.m_list (by decide +kernel) (pa_cons (pe_ix (k_ixt (K := K) rfl) (pv 2) pe_int (fun _ _ => rfl)) pa_nil)) (pa_cons (pe_ix (k_ixt (K := K) rfl) (pv 2) pe_int (fun _ _ => rfl)) pa_nil))) (nomark _)) (pv 3) (nomark _))))))), ?_⟩
    refine ⟨.ref g, rfl, ?_⟩
    show tCons _ _ _ _ _
    refine cons_go (op_go ?_)
    refine (el_lst (vs := [.int 3, .int 9, .int 40]) (ea_cons ev_c (ea_cons ev_c (ea_cons ev_c ea_nil))) (by decide)) H (Ex.refl _) _ fun p0 H1 n0 e1 hp0 => ?_
    have p0g : p0 ≠ g := gn_ne hg n0
    refine ⟨.ref g, rfl, g, 3, m, rfl, hg.ex e1, by omega, by decide, by decide, fun r H2 r0 r1 of2 g2 => ?_⟩
    have at0 : ∃ n : Nat, n ≤ 40 ∧ atI [V.int 3, .int 9, .int 40] r = some (.int (n : Nat)) := by
      have : r = 0 ∨ r = 1 ∨ r = 2 := by omega
      rcases this with rfl | rfl | rfl
      · exact ⟨3, by decide, rfl⟩
      · exact ⟨9, by decide, rfl⟩
      · exact ⟨40, by decide, rfl⟩
    obtain ⟨n, hn, an⟩ := at0
    refine ⟨p0, _, r, .int (n : Nat), rfl, rfl, sq_of (of2 _ _ p0g hp0), an, ?_⟩
    refine ⟨g, m + 11, n, rfl, g2, hn, by omega, fun t1 ns1 st1 H3 nt1 of3 g3 tg1 ok1 => ?_⟩
    have of03 : Off g H H3 := (Off.of e1).trans (of2.trans of3)
    refine ⟨.ref g, rfl, g, _, 9, rfl, g3, by decide, by omega, fun t2 ns2 st2 H4 nt2 of4 g4 tg2 ok2 => ⟨.ref t1, .ref t2, rfl, ?_⟩⟩
    have tg1' := tg1.off of4
    -- each alone
    refine ⟨.ref g, rfl, .ref t1, rfl, g, t1, _, ns1, st1, rfl, g4, tg1', ok1, by omega, fun H5 of5 g5 => ⟨true, rfl, ?_⟩⟩
    refine Eq.mpr (if_neg (by decide)) ?_
    refine ⟨.ref g, rfl, .ref t2, rfl, g, t2, _, ns2, st2, rfl, g5, tg2.off of5, ok2, by omega, fun H6 of6 g6 => ⟨true, rfl, ?_⟩⟩
    refine Eq.mpr (if_neg (by decide)) ?_
    have of06 : Off g H H6 := ((of03.trans of4).trans of5).trans of6
    have ta := (tg1'.off of5).off of6
    have tb := (tg2.off of5).off of6
    have fd : ∀ {i : Nat} {σ : L2.St} {Hx : Hp} {t : Addr} {ns : List Int} {st : Option Int}, σ[i]? = some (some (.ref t)) → ToldG Hx g t ns st → SetOk ns st → EvD K (tCall spForm [] E0 (tCons (tVar i) tNil)) σ Hx (.tuple [.list ((formN ns st).map .int), stD (formS ns st)]) := by
      intro i σ Hx t ns st hi tt ok H1 e Q qq
      exact ⟨.ref t, hi, t, ns, st, rfl, tt.at.mono e, ok, fun t2 H2 nt2 e2 ht2 => qq _ _ e2 (toldRp ht2.at)⟩
    refine next_tz ?_
    apply q_asg (v := .bl (decide (formN ns1 st1 = formN ns2 st2) && decide (formS ns1 st1 = formS ns2 st2)))
    · refine ev_is (ev_eqD (fd rfl ta ok1) (fd rfl tb ok2) (nd_form _ _) (nd_form _ _) (sh_form _ _) (sh_form _ _)) ?_
      rw [eqv_form]
    intro H7 e7
    obtain ⟨l1, a1, a2⟩ := ta.at.mono e7
    obtain ⟨l2, b1, b2⟩ := tb.at.mono e7
    apply s_ret (v := .bl true)
    · refine ev_eqBl (a := decide (formN ns1 st1 = formN ns2 st2) && decide (formS ns1 st1 = formS ns2 st2)) (ev_eqNN T.ins_Lets (el_makeN (el_list (ev_ixT (ev_var rfl) ev_c (st_of a1) rfl) (sq_of a2)) (ev_ixT (ev_var rfl) ev_c (st_of a1) rfl) (told_of ok1 (fun x => Iff.rfl) (by omega))) (el_makeN (el_list (ev_ixT (ev_var rfl) ev_c (st_of b1) rfl) (sq_of b2)) (ev_ixT (ev_var rfl) ev_c (st_of b1) rfl) (told_of ok2 (fun x => Iff.rfl) (by omega)))) (ev_var rfl)
    · intro H8 e8
      exact q H8 ((of06.ex e7).ex e8)
end
end K09




set_option Elab.async false
set_option linter.all false
set_option maxRecDepth 100000
set_option maxHeartbeats 4000000
namespace K09
open PySem PySem.Spec PyProof.Rows L2 Evl GS
local macro_rules | `(tactic| walk_at "bits") => `(tactic| first | (refine bits64 ?_; omega) | (apply bitsM; (focus walk_at "bits"); (focus walk_at "bits")))
local macro_rules | `(tactic| walk_at "side") => `(tactic| first
  | (apply CMulX.of; (focus walk_at "bits"); (focus walk_at "bits"); decide)
  | (dsimp only; omega) | assumption | decide)
local macro_rules | `(tactic| walk_at "rv") => `(tactic| first | exact rv_I0 | (apply rv_I; walk_at "side"))
local macro_rules | `(tactic| walk_at "ev") => `(tactic| first
  | exact ev_c
  | exact ev_var rfl
  | (apply ev_op; (focus walk_at "ev"); (focus walk_at "ev"); (focus walk_at "rv"))
  | (apply ev_int1; walk_at "ev")
  | (apply ev_max2; (focus walk_at "ev"); (focus walk_at "ev"))
  | (apply ev_bits; walk_at "ev"))

set_option exponentiation.threshold 2000
theorem el_rep {σ : L2.St} {H : Hp} {ta tb : TE} {xs : List V} {n : Int} (ha : EvL ta σ H xs) (hb : Ev tb σ H (.int n)) (h1 : -(2 ^ 63) ≤ n) (h2 : n < 2 ^ 63) (hz : xs.length * n.toNat ≤ 100000) : EvL (tOp rRep ta tb) σ H (List.replicate n.toNat xs).flatten := fun H1 e Q q =>
  ha H1 e _ fun p H2 np e2 hp => hb H2 (e.trans e2) _ fun H3 e3 => ⟨p, n, xs, rfl, rfl, e3 _ _ hp, h1, h2, sz_of hz, fun r nr => q r _ (free_of (e2.trans e3) nr) ((e2.trans e3).trans (Ex.new nr)) upd_same⟩
def big : List Int := (List.replicate 100 [1000, 1]).flatten
section
variable {K : PySem.W.Frag} {σ : L2.St} {H : Hp} {ta tb te : TE} {C : Addr} {E : XK} {ns : List Int} {st : Option Int}
/-- n in a new one -/
theorem ev_inNew {x : Int} (ha : Ev ta σ H (.int x)) (hb : EvLets C tb σ H ns st) : Ev (tOp (rInOwn C (spIn K C) E) ta tb) σ H (.bl (memB ns st x)) := fun H1 e Q q =>
  ha H1 e _ fun H2 e2 => hb H2 (e.trans e2) _ fun p H3 n3 e3 hl =>
    (ev_inI (K := K) (E := E) (ta := tC (.int x)) (tb := tC (.ref p)) (σ := σ) ev_c ev_c hl.at) H3 (Ex.refl _) Q fun H4 e4 => q H4 ((e2.trans e3).trans e4)
end
def spLaw (K : PySem.W.Frag) : Sp := fun vs H Q _ => ∃ (a : Addr) (ns : List Int), vs = [.ref a] ∧ SqL K H a (ns.map V.int) ∧ ∀ H2, Q (.bl true) H2
section
variable {P : Program} {w : World} {K : PySem.W.Frag} {mg : Str → Option Value} {base : Heap}
theorem ok_law (T : Tx K mg) : FnG P w K mg base CX0 8 T.a_law T.fd_law P_law (spLaw K) := by
  have c_l_generator := ok_gen (P := P) (w := w) (base := base) T
  have c_l_right := ok_right (P := P) (w := w) (base := base) T
  have c_Lets_init := ok_linit (P := P) (w := w) (base := base) T
  have c_Lets_numbers := ok_nums (P := P) (w := w) (base := base) T
  have c_Lets_start := ok_start (P := P) (w := w) (base := base) T
  have c_Lets_contains := ok_in (P := P) (w := w) (base := base) T
  have c_Lets_eq := ok_eq (P := P) (w := w) (base := base) T
  refine fun_g T.F_law sc_law (fun vs H Q E h => ?_) (fun cdv A outer s H vs Q E hr hq h => ?_)
  · obtain ⟨a, ns, rfl, _⟩ := h
    rfl
  · obtain ⟨a, ns, rfl, hs, q⟩ := h
    refine ⟨_, (pss_cons (ps_for PassesOwn.never rfl (pi_range1 (by rfl) T.m_range (pa_cons pe_int pa_nil)) (pg_name (i := 1) nd_law rfl (.inl rfl)) (pss_one (ps_if (pt_not (pt_val (pe_callG c_l_right (hr.mono (by decide)) hq (by rfl) T.g_l_right T.F_l_right.kp T.b_l_right .nil pass0 (pa_cons (pe_call c_l_generator (hr.mono (by decide)) (by rfl) T.g_l_generator T.F_l_generator.kp T.b_l_generator .nil pass0 (pa_cons (pv 0) (pa_cons (pv 1) pa_nil))) pa_nil)))) (pss_one (ps_ret pe_bl)) pss_nil)))
      (pss_cons (ps_if (PW.pt (pw_or (pt_cmpR op_notBl (pe_cmpR (k_eqOwn (K := K) rfl T.me_Lets_eq.at_ T.me_Lets_eq.fn c_Lets_eq (hr.mono (by decide)) T.b_Lets_eq pass0) (pe_make T.M_Lets c_Lets_init (hr.mono (by decide)) (by rfl) T.g_Lets T.b_Lets_init .nil passL (pa_cons (pe_lst (pa_cons pe_int (pa_cons pe_int pa_nil))) (pa_cons pe_int pa_nil))) (pe_make T.M_Lets c_Lets_init (hr.mono (by decide)) (by rfl) T.g_Lets T.b_Lets_init .nil passL (pa_cons (pe_lst pa_nil) (pa_cons pe_int pa_nil))) (nomark _)) pe_bl (nomark _)) (pw_or (pt_cmpR op_notBl (pe_cmpR (k_eqOwn (K := K) rfl T.me_Lets_eq.at_ T.me_Lets_eq.fn c_Lets_eq (hr.mono (by decide)) T.b_Lets_eq pass0) (pe_make T.M_Lets c_Lets_init (hr.mono (by decide)) (by rfl) T.g_Lets T.bd_Lets_init v_none1 passL (pa_cons (pe_lst pa_nil) pa_nil)) (pe_make T.M_Lets c_Lets_init (hr.mono (by decide)) (by rfl) T.g_Lets T.b_Lets_init .nil passL (pa_cons (pe_lst pa_nil) (pa_cons pe_int pa_nil))) (nomark _)) pe_bl (nomark _)) (pw_or1 (pt_cmpR (k_inOwn (K := K) rfl T.me_Lets_contains.at_ T.me_Lets_contains.fn c_Lets_contains (hr.mono (by decide)) T.b_Lets_contains pass0) pe_int (pe_make T.M_Lets c_Lets_init (hr.mono (by decide)) (by rfl) T.g_Lets T.bd_Lets_init v_none1 passL (pa_cons (pe_lst pa_nil) pa_nil)) rfl))))) (pss_one (ps_ret pe_bl)) pss_nil)
      (pss_cons (ps_set (i := 2) nd_law rfl (.inl rfl) (pe_make T.M_Lets c_Lets_init (hr.mono (by decide)) (by rfl) T.g_Lets T.bd_Lets_init v_none1 passL (pa_cons (pe_op op_rep (pe_lst (pa_cons pe_int (pa_cons pe_int pa_nil))) pe_int) pa_nil)))
      (pss_one (ps_ret (pe_and (pe_cmpR (k_eq (K := K) rfl hr.units) (pe_meth0 (pv 2) T.cl_Lets T.me_Lets_numbers c_Lets_numbers (hr.mono (by decide)) T.b_Lets_numbers .nil pass0) (pe_lst (pa_cons pe_int (pa_cons pe_int pa_nil))) (nomark _)) (pe_and (pe_cmpR c_isN (pe_meth0 (pv 2) T.cl_Lets T.me_Lets_start c_Lets_start (hr.mono (by decide)) T.b_Lets_start .nil pass0) pe_non (nomark _)) (pe_and (pe_cmpR (k_eq (K := K) rfl hr.units) (pe_meth0 (pe_make T.M_Lets c_Lets_init (hr.mono (by decide)) (by rfl) T.g_Lets T.b_Lets_init .nil passL (pa_cons (pe_lst (pa_cons pe_int (pa_cons pe_int pa_nil))) (pa_cons pe_int pa_nil))) T.cl_Lets T.me_Lets_numbers c_Lets_numbers (hr.mono (by decide)) T.b_Lets_numbers .nil pass0) (pe_lst pa_nil) (nomark _)) (pe_one (pe_cmpR (k_eq (K := K) rfl hr.units) (pe_meth0 (pe_make T.M_Lets c_Lets_init (hr.mono (by decide)) (by rfl) T.g_Lets T.b_Lets_init .nil passL (pa_cons (pe_lst (pa_cons pe_int pa_nil)) (pa_cons pe_int pa_nil))) T.cl_Lets T.me_Lets_start c_Lets_start (hr.mono (by decide)) T.b_Lets_start .nil pass0) pe_int (nomark _))))))))))), ?_⟩
    apply q_forR1 (n := 3)
    · exact ea_cons ev_c ea_nil
    · decide
    rotate_left 3
    · exact fun i σ H3 => (∃ x1 x2 : Option V, σ = [some (.ref a), x1, x2]) ∧ Ex H H3
    · intro H1 e1
      exact ⟨⟨none, none, rfl⟩, e1⟩
    · rintro i σ H1 hi ⟨⟨x1, x2, rfl⟩, e1⟩
      refine ⟨.ref a, rfl, .int i, rfl, a, ns, i, rfl, ex_l e1 hs, by omega, fun g H2 ng e2 gg => ⟨g, _, rfl, gg, by omega, fun H3 of3 => ⟨true, rfl, ?_⟩⟩⟩
      refine Eq.mpr (if_neg (by decide)) ?_
      exact ⟨⟨_, _, rfl⟩, Ex.off (e1.trans e2) (free_of e1 ng) of3⟩
    · rintro σ H1 ⟨⟨x1, x2, rfl⟩, e1⟩
      have t0 : Told [] none := ⟨by decide, by decide, fun _ h => by cases h⟩
      refine no_if (et_or3 (et_test (ev_isNotT (ev_is (ev_eqNN (ns := formN [3, 2] (some 4)) (st := formS [3, 2] (some 4)) (ms := formN [] (some 2)) (su := formS [] (some 2)) T.ins_Lets
            (el_makeN (ns := [3, 2]) (st := some 4) (el_lst (ea_cons ev_c (ea_cons ev_c ea_nil)) (by decide)) ev_c ⟨by decide, by decide, fun s h => by cases h; decide⟩)
            (el_makeN (ns := []) (st := some 2) (el_lst ea_nil (by decide)) ev_c ⟨by decide, by decide, fun s h => by cases h; decide⟩)) (by decide +kernel))))
          (et_test (ev_isNotF (ev_is (ev_eqNN (ns := formN [] none) (st := none) (ms := formN [] (some 1000)) (su := formS [] (some 1000)) T.ins_Lets
            (el_makeN0 (ns := []) (el_lst ea_nil (by decide)) t0)
            (el_makeN (ns := []) (st := some 1000) (el_lst ea_nil (by decide)) ev_c ⟨by decide, by decide, fun s h => by cases h; decide⟩)) (by decide +kernel))))
          (et_B (ev_is (ev_inNew (x := 1) ev_c (el_makeN0 (ns := []) (el_lst ea_nil (by decide)) t0)) (by decide +kernel)))) fun H2 e2 => ?_
      apply q_set
      refine (el_makeN0 (C := T.a_Lets) (ns := big) (el_is (el_rep (n := 100) (el_lst (vs := [.int 1000, .int 1]) (ea_cons ev_c (ea_cons ev_c ea_nil)) (by decide)) ev_c (by decide) (by decide) (by decide)) (by decide +kernel)) ⟨by decide +kernel, by decide +kernel, fun s h => by cases h⟩) H2 (Ex.refl _) _ fun p H3 np e3 hp => ?_
      apply s_ret (v := .bl true)
      · refine ev_is (ev_andV (b := true && (true && true)) (ev_eqSame (a := [1, 1000]) (ed_newI (el_is (el_nums (ev_var rfl) hp.at) (by decide +kernel))) (ed_newI (ns := [1, 1000]) (el_lst (ea_cons ev_c (ea_cons ev_c ea_nil)) (by decide)))) fun _ =>
          ev_andV (ev_is (ev_isN (x := .non) (ev_start (st := none) (ev_var rfl) hp.at)) rfl) fun _ => ev_andV
            (ev_eqSame (a := []) (ed_newI (el_is (el_numsN (C := T.a_Lets) (ns := formN [999, 1000] (some 1000)) (st := formS [999, 1000] (some 1000)) (el_makeN (ns := [999, 1000]) (st := some 1000) (el_lst (ea_cons ev_c (ea_cons ev_c ea_nil)) (by decide)) ev_c ⟨by decide, by decide, fun s h => by cases h; decide⟩)) (by decide +kernel))) (ed_newI (ns := []) (el_lst ea_nil (by decide)))) fun _ =>
            ev_eqInt (i := 999) (ev_is (ev_startN (C := T.a_Lets) (ns := formN [999] (some 1000)) (st := formS [999] (some 1000)) (el_makeN (ns := [999]) (st := some 1000) (el_lst (ea_cons ev_c ea_nil) (by decide)) ev_c ⟨by decide, by decide, fun s h => by cases h; decide⟩)) (by decide +kernel)) ev_c) rfl
      · intro H4 e4
        exact q H4
end
end K09




set_option Elab.async false
set_option linter.all false
set_option maxRecDepth 100000
set_option maxHeartbeats 4000000
namespace K09
open PySem PySem.Spec PyProof.Rows L2 Evl GS
theorem exm_of {K : PySem.W.Frag} {C S : Addr} (h1 : PySem.W.subIn K (.ref S) (.type "BaseException") = some true) (h2 : PySem.W.isClsIn K S = true) (h3 : PySem.W.typeIn K (.ref S) = some (.type "type"))
    (h4 : PySem.W.subIn K (.ref C) (.ref S) = some true) : PySem.W.exmOne K (.ref C) (.ref S) = some true := by
  have h2' : (PySem.W.clsIn K S).isSome = true := h2
  unfold PySem.W.exmOne PySem.W.kitCls
  simp only [h1, h2', h3, h4, BEq.rfl, Bool.and_self, if_true]
theorem kit_same {K : PySem.W.Frag} {C : Addr} : PySem.W.kitOne K (.ref C) (.ref C) = some true := by
  unfold PySem.W.kitOne
  rw [if_pos (by exact BEq.rfl)]
theorem kit_of {K : PySem.W.Frag} {t : Value} {S : Addr} {b : Bool} (h1 : (t == Value.ref S) = false) (h2 : PySem.W.isClsIn K S = true) (h3 : PySem.W.typeIn K (.ref S) = some (.type "type"))
    (h4 : PySem.W.subIn K t (.ref S) = some b) : PySem.W.kitOne K t (.ref S) = some b := by
  have h2' : (PySem.W.clsIn K S).isSome = true := h2
  unfold PySem.W.kitOne PySem.W.kitCls
  rw [h1]
  simp only [h2', h3, h4, BEq.rfl, Bool.and_self, if_true, Bool.false_eq_true, if_false]
theorem kit_bt {K : PySem.W.Frag} {C : Addr} {T : String} {b : Bool} (h : PySem.W.subIn K (.ref C) (.type T) = some b) (hm : PySem.W.kitMeta T = true) : PySem.W.kitOne K (.ref C) (.type T) = some b := by
  unfold PySem.W.kitOne PySem.W.kitCls
  rw [if_neg (by simp)]
  show (if PySem.W.kitMeta T = true then PySem.W.subIn K (.ref C) (.type T) else none) = some b
  rw [if_pos hm]
  exact h
theorem all_mk {P : Program} {w : World} {K : PySem.W.Frag} {h : Heap} {mg : Str → Option Value} {fa : Addr} (X : K.In h) (G : h.Ns mainGlobals mg) (hfa : mg "law" = some (.ref fa))
    {a_is_whole a_may_be_told a_are_numbers a_l_hash a_l_random a_l_cell a_l_generator a_l_in a_l_set a_l_form a_l_list a_l_one_right a_l_right a_law a_GapError a_InvalidNumber a_InvalidList a_Lets ai_InvalidNumber td_InvalidNumber ai_InvalidList td_InvalidList am_Lets_init td_Lets_init am_Letssettle am_Lets_numbers am_Lets_start am_Lets_contains am_Lets_eq : Addr}
    {od_is_whole an_is_whole : Option Addr} {sl_is_whole : Array (Option Value)} {oc_is_whole kV_is_whole dc_is_whole pm_is_whole cd_is_whole ct_is_whole : Value}
    {od_may_be_told an_may_be_told : Option Addr} {sl_may_be_told : Array (Option Value)} {oc_may_be_told kV_may_be_told dc_may_be_told pm_may_be_told cd_may_be_told ct_may_be_told : Value}
    {od_are_numbers an_are_numbers : Option Addr} {sl_are_numbers : Array (Option Value)} {oc_are_numbers kV_are_numbers dc_are_numbers pm_are_numbers cd_are_numbers ct_are_numbers : Value}
    {od_l_hash an_l_hash : Option Addr} {sl_l_hash : Array (Option Value)} {oc_l_hash kV_l_hash dc_l_hash pm_l_hash cd_l_hash ct_l_hash : Value}
    {od_l_random an_l_random : Option Addr} {sl_l_random : Array (Option Value)} {oc_l_random kV_l_random dc_l_random pm_l_random cd_l_random ct_l_random : Value}
    {od_l_cell an_l_cell : Option Addr} {sl_l_cell : Array (Option Value)} {oc_l_cell kV_l_cell dc_l_cell pm_l_cell cd_l_cell ct_l_cell : Value}
    {od_l_generator an_l_generator : Option Addr} {sl_l_generator : Array (Option Value)} {oc_l_generator kV_l_generator dc_l_generator pm_l_generator cd_l_generator ct_l_generator : Value}
    {od_l_in an_l_in : Option Addr} {sl_l_in : Array (Option Value)} {oc_l_in kV_l_in dc_l_in pm_l_in cd_l_in ct_l_in : Value}
    {od_l_set an_l_set : Option Addr} {sl_l_set : Array (Option Value)} {oc_l_set kV_l_set dc_l_set pm_l_set cd_l_set ct_l_set : Value}
    {od_l_form an_l_form : Option Addr} {sl_l_form : Array (Option Value)} {oc_l_form kV_l_form dc_l_form pm_l_form cd_l_form ct_l_form : Value}
    {od_l_list an_l_list : Option Addr} {sl_l_list : Array (Option Value)} {oc_l_list kV_l_list dc_l_list pm_l_list cd_l_list ct_l_list : Value}
    {od_l_one_right an_l_one_right : Option Addr} {sl_l_one_right : Array (Option Value)} {oc_l_one_right kV_l_one_right dc_l_one_right pm_l_one_right cd_l_one_right ct_l_one_right : Value}
    {od_l_right an_l_right : Option Addr} {sl_l_right : Array (Option Value)} {oc_l_right kV_l_right dc_l_right pm_l_right cd_l_right ct_l_right : Value}
    {od_law an_law : Option Addr} {sl_law : Array (Option Value)} {oc_law kV_law dc_law pm_law cd_law ct_law : Value}
    {nm_InvalidNumber q_InvalidNumber : Str} {N_InvalidNumber : Addr} {bs_InvalidNumber bm_InvalidNumber : List Value} {sn_InvalidNumber : List Str} {su_InvalidNumber : List Value} {ab_InvalidNumber : Bool} {co_InvalidNumber : Option Bool} {dd_InvalidNumber : Option Addr} {x0_InvalidNumber x1_InvalidNumber x2_InvalidNumber x3_InvalidNumber x5_InvalidNumber : Option Value}
    {ot_InvalidNumber : Value} {od_InvalidNumber : Option Addr} {nt_InvalidNumber : Nat} {st_InvalidNumber : Array (Option Value)}
    {od_InvalidNumber_init an_InvalidNumber_init : Option Addr} {sl_InvalidNumber_init : Array (Option Value)} {oc_InvalidNumber_init kV_InvalidNumber_init dc_InvalidNumber_init pm_InvalidNumber_init cd_InvalidNumber_init ct_InvalidNumber_init : Value}
    {nm_InvalidList q_InvalidList : Str} {N_InvalidList : Addr} {bs_InvalidList bm_InvalidList : List Value} {sn_InvalidList : List Str} {su_InvalidList : List Value} {ab_InvalidList : Bool} {co_InvalidList : Option Bool} {dd_InvalidList : Option Addr} {x0_InvalidList x1_InvalidList x2_InvalidList x3_InvalidList x5_InvalidList : Option Value}
    {ot_InvalidList : Value} {od_InvalidList : Option Addr} {nt_InvalidList : Nat} {st_InvalidList : Array (Option Value)}
    {od_InvalidList_init an_InvalidList_init : Option Addr} {sl_InvalidList_init : Array (Option Value)} {oc_InvalidList_init kV_InvalidList_init dc_InvalidList_init pm_InvalidList_init cd_InvalidList_init ct_InvalidList_init : Value}
    {ot_Lets_init : Value} {oz_Lets_init : Option Addr} {nt_Lets_init : Nat} {st_Lets_init : Array (Option Value)}
    {od_Lets_init an_Lets_init : Option Addr} {sl_Lets_init : Array (Option Value)} {oc_Lets_init kV_Lets_init dc_Lets_init pm_Lets_init cd_Lets_init ct_Lets_init : Value}
    {od_Letssettle an_Letssettle : Option Addr} {sl_Letssettle : Array (Option Value)} {oc_Letssettle kV_Letssettle dc_Letssettle pm_Letssettle cd_Letssettle ct_Letssettle : Value}
    {od_Lets_numbers an_Lets_numbers : Option Addr} {sl_Lets_numbers : Array (Option Value)} {oc_Lets_numbers kV_Lets_numbers dc_Lets_numbers pm_Lets_numbers cd_Lets_numbers ct_Lets_numbers : Value}
    {od_Lets_start an_Lets_start : Option Addr} {sl_Lets_start : Array (Option Value)} {oc_Lets_start kV_Lets_start dc_Lets_start pm_Lets_start cd_Lets_start ct_Lets_start : Value}
    {od_Lets_contains an_Lets_contains : Option Addr} {sl_Lets_contains : Array (Option Value)} {oc_Lets_contains kV_Lets_contains dc_Lets_contains pm_Lets_contains cd_Lets_contains ct_Lets_contains : Value}
    {od_Lets_eq an_Lets_eq : Option Addr} {sl_Lets_eq : Array (Option Value)} {oc_Lets_eq kV_Lets_eq dc_Lets_eq pm_Lets_eq cd_Lets_eq ct_Lets_eq : Value}
    {tk_MOST_NUMBERS : Tok}
    {tk_GREATEST : Tok}
    (g_is_whole : PySem.W.nsIn K mainGlobals "is_whole" = some (some (.ref a_is_whole)))
    (l_is_whole : K.lookup a_is_whole = some ⟨oc_is_whole, od_is_whole, .func (PySem.W.fnOf "is_whole" "is_whole" (defArgs s_is_whole) (defBody s_is_whole) (defScope s_is_whole) .none kV_is_whole dc_is_whole pm_is_whole an_is_whole cd_is_whole ct_is_whole), sl_is_whole⟩)
    (c_is_whole : PySem.W.codeIn K cd_is_whole "is_whole" = true)
    (k_is_whole : PySem.W.keepIn K (.ref a_is_whole) = true)
    (g_may_be_told : PySem.W.nsIn K mainGlobals "_may_be_told" = some (some (.ref a_may_be_told)))
    (l_may_be_told : K.lookup a_may_be_told = some ⟨oc_may_be_told, od_may_be_told, .func (PySem.W.fnOf "_may_be_told" "_may_be_told" (defArgs s_may_be_told) (defBody s_may_be_told) (defScope s_may_be_told) .none kV_may_be_told dc_may_be_told pm_may_be_told an_may_be_told cd_may_be_told ct_may_be_told), sl_may_be_told⟩)
    (c_may_be_told : PySem.W.codeIn K cd_may_be_told "_may_be_told" = true)
    (k_may_be_told : PySem.W.keepIn K (.ref a_may_be_told) = true)
    (g_are_numbers : PySem.W.nsIn K mainGlobals "_are_numbers" = some (some (.ref a_are_numbers)))
    (l_are_numbers : K.lookup a_are_numbers = some ⟨oc_are_numbers, od_are_numbers, .func (PySem.W.fnOf "_are_numbers" "_are_numbers" (defArgs s_are_numbers) (defBody s_are_numbers) (defScope s_are_numbers) .none kV_are_numbers dc_are_numbers pm_are_numbers an_are_numbers cd_are_numbers ct_are_numbers), sl_are_numbers⟩)
    (c_are_numbers : PySem.W.codeIn K cd_are_numbers "_are_numbers" = true)
    (k_are_numbers : PySem.W.keepIn K (.ref a_are_numbers) = true)
    (g_l_hash : PySem.W.nsIn K mainGlobals "_law_hash" = some (some (.ref a_l_hash)))
    (l_l_hash : K.lookup a_l_hash = some ⟨oc_l_hash, od_l_hash, .func (PySem.W.fnOf "_law_hash" "_law_hash" (defArgs s_l_hash) (defBody s_l_hash) (defScope s_l_hash) .none kV_l_hash dc_l_hash pm_l_hash an_l_hash cd_l_hash ct_l_hash), sl_l_hash⟩)
    (c_l_hash : PySem.W.codeIn K cd_l_hash "_law_hash" = true)
    (k_l_hash : PySem.W.keepIn K (.ref a_l_hash) = true)
    (g_l_random : PySem.W.nsIn K mainGlobals "_law_random" = some (some (.ref a_l_random)))
    (l_l_random : K.lookup a_l_random = some ⟨oc_l_random, od_l_random, .func (PySem.W.fnOf "_law_random" "_law_random" (defArgs s_l_random) (defBody s_l_random) (defScope s_l_random) .none kV_l_random dc_l_random pm_l_random an_l_random cd_l_random ct_l_random), sl_l_random⟩)
    (c_l_random : PySem.W.codeIn K cd_l_random "_law_random" = true)
    (k_l_random : PySem.W.keepIn K (.ref a_l_random) = true)
    (g_l_cell : PySem.W.nsIn K mainGlobals "_law_cell" = some (some (.ref a_l_cell)))
    (l_l_cell : K.lookup a_l_cell = some ⟨oc_l_cell, od_l_cell, .func (PySem.W.fnOf "_law_cell" "_law_cell" (defArgs s_l_cell) (defBody s_l_cell) (defScope s_l_cell) .none kV_l_cell dc_l_cell pm_l_cell an_l_cell cd_l_cell ct_l_cell), sl_l_cell⟩)
    (c_l_cell : PySem.W.codeIn K cd_l_cell "_law_cell" = true)
    (k_l_cell : PySem.W.keepIn K (.ref a_l_cell) = true)
    (g_l_generator : PySem.W.nsIn K mainGlobals "_law_generator" = some (some (.ref a_l_generator)))
    (l_l_generator : K.lookup a_l_generator = some ⟨oc_l_generator, od_l_generator, .func (PySem.W.fnOf "_law_generator" "_law_generator" (defArgs s_l_generator) (defBody s_l_generator) (defScope s_l_generator) .none kV_l_generator dc_l_generator pm_l_generator an_l_generator cd_l_generator ct_l_generator), sl_l_generator⟩)
    (c_l_generator : PySem.W.codeIn K cd_l_generator "_law_generator" = true)
    (k_l_generator : PySem.W.keepIn K (.ref a_l_generator) = true)
    (g_l_in : PySem.W.nsIn K mainGlobals "_law_in" = some (some (.ref a_l_in)))
    (l_l_in : K.lookup a_l_in = some ⟨oc_l_in, od_l_in, .func (PySem.W.fnOf "_law_in" "_law_in" (defArgs s_l_in) (defBody s_l_in) (defScope s_l_in) .none kV_l_in dc_l_in pm_l_in an_l_in cd_l_in ct_l_in), sl_l_in⟩)
    (c_l_in : PySem.W.codeIn K cd_l_in "_law_in" = true)
    (k_l_in : PySem.W.keepIn K (.ref a_l_in) = true)
    (g_l_set : PySem.W.nsIn K mainGlobals "_law_set" = some (some (.ref a_l_set)))
    (l_l_set : K.lookup a_l_set = some ⟨oc_l_set, od_l_set, .func (PySem.W.fnOf "_law_set" "_law_set" (defArgs s_l_set) (defBody s_l_set) (defScope s_l_set) .none kV_l_set dc_l_set pm_l_set an_l_set cd_l_set ct_l_set), sl_l_set⟩)
    (c_l_set : PySem.W.codeIn K cd_l_set "_law_set" = true)
    (k_l_set : PySem.W.keepIn K (.ref a_l_set) = true)
    (g_l_form : PySem.W.nsIn K mainGlobals "_law_form" = some (some (.ref a_l_form)))
    (l_l_form : K.lookup a_l_form = some ⟨oc_l_form, od_l_form, .func (PySem.W.fnOf "_law_form" "_law_form" (defArgs s_l_form) (defBody s_l_form) (defScope s_l_form) .none kV_l_form dc_l_form pm_l_form an_l_form cd_l_form ct_l_form), sl_l_form⟩)
    (c_l_form : PySem.W.codeIn K cd_l_form "_law_form" = true)
    (k_l_form : PySem.W.keepIn K (.ref a_l_form) = true)
    (g_l_list : PySem.W.nsIn K mainGlobals "_law_list" = some (some (.ref a_l_list)))
    (l_l_list : K.lookup a_l_list = some ⟨oc_l_list, od_l_list, .func (PySem.W.fnOf "_law_list" "_law_list" (defArgs s_l_list) (defBody s_l_list) (defScope s_l_list) .none kV_l_list dc_l_list pm_l_list an_l_list cd_l_list ct_l_list), sl_l_list⟩)
    (c_l_list : PySem.W.codeIn K cd_l_list "_law_list" = true)
    (k_l_list : PySem.W.keepIn K (.ref a_l_list) = true)
    (g_l_one_right : PySem.W.nsIn K mainGlobals "_law_one_right" = some (some (.ref a_l_one_right)))
    (l_l_one_right : K.lookup a_l_one_right = some ⟨oc_l_one_right, od_l_one_right, .func (PySem.W.fnOf "_law_one_right" "_law_one_right" (defArgs s_l_one_right) (defBody s_l_one_right) (defScope s_l_one_right) .none kV_l_one_right dc_l_one_right pm_l_one_right an_l_one_right cd_l_one_right ct_l_one_right), sl_l_one_right⟩)
    (c_l_one_right : PySem.W.codeIn K cd_l_one_right "_law_one_right" = true)
    (k_l_one_right : PySem.W.keepIn K (.ref a_l_one_right) = true)
    (g_l_right : PySem.W.nsIn K mainGlobals "_law_right" = some (some (.ref a_l_right)))
    (l_l_right : K.lookup a_l_right = some ⟨oc_l_right, od_l_right, .func (PySem.W.fnOf "_law_right" "_law_right" (defArgs s_l_right) (defBody s_l_right) (defScope s_l_right) .none kV_l_right dc_l_right pm_l_right an_l_right cd_l_right ct_l_right), sl_l_right⟩)
    (c_l_right : PySem.W.codeIn K cd_l_right "_law_right" = true)
    (k_l_right : PySem.W.keepIn K (.ref a_l_right) = true)
    (g_law : PySem.W.nsIn K mainGlobals "law" = some (some (.ref a_law)))
    (l_law : K.lookup a_law = some ⟨oc_law, od_law, .func (PySem.W.fnOf "law" "law" (defArgs s_law) (defBody s_law) (defScope s_law) .none kV_law dc_law pm_law an_law cd_law ct_law), sl_law⟩)
    (c_law : PySem.W.codeIn K cd_law "law" = true)
    (k_law : PySem.W.keepIn K (.ref a_law) = true)
    (g_GapError : PySem.W.nsIn K mainGlobals "GapError" = some (some (.ref a_GapError)))
    (g_InvalidNumber : PySem.W.nsIn K mainGlobals "InvalidNumber" = some (some (.ref a_InvalidNumber)))
    (g_InvalidList : PySem.W.nsIn K mainGlobals "InvalidList" = some (some (.ref a_InvalidList)))
    (g_Lets : PySem.W.nsIn K mainGlobals "Lets" = some (some (.ref a_Lets)))
    (eb_GapError : PySem.W.subIn K (.ref a_GapError) (.type "BaseException") = some true)
    (ty_GapError : PySem.W.typeIn K (.ref a_GapError) = some (.type "type"))
    (ic_GapError : PySem.W.isClsIn K a_GapError = true)
    (eb_InvalidNumber : PySem.W.subIn K (.ref a_InvalidNumber) (.type "BaseException") = some true)
    (ty_InvalidNumber : PySem.W.typeIn K (.ref a_InvalidNumber) = some (.type "type"))
    (ic_InvalidNumber : PySem.W.isClsIn K a_InvalidNumber = true)
    (eb_InvalidList : PySem.W.subIn K (.ref a_InvalidList) (.type "BaseException") = some true)
    (ty_InvalidList : PySem.W.typeIn K (.ref a_InvalidList) = some (.type "type"))
    (ic_InvalidList : PySem.W.isClsIn K a_InvalidList = true)
    (ty_Lets : PySem.W.typeIn K (.ref a_Lets) = some (.type "type"))
    (ic_Lets : PySem.W.isClsIn K a_Lets = true)
    (xl_InvalidNumber : K.lookup a_InvalidNumber = some (excClassObj nm_InvalidNumber q_InvalidNumber a_InvalidNumber N_InvalidNumber bs_InvalidNumber bm_InvalidNumber true sn_InvalidNumber su_InvalidNumber ab_InvalidNumber co_InvalidNumber dd_InvalidNumber x0_InvalidNumber x1_InvalidNumber x2_InvalidNumber x3_InvalidNumber x5_InvalidNumber "ValueError.__new__"))
    (xb_InvalidNumber : PySem.HandSPX.refsVE bm_InvalidNumber = true)
    (sa_InvalidNumber : PySem.W.findIn K (.ref a_InvalidNumber) "__setattr__" = some (some (.builtin "object.__setattr__")))
    (kc_InvalidNumber : PySem.W.keepIn K (.ref a_InvalidNumber) = true)
    (ga_InvalidNumber : PySem.W.findIn K (.ref a_InvalidNumber) "__getattribute__" = some (some (.builtin "BaseException.__getattribute__")))
    (gg_InvalidNumber : PySem.W.findIn K (.ref a_InvalidNumber) "__getattr__" = some none)
    (hd_InvalidNumber : PySem.W.hasDictIn K a_InvalidNumber = true)
    (ca_InvalidNumber : PySem.W.findIn K (.ref a_InvalidNumber) "__class__" = some (some (.builtin "object.__class__")))
    (mo_InvalidNumber : PySem.W.mroIn K a_InvalidNumber (.type "object") = some true)
    (nv_InvalidNumber : PySem.W.findIn K (.ref a_InvalidNumber) "value" = some none)
    (i_InvalidNumber : PySem.W.findIn K (.ref a_InvalidNumber) "__init__" = some (some (.ref ai_InvalidNumber)))
    (t_InvalidNumber : PySem.W.typeIn K (.ref ai_InvalidNumber) = some (.type "function"))
    (l_InvalidNumber_init : K.lookup ai_InvalidNumber = some ⟨oc_InvalidNumber_init, od_InvalidNumber_init, .func (PySem.W.fnOf "__init__" "InvalidNumber.__init__" (defArgs s_InvalidNumber_init) (defBody s_InvalidNumber_init) (defScope s_InvalidNumber_init) (.ref td_InvalidNumber) kV_InvalidNumber_init dc_InvalidNumber_init pm_InvalidNumber_init an_InvalidNumber_init cd_InvalidNumber_init ct_InvalidNumber_init), sl_InvalidNumber_init⟩)
    (c_InvalidNumber_init : PySem.W.codeIn K cd_InvalidNumber_init "InvalidNumber.__init__" = true)
    (ld_InvalidNumber : K.lookup td_InvalidNumber = some ⟨ot_InvalidNumber, od_InvalidNumber, .seq #[.none] nt_InvalidNumber, st_InvalidNumber⟩)
    (s_InvalidNumber_GapError : PySem.W.subIn K (.ref a_InvalidNumber) (.ref a_GapError) = some true)
    (n_InvalidNumber_InvalidList : PySem.W.subIn K (.ref a_InvalidNumber) (.ref a_InvalidList) = some false)
    (e_InvalidNumber_InvalidList : ((Value.ref a_InvalidNumber == Value.ref a_InvalidList) = false))
    (nn_InvalidNumber : PySem.W.subIn K (.type "NoneType") (.ref a_InvalidNumber) = some false)
    (xl_InvalidList : K.lookup a_InvalidList = some (excClassObj nm_InvalidList q_InvalidList a_InvalidList N_InvalidList bs_InvalidList bm_InvalidList true sn_InvalidList su_InvalidList ab_InvalidList co_InvalidList dd_InvalidList x0_InvalidList x1_InvalidList x2_InvalidList x3_InvalidList x5_InvalidList "ValueError.__new__"))
    (xb_InvalidList : PySem.HandSPX.refsVE bm_InvalidList = true)
    (sa_InvalidList : PySem.W.findIn K (.ref a_InvalidList) "__setattr__" = some (some (.builtin "object.__setattr__")))
    (kc_InvalidList : PySem.W.keepIn K (.ref a_InvalidList) = true)
    (ga_InvalidList : PySem.W.findIn K (.ref a_InvalidList) "__getattribute__" = some (some (.builtin "BaseException.__getattribute__")))
    (gg_InvalidList : PySem.W.findIn K (.ref a_InvalidList) "__getattr__" = some none)
    (hd_InvalidList : PySem.W.hasDictIn K a_InvalidList = true)
    (ca_InvalidList : PySem.W.findIn K (.ref a_InvalidList) "__class__" = some (some (.builtin "object.__class__")))
    (mo_InvalidList : PySem.W.mroIn K a_InvalidList (.type "object") = some true)
    (nv_InvalidList : PySem.W.findIn K (.ref a_InvalidList) "value" = some none)
    (i_InvalidList : PySem.W.findIn K (.ref a_InvalidList) "__init__" = some (some (.ref ai_InvalidList)))
    (t_InvalidList : PySem.W.typeIn K (.ref ai_InvalidList) = some (.type "function"))
    (l_InvalidList_init : K.lookup ai_InvalidList = some ⟨oc_InvalidList_init, od_InvalidList_init, .func (PySem.W.fnOf "__init__" "InvalidList.__init__" (defArgs s_InvalidList_init) (defBody s_InvalidList_init) (defScope s_InvalidList_init) (.ref td_InvalidList) kV_InvalidList_init dc_InvalidList_init pm_InvalidList_init an_InvalidList_init cd_InvalidList_init ct_InvalidList_init), sl_InvalidList_init⟩)
    (c_InvalidList_init : PySem.W.codeIn K cd_InvalidList_init "InvalidList.__init__" = true)
    (ld_InvalidList : K.lookup td_InvalidList = some ⟨ot_InvalidList, od_InvalidList, .seq #[.none] nt_InvalidList, st_InvalidList⟩)
    (s_InvalidList_GapError : PySem.W.subIn K (.ref a_InvalidList) (.ref a_GapError) = some true)
    (n_InvalidList_InvalidNumber : PySem.W.subIn K (.ref a_InvalidList) (.ref a_InvalidNumber) = some false)
    (e_InvalidList_InvalidNumber : ((Value.ref a_InvalidList == Value.ref a_InvalidNumber) = false))
    (nn_InvalidList : PySem.W.subIn K (.type "NoneType") (.ref a_InvalidList) = some false)
    (pg_Lets : PySem.W.plainGet K a_Lets Str.empty = true)
    (hd_Lets : PySem.W.hasDictIn K a_Lets = true)
    (po_Lets : PySem.W.plainOver K a_Lets = true)
    (sa_Lets : PySem.W.findIn K (.ref a_Lets) "__setattr__" = some (some (.builtin "object.__setattr__")))
    (mk_Lets : PySem.W.makesIn K a_Lets = true)
    (kc_Lets : PySem.W.keepIn K (.ref a_Lets) = true)
    (ca_Lets : PySem.W.findIn K (.ref a_Lets) "__class__" = some (some (.builtin "object.__class__")))
    (mo_Lets : PySem.W.mroIn K a_Lets (.type "object") = some true)
    (na_Lets__start : PySem.W.findIn K (.ref a_Lets) "_start" = some none)
    (na_Lets__numbers : PySem.W.findIn K (.ref a_Lets) "_numbers" = some none)
    (na_Lets__table : PySem.W.findIn K (.ref a_Lets) "_table" = some none)
    (at_Lets_init : PySem.W.findIn K (.ref a_Lets) "__init__" = some (some (.ref am_Lets_init)))
    (fn_Lets_init : PySem.W.isFn K (.ref am_Lets_init) = true)
    (kp_Lets_init : PySem.W.keepIn K (.ref am_Lets_init) = true)
    (l_Lets_init : K.lookup am_Lets_init = some ⟨oc_Lets_init, od_Lets_init, .func (PySem.W.fnOf "__init__" "Lets.__init__" (defArgs s_Lets_init) (defBody s_Lets_init) (defScope s_Lets_init) (.ref td_Lets_init) kV_Lets_init dc_Lets_init pm_Lets_init an_Lets_init cd_Lets_init ct_Lets_init), sl_Lets_init⟩)
    (c_Lets_init : PySem.W.codeIn K cd_Lets_init "Lets.__init__" = true)
    (ld_Lets_init : K.lookup td_Lets_init = some ⟨ot_Lets_init, oz_Lets_init, .seq #[.none] nt_Lets_init, st_Lets_init⟩)
    (at_Letssettle : PySem.W.findIn K (.ref a_Lets) "_settle" = some (some (.ref am_Letssettle)))
    (fn_Letssettle : PySem.W.isFn K (.ref am_Letssettle) = true)
    (kp_Letssettle : PySem.W.keepIn K (.ref am_Letssettle) = true)
    (l_Letssettle : K.lookup am_Letssettle = some ⟨oc_Letssettle, od_Letssettle, .func (PySem.W.fnOf "_settle" "Lets._settle" (defArgs s_Letssettle) (defBody s_Letssettle) (defScope s_Letssettle) .none kV_Letssettle dc_Letssettle pm_Letssettle an_Letssettle cd_Letssettle ct_Letssettle), sl_Letssettle⟩)
    (c_Letssettle : PySem.W.codeIn K cd_Letssettle "Lets._settle" = true)
    (at_Lets_numbers : PySem.W.findIn K (.ref a_Lets) "numbers" = some (some (.ref am_Lets_numbers)))
    (fn_Lets_numbers : PySem.W.isFn K (.ref am_Lets_numbers) = true)
    (kp_Lets_numbers : PySem.W.keepIn K (.ref am_Lets_numbers) = true)
    (l_Lets_numbers : K.lookup am_Lets_numbers = some ⟨oc_Lets_numbers, od_Lets_numbers, .func (PySem.W.fnOf "numbers" "Lets.numbers" (defArgs s_Lets_numbers) (defBody s_Lets_numbers) (defScope s_Lets_numbers) .none kV_Lets_numbers dc_Lets_numbers pm_Lets_numbers an_Lets_numbers cd_Lets_numbers ct_Lets_numbers), sl_Lets_numbers⟩)
    (c_Lets_numbers : PySem.W.codeIn K cd_Lets_numbers "Lets.numbers" = true)
    (at_Lets_start : PySem.W.findIn K (.ref a_Lets) "start" = some (some (.ref am_Lets_start)))
    (fn_Lets_start : PySem.W.isFn K (.ref am_Lets_start) = true)
    (kp_Lets_start : PySem.W.keepIn K (.ref am_Lets_start) = true)
    (l_Lets_start : K.lookup am_Lets_start = some ⟨oc_Lets_start, od_Lets_start, .func (PySem.W.fnOf "start" "Lets.start" (defArgs s_Lets_start) (defBody s_Lets_start) (defScope s_Lets_start) .none kV_Lets_start dc_Lets_start pm_Lets_start an_Lets_start cd_Lets_start ct_Lets_start), sl_Lets_start⟩)
    (c_Lets_start : PySem.W.codeIn K cd_Lets_start "Lets.start" = true)
    (at_Lets_contains : PySem.W.findIn K (.ref a_Lets) "__contains__" = some (some (.ref am_Lets_contains)))
    (fn_Lets_contains : PySem.W.isFn K (.ref am_Lets_contains) = true)
    (kp_Lets_contains : PySem.W.keepIn K (.ref am_Lets_contains) = true)
    (l_Lets_contains : K.lookup am_Lets_contains = some ⟨oc_Lets_contains, od_Lets_contains, .func (PySem.W.fnOf "__contains__" "Lets.__contains__" (defArgs s_Lets_contains) (defBody s_Lets_contains) (defScope s_Lets_contains) .none kV_Lets_contains dc_Lets_contains pm_Lets_contains an_Lets_contains cd_Lets_contains ct_Lets_contains), sl_Lets_contains⟩)
    (c_Lets_contains : PySem.W.codeIn K cd_Lets_contains "Lets.__contains__" = true)
    (at_Lets_eq : PySem.W.findIn K (.ref a_Lets) "__eq__" = some (some (.ref am_Lets_eq)))
    (fn_Lets_eq : PySem.W.isFn K (.ref am_Lets_eq) = true)
    (kp_Lets_eq : PySem.W.keepIn K (.ref am_Lets_eq) = true)
    (l_Lets_eq : K.lookup am_Lets_eq = some ⟨oc_Lets_eq, od_Lets_eq, .func (PySem.W.fnOf "__eq__" "Lets.__eq__" (defArgs s_Lets_eq) (defBody s_Lets_eq) (defScope s_Lets_eq) .none kV_Lets_eq dc_Lets_eq pm_Lets_eq an_Lets_eq cd_Lets_eq ct_Lets_eq), sl_Lets_eq⟩)
    (c_Lets_eq : PySem.W.codeIn K cd_Lets_eq "Lets.__eq__" = true)
    (ns_Lets_NoneType : PySem.W.subIn K (.type "NoneType") (.ref a_Lets) = some false)
    (ns_Lets_bool : PySem.W.subIn K (.type "bool") (.ref a_Lets) = some false)
    (ns_Lets_int : PySem.W.subIn K (.type "int") (.ref a_Lets) = some false)
    (ns_Lets_str : PySem.W.subIn K (.type "str") (.ref a_Lets) = some false)
    (ns_Lets_list : PySem.W.subIn K (.type "list") (.ref a_Lets) = some false)
    (ns_Lets_tuple : PySem.W.subIn K (.type "tuple") (.ref a_Lets) = some false)
    (ns_Lets_dict : PySem.W.subIn K (.type "dict") (.ref a_Lets) = some false)
    (sb_Lets_int : PySem.W.subIn K (.ref a_Lets) (.type "int") = some false)
    (sb_Lets_bool : PySem.W.subIn K (.ref a_Lets) (.type "bool") = some false)
    (sb_Lets_list : PySem.W.subIn K (.ref a_Lets) (.type "list") = some false)
    (cg : PySem.W.specialIn K (.builtin "object.__class__") "__get__" = some (some (.builtin "getset_descriptor.__get__")))
    (ctk : PySem.W.takesIn K (.builtin "object.__class__") = some true)
    (g_MOST_NUMBERS : PySem.W.nsIn K mainGlobals "MOST_NUMBERS" = some (some (.int 200 tk_MOST_NUMBERS)))
    (g_GREATEST : PySem.W.nsIn K mainGlobals "GREATEST" = some (some (.int 1000 tk_GREATEST)))
    (z_all : PySem.W.nsIn K mainGlobals "all" = some none)
    (z_bool : PySem.W.nsIn K mainGlobals "bool" = some none)
    (z_dict : PySem.W.nsIn K mainGlobals "dict" = some none)
    (z_int : PySem.W.nsIn K mainGlobals "int" = some none)
    (z_isinstance : PySem.W.nsIn K mainGlobals "isinstance" = some none)
    (z_len : PySem.W.nsIn K mainGlobals "len" = some none)
    (z_list : PySem.W.nsIn K mainGlobals "list" = some none)
    (z_max : PySem.W.nsIn K mainGlobals "max" = some none)
    (z_range : PySem.W.nsIn K mainGlobals "range" = some none)
    (z_repr : PySem.W.nsIn K mainGlobals "repr" = some none)
    (z_sorted : PySem.W.nsIn K mainGlobals "sorted" = some none)
    (z_sum : PySem.W.nsIn K mainGlobals "sum" = some none)
    : ∃ fd : FuncData, (∀ (s : Shared) (u : Value), BindsTo s fd ⟨[u], []⟩ [("_law_script", u)]) ∧ ∀ base : Heap, K.In base → base.Ns mainGlobals mg → FnG P w K mg base CX0 8 fa fd ["_law_script"] (spLaw K) := by
  have e := hfa.symm.trans (PySem.W.mg_of X G g_law)
  cases e
  let T : Tx K mg := {
    a_is_whole := a_is_whole, fd_is_whole := _, F_is_whole := fun_mk (st := s_is_whole) l_is_whole c_is_whole k_is_whole, g_is_whole := PySem.W.mg_of X G g_is_whole,
    b_is_whole := (fun_mk (st := s_is_whole) l_is_whole c_is_whole k_is_whole).binds fun _ _ _ _ _ _ us hl => match us, hl with | [_], _ => rfl,
    a_may_be_told := a_may_be_told, fd_may_be_told := _, F_may_be_told := fun_mk (st := s_may_be_told) l_may_be_told c_may_be_told k_may_be_told, g_may_be_told := PySem.W.mg_of X G g_may_be_told,
    b_may_be_told := (fun_mk (st := s_may_be_told) l_may_be_told c_may_be_told k_may_be_told).binds fun _ _ _ _ _ _ us hl => match us, hl with | [_], _ => rfl,
    a_are_numbers := a_are_numbers, fd_are_numbers := _, F_are_numbers := fun_mk (st := s_are_numbers) l_are_numbers c_are_numbers k_are_numbers, g_are_numbers := PySem.W.mg_of X G g_are_numbers,
    b_are_numbers := (fun_mk (st := s_are_numbers) l_are_numbers c_are_numbers k_are_numbers).binds fun _ _ _ _ _ _ us hl => match us, hl with | [_], _ => rfl,
    a_l_hash := a_l_hash, fd_l_hash := _, F_l_hash := fun_mk (st := s_l_hash) l_l_hash c_l_hash k_l_hash, g_l_hash := PySem.W.mg_of X G g_l_hash,
    b_l_hash := (fun_mk (st := s_l_hash) l_l_hash c_l_hash k_l_hash).binds fun _ _ _ _ _ _ us hl => match us, hl with | [_, _], _ => rfl,
    a_l_random := a_l_random, fd_l_random := _, F_l_random := fun_mk (st := s_l_random) l_l_random c_l_random k_l_random, g_l_random := PySem.W.mg_of X G g_l_random,
    b_l_random := (fun_mk (st := s_l_random) l_l_random c_l_random k_l_random).binds fun _ _ _ _ _ _ us hl => match us, hl with | [_, _], _ => rfl,
    a_l_cell := a_l_cell, fd_l_cell := _, F_l_cell := fun_mk (st := s_l_cell) l_l_cell c_l_cell k_l_cell, g_l_cell := PySem.W.mg_of X G g_l_cell,
    b_l_cell := (fun_mk (st := s_l_cell) l_l_cell c_l_cell k_l_cell).binds fun _ _ _ _ _ _ us hl => match us, hl with | [_, _], _ => rfl,
    a_l_generator := a_l_generator, fd_l_generator := _, F_l_generator := fun_mk (st := s_l_generator) l_l_generator c_l_generator k_l_generator, g_l_generator := PySem.W.mg_of X G g_l_generator,
    b_l_generator := (fun_mk (st := s_l_generator) l_l_generator c_l_generator k_l_generator).binds fun _ _ _ _ _ _ us hl => match us, hl with | [_, _], _ => rfl,
    a_l_in := a_l_in, fd_l_in := _, F_l_in := fun_mk (st := s_l_in) l_l_in c_l_in k_l_in, g_l_in := PySem.W.mg_of X G g_l_in,
    b_l_in := (fun_mk (st := s_l_in) l_l_in c_l_in k_l_in).binds fun _ _ _ _ _ _ us hl => match us, hl with | [_, _], _ => rfl,
    a_l_set := a_l_set, fd_l_set := _, F_l_set := fun_mk (st := s_l_set) l_l_set c_l_set k_l_set, g_l_set := PySem.W.mg_of X G g_l_set,
    b_l_set := (fun_mk (st := s_l_set) l_l_set c_l_set k_l_set).binds fun _ _ _ _ _ _ us hl => match us, hl with | [_, _], _ => rfl,
    a_l_form := a_l_form, fd_l_form := _, F_l_form := fun_mk (st := s_l_form) l_l_form c_l_form k_l_form, g_l_form := PySem.W.mg_of X G g_l_form,
    b_l_form := (fun_mk (st := s_l_form) l_l_form c_l_form k_l_form).binds fun _ _ _ _ _ _ us hl => match us, hl with | [_], _ => rfl,
    a_l_list := a_l_list, fd_l_list := _, F_l_list := fun_mk (st := s_l_list) l_l_list c_l_list k_l_list, g_l_list := PySem.W.mg_of X G g_l_list,
    b_l_list := (fun_mk (st := s_l_list) l_l_list c_l_list k_l_list).binds fun _ _ _ _ _ _ us hl => match us, hl with | [_, _], _ => rfl,
    a_l_one_right := a_l_one_right, fd_l_one_right := _, F_l_one_right := fun_mk (st := s_l_one_right) l_l_one_right c_l_one_right k_l_one_right, g_l_one_right := PySem.W.mg_of X G g_l_one_right,
    b_l_one_right := (fun_mk (st := s_l_one_right) l_l_one_right c_l_one_right k_l_one_right).binds fun _ _ _ _ _ _ us hl => match us, hl with | [_, _], _ => rfl,
    a_l_right := a_l_right, fd_l_right := _, F_l_right := fun_mk (st := s_l_right) l_l_right c_l_right k_l_right, g_l_right := PySem.W.mg_of X G g_l_right,
    b_l_right := (fun_mk (st := s_l_right) l_l_right c_l_right k_l_right).binds fun _ _ _ _ _ _ us hl => match us, hl with | [_], _ => rfl,
    a_law := fa, fd_law := _, F_law := fun_mk (st := s_law) l_law c_law k_law, g_law := PySem.W.mg_of X G g_law,
    b_law := (fun_mk (st := s_law) l_law c_law k_law).binds fun _ _ _ _ _ _ us hl => match us, hl with | [_], _ => rfl,
    a_GapError := a_GapError, g_GapError := PySem.W.mg_of X G g_GapError,
    a_InvalidNumber := a_InvalidNumber, g_InvalidNumber := PySem.W.mg_of X G g_InvalidNumber,
    a_InvalidList := a_InvalidList, g_InvalidList := PySem.W.mg_of X G g_InvalidList,
    a_Lets := a_Lets, g_Lets := PySem.W.mg_of X G g_Lets,
    e_InvalidNumber := ⟨ic_InvalidNumber, ga_InvalidNumber, gg_InvalidNumber, eb_InvalidNumber, hd_InvalidNumber, ca_InvalidNumber, cg, ctk, mo_InvalidNumber, nv_InvalidNumber⟩,
    x_InvalidNumber := ⟨⟨_, _, _, _, _, _, _, _, _, _, _, _, _, _, _, xl_InvalidNumber, xb_InvalidNumber⟩, sa_InvalidNumber, eb_InvalidNumber, ty_InvalidNumber, kc_InvalidNumber⟩,
    ai_InvalidNumber := ai_InvalidNumber, fdi_InvalidNumber := _, i_InvalidNumber := i_InvalidNumber, t_InvalidNumber := t_InvalidNumber, Fi_InvalidNumber := (FunV.mk ⟨_, _, _, _, _, _, _, _, _, _, rfl, l_InvalidNumber_init, c_InvalidNumber_init⟩ : FunV K "__init__" "InvalidNumber.__init__" s_InvalidNumber_init ai_InvalidNumber _), bi_InvalidNumber := fun _ us X hl => match us, hl with | [_, _], _ => PySem.W.binds_K X rfl ld_InvalidNumber rfl rfl rfl,
    nv_InvalidNumber := nv_InvalidNumber,
    m_InvalidNumber_GapError := exm_of eb_GapError ic_GapError ty_GapError s_InvalidNumber_GapError,
    k_InvalidNumber_InvalidNumber := kit_same,
    k_InvalidNumber_InvalidList := kit_of e_InvalidNumber_InvalidList ic_InvalidList ty_InvalidList n_InvalidNumber_InvalidList,
    kn_InvalidNumber := kit_of rfl ic_InvalidNumber ty_InvalidNumber nn_InvalidNumber,
    e_InvalidList := ⟨ic_InvalidList, ga_InvalidList, gg_InvalidList, eb_InvalidList, hd_InvalidList, ca_InvalidList, cg, ctk, mo_InvalidList, nv_InvalidList⟩,
    x_InvalidList := ⟨⟨_, _, _, _, _, _, _, _, _, _, _, _, _, _, _, xl_InvalidList, xb_InvalidList⟩, sa_InvalidList, eb_InvalidList, ty_InvalidList, kc_InvalidList⟩,
    ai_InvalidList := ai_InvalidList, fdi_InvalidList := _, i_InvalidList := i_InvalidList, t_InvalidList := t_InvalidList, Fi_InvalidList := (FunV.mk ⟨_, _, _, _, _, _, _, _, _, _, rfl, l_InvalidList_init, c_InvalidList_init⟩ : FunV K "__init__" "InvalidList.__init__" s_InvalidList_init ai_InvalidList _), bi_InvalidList := fun _ us X hl => match us, hl with | [_, _], _ => PySem.W.binds_K X rfl ld_InvalidList rfl rfl rfl,
    nv_InvalidList := nv_InvalidList,
    m_InvalidList_GapError := exm_of eb_GapError ic_GapError ty_GapError s_InvalidList_GapError,
    k_InvalidList_InvalidNumber := kit_of e_InvalidList_InvalidNumber ic_InvalidNumber ty_InvalidNumber n_InvalidList_InvalidNumber,
    k_InvalidList_InvalidList := kit_same,
    kn_InvalidList := kit_of rfl ic_InvalidList ty_InvalidList nn_InvalidList,
    cl_Lets := ⟨pg_Lets, hd_Lets, po_Lets, sa_Lets⟩, ins_Lets := ⟨⟨pg_Lets, hd_Lets, po_Lets, sa_Lets⟩, ca_Lets, cg, ctk, mo_Lets, kit_same⟩,
    na_Lets__start := na_Lets__start,
    na_Lets__numbers := na_Lets__numbers,
    na_Lets__table := na_Lets__table,
    am_Lets_init := am_Lets_init, fd_Lets_init := _, F_Lets_init := (FunV.mk ⟨_, _, _, _, _, _, _, _, _, _, rfl, l_Lets_init, c_Lets_init⟩ : FunV K "__init__" "Lets.__init__" s_Lets_init am_Lets_init _), b_Lets_init := fun _ us X hl => match us, hl with | [_, _, _], _ => PySem.W.binds_K X rfl ld_Lets_init rfl rfl rfl,
    M_Lets := ⟨mk_Lets, at_Lets_init, fn_Lets_init, kc_Lets⟩,
    bd_Lets_init := fun _ us X hl => by rcases us with _ | ⟨_, _ | ⟨_, _ | ⟨_, _⟩⟩⟩ <;> first | exact PySem.W.binds_K X rfl ld_Lets_init rfl rfl rfl | (exfalso; simp at hl),
    kw_Lets_numbers_start := ⟨fun s us ws X h1 h2 => match us, ws, h1, h2 with | [_], [_, _], _, _ => PySem.W.binds_K X rfl ld_Lets_init rfl rfl rfl, fun r rz => r.append rz⟩,
    am_Letssettle := am_Letssettle, fd_Letssettle := _, F_Letssettle := (FunV.mk ⟨_, _, _, _, _, _, _, _, _, _, rfl, l_Letssettle, c_Letssettle⟩ : FunV K "_settle" "Lets._settle" s_Letssettle am_Letssettle _), b_Letssettle := (fun_mk (st := s_Letssettle) l_Letssettle c_Letssettle kp_Letssettle).binds fun _ _ _ _ _ _ us hl => match us, hl with | [_, _, _], _ => rfl,
    me_Letssettle := ⟨at_Letssettle, fn_Letssettle, kp_Letssettle⟩,
    am_Lets_numbers := am_Lets_numbers, fd_Lets_numbers := _, F_Lets_numbers := (FunV.mk ⟨_, _, _, _, _, _, _, _, _, _, rfl, l_Lets_numbers, c_Lets_numbers⟩ : FunV K "numbers" "Lets.numbers" s_Lets_numbers am_Lets_numbers _), b_Lets_numbers := (fun_mk (st := s_Lets_numbers) l_Lets_numbers c_Lets_numbers kp_Lets_numbers).binds fun _ _ _ _ _ _ us hl => match us, hl with | [_], _ => rfl,
    me_Lets_numbers := ⟨at_Lets_numbers, fn_Lets_numbers, kp_Lets_numbers⟩,
    am_Lets_start := am_Lets_start, fd_Lets_start := _, F_Lets_start := (FunV.mk ⟨_, _, _, _, _, _, _, _, _, _, rfl, l_Lets_start, c_Lets_start⟩ : FunV K "start" "Lets.start" s_Lets_start am_Lets_start _), b_Lets_start := (fun_mk (st := s_Lets_start) l_Lets_start c_Lets_start kp_Lets_start).binds fun _ _ _ _ _ _ us hl => match us, hl with | [_], _ => rfl,
    me_Lets_start := ⟨at_Lets_start, fn_Lets_start, kp_Lets_start⟩,
    am_Lets_contains := am_Lets_contains, fd_Lets_contains := _, F_Lets_contains := (FunV.mk ⟨_, _, _, _, _, _, _, _, _, _, rfl, l_Lets_contains, c_Lets_contains⟩ : FunV K "__contains__" "Lets.__contains__" s_Lets_contains am_Lets_contains _), b_Lets_contains := (fun_mk (st := s_Lets_contains) l_Lets_contains c_Lets_contains kp_Lets_contains).binds fun _ _ _ _ _ _ us hl => match us, hl with | [_, _], _ => rfl,
    me_Lets_contains := ⟨at_Lets_contains, fn_Lets_contains, kp_Lets_contains⟩,
    am_Lets_eq := am_Lets_eq, fd_Lets_eq := _, F_Lets_eq := (FunV.mk ⟨_, _, _, _, _, _, _, _, _, _, rfl, l_Lets_eq, c_Lets_eq⟩ : FunV K "__eq__" "Lets.__eq__" s_Lets_eq am_Lets_eq _), b_Lets_eq := (fun_mk (st := s_Lets_eq) l_Lets_eq c_Lets_eq kp_Lets_eq).binds fun _ _ _ _ _ _ us hl => match us, hl with | [_, _], _ => rfl,
    me_Lets_eq := ⟨at_Lets_eq, fn_Lets_eq, kp_Lets_eq⟩,
    kt_Lets_NoneType := kit_of rfl ic_Lets ty_Lets ns_Lets_NoneType, ns_Lets_NoneType := ns_Lets_NoneType,
    kt_Lets_bool := kit_of rfl ic_Lets ty_Lets ns_Lets_bool, ns_Lets_bool := ns_Lets_bool,
    kt_Lets_int := kit_of rfl ic_Lets ty_Lets ns_Lets_int, ns_Lets_int := ns_Lets_int,
    kt_Lets_str := kit_of rfl ic_Lets ty_Lets ns_Lets_str, ns_Lets_str := ns_Lets_str,
    kt_Lets_list := kit_of rfl ic_Lets ty_Lets ns_Lets_list, ns_Lets_list := ns_Lets_list,
    kt_Lets_tuple := kit_of rfl ic_Lets ty_Lets ns_Lets_tuple, ns_Lets_tuple := ns_Lets_tuple,
    kt_Lets_dict := kit_of rfl ic_Lets ty_Lets ns_Lets_dict, ns_Lets_dict := ns_Lets_dict,
    kb_Lets_int := kit_bt sb_Lets_int (by decide +kernel),
    kb_Lets_bool := kit_bt sb_Lets_bool (by decide +kernel),
    kb_Lets_list := kit_bt sb_Lets_list (by decide +kernel),
    g_MOST_NUMBERS := ⟨_, PySem.W.mg_of X G g_MOST_NUMBERS⟩,
    g_GREATEST := ⟨_, PySem.W.mg_of X G g_GREATEST⟩,
    m_all := PySem.W.mg_none_of X G z_all,
    m_bool := PySem.W.mg_none_of X G z_bool,
    m_dict := PySem.W.mg_none_of X G z_dict,
    m_int := PySem.W.mg_none_of X G z_int,
    m_isinstance := PySem.W.mg_none_of X G z_isinstance,
    m_len := PySem.W.mg_none_of X G z_len,
    m_list := PySem.W.mg_none_of X G z_list,
    m_max := PySem.W.mg_none_of X G z_max,
    m_range := PySem.W.mg_none_of X G z_range,
    m_repr := PySem.W.mg_none_of X G z_repr,
    m_sorted := PySem.W.mg_none_of X G z_sorted,
    m_sum := PySem.W.mg_none_of X G z_sum
  }
  exact ⟨T.fd_law, fun s v => .of_eq rfl, fun base _ _ => ok_law T⟩
end K09


set_option Elab.async false
set_option linter.all false
open PySem PySem.W PyProof.Rows
set_option maxRecDepth 100000 in
set_option maxHeartbeats 0 in
theorem PySem.Challenge.cw_gapswaps_k09_sets_of_counts_holds : PySem.Challenge.rw_gapswaps_k09_sets_of_counts.Holds := by
  w_on; o_law; k_head; (case hw => w_witness2)
  k_fill
  refine GS.walk_ofG (l := PySem.Challenge.rw_gapswaps_k09_sets_of_counts) (n := 63) (k := 8) (x := "_law_script") (sp := fun w => K09.spLaw _) rfl (by decide) rfl ⟨rfl, by decide, by decide⟩ (fun w h Y => PySem.W.kIn_of Y) ?F (fun _ _ a ns hl _ hS => ⟨a, ns, rfl, hS, fun _ => rfl⟩)
  case F =>
    intro w mg fa h KX G hmg
    refine' K09.all_mk KX G hmg ?g_is_whole ?l_is_whole ?c_is_whole ?k_is_whole ?g_may_be_told ?l_may_be_told ?c_may_be_told ?k_may_be_told ?g_are_numbers ?l_are_numbers ?c_are_numbers ?k_are_numbers ?g_l_hash ?l_l_hash ?c_l_hash ?k_l_hash ?g_l_random ?l_l_random ?c_l_random ?k_l_random ?g_l_cell ?l_l_cell ?c_l_cell ?k_l_cell ?g_l_generator ?l_l_generator ?c_l_generator ?k_l_generator ?g_l_in ?l_l_in ?c_l_in ?k_l_in ?g_l_set ?l_l_set ?c_l_set ?k_l_set ?g_l_form ?l_l_form ?c_l_form ?k_l_form ?g_l_list ?l_l_list ?c_l_list ?k_l_list ?g_l_one_right ?l_l_one_right ?c_l_one_right ?k_l_one_right ?g_l_right ?l_l_right ?c_l_right ?k_l_right ?g_law ?l_law ?c_law ?k_law ?g_GapError ?g_InvalidNumber ?g_InvalidList ?g_Lets ?eb_GapError ?ty_GapError ?ic_GapError ?eb_InvalidNumber ?ty_InvalidNumber ?ic_InvalidNumber ?eb_InvalidList ?ty_InvalidList ?ic_InvalidList ?ty_Lets ?ic_Lets ?xl_InvalidNumber ?xb_InvalidNumber ?sa_InvalidNumber ?kc_InvalidNumber ?ga_InvalidNumber ?gg_InvalidNumber ?hd_InvalidNumber ?ca_InvalidNumber ?mo_InvalidNumber ?nv_InvalidNumber ?i_InvalidNumber ?t_InvalidNumber ?l_InvalidNumber_init ?c_InvalidNumber_init ?ld_InvalidNumber ?s_InvalidNumber_GapError ?n_InvalidNumber_InvalidList ?e_InvalidNumber_InvalidList ?nn_InvalidNumber ?xl_InvalidList ?xb_InvalidList ?sa_InvalidList ?kc_InvalidList ?ga_InvalidList ?gg_InvalidList ?hd_InvalidList ?ca_InvalidList ?mo_InvalidList ?nv_InvalidList ?i_InvalidList ?t_InvalidList ?l_InvalidList_init ?c_InvalidList_init ?ld_InvalidList ?s_InvalidList_GapError ?n_InvalidList_InvalidNumber ?e_InvalidList_InvalidNumber ?nn_InvalidList ?pg_Lets ?hd_Lets ?po_Lets ?sa_Lets ?mk_Lets ?kc_Lets ?ca_Lets ?mo_Lets ?na_Lets__start ?na_Lets__numbers ?na_Lets__table ?at_Lets_init ?fn_Lets_init ?kp_Lets_init ?l_Lets_init ?c_Lets_init ?ld_Lets_init ?at_Letssettle ?fn_Letssettle ?kp_Letssettle ?l_Letssettle ?c_Letssettle ?at_Lets_numbers ?fn_Lets_numbers ?kp_Lets_numbers ?l_Lets_numbers ?c_Lets_numbers ?at_Lets_start ?fn_Lets_start ?kp_Lets_start ?l_Lets_start ?c_Lets_start ?at_Lets_contains ?fn_Lets_contains ?kp_Lets_contains ?l_Lets_contains ?c_Lets_contains ?at_Lets_eq ?fn_Lets_eq ?kp_Lets_eq ?l_Lets_eq ?c_Lets_eq ?ns_Lets_NoneType ?ns_Lets_bool ?ns_Lets_int ?ns_Lets_str ?ns_Lets_list ?ns_Lets_tuple ?ns_Lets_dict ?sb_Lets_int ?sb_Lets_bool ?sb_Lets_list ?cg ?ctk ?g_MOST_NUMBERS ?g_GREATEST ?z_all ?z_bool ?z_dict ?z_int ?z_isinstance ?z_len ?z_list ?z_max ?z_range ?z_repr ?z_sorted ?z_sum
    (case g_is_whole => k_is)
    (case l_is_whole => k_is)
    (case c_is_whole => k_is)
    (case k_is_whole => k_is)
    (case g_may_be_told => k_is)
    (case l_may_be_told => k_is)
    (case c_may_be_told => k_is)
    (case k_may_be_told => k_is)
    (case g_are_numbers => k_is)
    (case l_are_numbers => k_is)
    (case c_are_numbers => k_is)
    (case k_are_numbers => k_is)
    (case g_l_hash => k_is)
    (case l_l_hash => k_is)
    (case c_l_hash => k_is)
    (case k_l_hash => k_is)
    (case g_l_random => k_is)
    (case l_l_random => k_is)
    (case c_l_random => k_is)
    (case k_l_random => k_is)
    (case g_l_cell => k_is)
    (case l_l_cell => k_is)
    (case c_l_cell => k_is)
    (case k_l_cell => k_is)
    (case g_l_generator => k_is)
    (case l_l_generator => k_is)
    (case c_l_generator => k_is)
    (case k_l_generator => k_is)
    (case g_l_in => k_is)
    (case l_l_in => k_is)
    (case c_l_in => k_is)
    (case k_l_in => k_is)
    (case g_l_set => k_is)
    (case l_l_set => k_is)
    (case c_l_set => k_is)
    (case k_l_set => k_is)
    (case g_l_form => k_is)
    (case l_l_form => k_is)
    (case c_l_form => k_is)
    (case k_l_form => k_is)
    (case g_l_list => k_is)
    (case l_l_list => k_is)
    (case c_l_list => k_is)
    (case k_l_list => k_is)
    (case g_l_one_right => k_is)
    (case l_l_one_right => k_is)
    (case c_l_one_right => k_is)
    (case k_l_one_right => k_is)
    (case g_l_right => k_is)
    (case l_l_right => k_is)
    (case c_l_right => k_is)
    (case k_l_right => k_is)
    (case g_law => k_is)
    (case l_law => k_is)
    (case c_law => k_is)
    (case k_law => k_is)
    (case g_GapError => k_is)
    (case g_InvalidNumber => k_is)
    (case g_InvalidList => k_is)
    (case g_Lets => k_is)
    (case eb_GapError => k_is)
    (case ty_GapError => k_is)
    (case ic_GapError => k_is)
    (case eb_InvalidNumber => k_is)
    (case ty_InvalidNumber => k_is)
    (case ic_InvalidNumber => k_is)
    (case eb_InvalidList => k_is)
    (case ty_InvalidList => k_is)
    (case ic_InvalidList => k_is)
    (case ty_Lets => k_is)
    (case ic_Lets => k_is)
    (case xl_InvalidNumber => k_is)
    (case xb_InvalidNumber => first | rfl | decide +kernel)
    (case sa_InvalidNumber => k_is)
    (case kc_InvalidNumber => k_is)
    (case ga_InvalidNumber => k_is)
    (case gg_InvalidNumber => k_is)
    (case hd_InvalidNumber => k_is)
    (case ca_InvalidNumber => k_is)
    (case mo_InvalidNumber => k_is)
    (case nv_InvalidNumber => k_is)
    (case i_InvalidNumber => k_is)
    (case t_InvalidNumber => k_is)
    (case l_InvalidNumber_init => k_is)
    (case c_InvalidNumber_init => k_is)
    (case ld_InvalidNumber => k_is)
    (case s_InvalidNumber_GapError => first | rfl | k_is)
    (case n_InvalidNumber_InvalidList => k_is)
    (case e_InvalidNumber_InvalidList => first | rfl | decide +kernel)
    (case nn_InvalidNumber => k_is)
    (case xl_InvalidList => k_is)
    (case xb_InvalidList => first | rfl | decide +kernel)
    (case sa_InvalidList => k_is)
    (case kc_InvalidList => k_is)
    (case ga_InvalidList => k_is)
    (case gg_InvalidList => k_is)
    (case hd_InvalidList => k_is)
    (case ca_InvalidList => k_is)
    (case mo_InvalidList => k_is)
    (case nv_InvalidList => k_is)
    (case i_InvalidList => k_is)
    (case t_InvalidList => k_is)
    (case l_InvalidList_init => k_is)
    (case c_InvalidList_init => k_is)
    (case ld_InvalidList => k_is)
    (case s_InvalidList_GapError => first | rfl | k_is)
    (case n_InvalidList_InvalidNumber => k_is)
    (case e_InvalidList_InvalidNumber => first | rfl | decide +kernel)
    (case nn_InvalidList => k_is)
    (case pg_Lets => k_is)
    (case hd_Lets => k_is)
    (case po_Lets => k_is)
    (case sa_Lets => k_is)
    (case mk_Lets => k_is)
    (case kc_Lets => k_is)
    (case ca_Lets => k_is)
    (case mo_Lets => k_is)
    (case na_Lets__start => k_is)
    (case na_Lets__numbers => k_is)
    (case na_Lets__table => k_is)
    (case at_Lets_init => k_is)
    (case fn_Lets_init => k_is)
    (case kp_Lets_init => k_is)
    (case l_Lets_init => k_is)
    (case c_Lets_init => k_is)
    (case ld_Lets_init => k_is)
    (case at_Letssettle => k_is)
    (case fn_Letssettle => k_is)
    (case kp_Letssettle => k_is)
    (case l_Letssettle => k_is)
    (case c_Letssettle => k_is)
    (case at_Lets_numbers => k_is)
    (case fn_Lets_numbers => k_is)
    (case kp_Lets_numbers => k_is)
    (case l_Lets_numbers => k_is)
    (case c_Lets_numbers => k_is)
    (case at_Lets_start => k_is)
    (case fn_Lets_start => k_is)
    (case kp_Lets_start => k_is)
    (case l_Lets_start => k_is)
    (case c_Lets_start => k_is)
    (case at_Lets_contains => k_is)
    (case fn_Lets_contains => k_is)
    (case kp_Lets_contains => k_is)
    (case l_Lets_contains => k_is)
    (case c_Lets_contains => k_is)
    (case at_Lets_eq => k_is)
    (case fn_Lets_eq => k_is)
    (case kp_Lets_eq => k_is)
    (case l_Lets_eq => k_is)
    (case c_Lets_eq => k_is)
    (case ns_Lets_NoneType => k_is)
    (case ns_Lets_bool => k_is)
    (case ns_Lets_int => k_is)
    (case ns_Lets_str => k_is)
    (case ns_Lets_list => k_is)
    (case ns_Lets_tuple => k_is)
    (case ns_Lets_dict => k_is)
    (case sb_Lets_int => k_is)
    (case sb_Lets_bool => k_is)
    (case sb_Lets_list => k_is)
    (case cg => k_is)
    (case ctk => k_is)
    (case g_MOST_NUMBERS => k_is)
    (case g_GREATEST => k_is)
    (case z_all => k_is)
    (case z_bool => k_is)
    (case z_dict => k_is)
    (case z_int => k_is)
    (case z_isinstance => k_is)
    (case z_len => k_is)
    (case z_list => k_is)
    (case z_max => k_is)
    (case z_range => k_is)
    (case z_repr => k_is)
    (case z_sorted => k_is)
    (case z_sum => k_is)

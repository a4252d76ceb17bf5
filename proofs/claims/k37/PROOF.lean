import PyProof.Rows.All
import Wide.All
import OpenK.AllK
import Wide.FinOn
import HandS.ForMost
import HandS.ForExc
import HandS.IsInst
import HandS.Zip
import HandS.TupAny
import KE.LtData
import KE.DataEq
import PyProof.ReprRoads
import HandS.Text
import HandS.Walk
import HandS.FStrTup
import HandS.Iter
import HandS.Style
import PyProof.TupleOfStr
import PyProof.EnumMake
import PyProof.Draws
import HandS.Conv
import KE.SortData
import HandS.SetFor
import HandS.Strs
import PyProof.Rows.SetFrom
import PyProof.NeKinds
import PyProof.StrBlock2
import HandS.DictComp
import HandS.Flow
import PyProof.P3In
import KE.KDictZip
import KE.GoesZip
import KE.GoesMore
import HandS.Zip0
import PyProof.ListNew
import HandS.TupMul
import HandS.StrMore
import HandS.TupSets
import PySem.Challenge.RW_gridupgrade_k37_prices_of_any_value
set_option Elab.async false
set_option linter.all false
section
set_option maxRecDepth 100000
/-! A def's promise that holds where no repr is under way (the guards of the surroundings are known and empty). -/
namespace Gd
open PySem PySem.Spec PyProof.Rows L2
structure FnG (P : Program) (w : World) (K : PySem.W.Frag) (mg : Str → Option Value) (base : Heap) (CX : CXT) (k : Nat) (f : Addr) (fd : FuncData) (ps : List Str) (sp : Sp) : Prop where
  len : ∀ vs H Q E, sp vs H Q E → vs.length = ps.length
  run : ∀ (A : Around) (outer : List Env) (s : Shared) (H : Hp) (ar : Args) (us : List Value) (vs : List V) (Q : VK) (E : XK), A.guards = some [] → Room k A →
    Env0 P w K mg base A outer s H → BindsTo s fd ar (ps.zip us) → Vals vs us → sp vs H Q E → codeAny (model P w) A (.call (.ref f) ar) (CR CX outer P w H s Q E) s
section
variable {P : Program} {w : World} {K : PySem.W.Frag} {mg : Str → Option Value} {base : Heap} {CX : CXT} {j k : Nat} {f : Addr} {fd : FuncData} {ps : List Str} {sp sp' : Sp}
theorem FnG.of (F : FnOk P w K mg base CX k f fd ps sp) : FnG P w K mg base CX k f fd ps sp :=
  ⟨F.len, fun A o s H ar us vs Q E _ => F.run A o s H ar us vs Q E⟩
theorem FnG.mono (F : FnG P w K mg base CX j f fd ps sp) (h : j ≤ k) : FnG P w K mg base CX k f fd ps sp :=
  ⟨F.len, fun A o s H ar us vs Q E hg hr => F.run A o s H ar us vs Q E hg (hr.mono h)⟩
theorem FnG.imp (F : FnG P w K mg base CX k f fd ps sp) (h : ∀ vs H Q E, sp' vs H Q E → sp vs H Q E) : FnG P w K mg base CX k f fd ps sp' :=
  ⟨fun vs H Q E q => F.len vs H Q E (h _ _ _ _ q), fun A o s H ar us vs Q E hg hr he hb hv q => F.run A o s H ar us vs Q E hg hr he hb hv (h _ _ _ _ q)⟩
end
/-- from what a call's end says to the code's end -/
theorem ended {X : Cx} {CX : CXT} {E : XK} {Q : VK} {pins : List (Addr × Obj)} {σ : L2.St} {H : Hp} {s s' : Shared} (hx : Passes CX X E) (I : Inv X pins σ H s) :
    ∀ r : Result, CR CX X.stack X.prog X.w H s Q E r s' → (match r with | .ok (.ret u) => EP X pins σ Q u s' | .ok _ => False | .error e => X.xe e s')
  | .error e, q => hx pins σ H s e s' I q
  | .ok (.ret _), q => I.after q
  | .ok .next, q => q
  | .ok .brk, q => q
  | .ok .cont, q => q
section
variable {X : Cx} {CX : CXT} {k : Nat} {f : Addr} {fd : FuncData} {ps ks : List Str} {sp : Sp} {dvs : List V} {ds : List Value} {E : XK} {x : Str} {p pos : Pos} {e : Expr} {es : List Expr} {t tk : TA} {kws : List Keyword} {g : List Value → List Value → List Value} {gV : List V → List V → List V}
theorem runG {pins : List (Addr × Obj)} {σ : L2.St} {H : Hp} {s : Shared} {Q : VK} {us : List Value} {vs : List V} (F : FnG X.prog X.w X.K X.mg X.base CX k f fd ps sp) (hgu : X.A.guards = some []) (hr : Room k X.A) (hb : Binds X.K fd ps ds)
    (hd : Vals dvs ds) (hx : Passes CX X E) (I : Inv X pins σ H s) (r : Vals vs us) (h : sp (vs ++ dvs) H Q E) : wpAny (model X.prog X.w) X.A (call (.ref f) us) (EP X pins σ Q) X.xe s := by
  have both := r.append hd
  have many : (us ++ ds).length = ps.length := both.length ▸ F.len _ _ _ _ h
  refine wpAny_call (codeAny_mono (F.run X.A X.stack s H _ _ _ Q E hgu hr I.env0 (hb s us I.kIn many) both h) fun z s' q => ?_)
  exact ended hx I z q
theorem runGK {pins : List (Addr × Obj)} {σ : L2.St} {H : Hp} {s : Shared} {Q : VK} {us ws : List Value} {vs zs : List V} (F : FnG X.prog X.w X.K X.mg X.base CX k f fd ps sp) (hgu : X.A.guards = some []) (hr : Room k X.A) (hb : KBinds X.K fd ps ks g gV)
    (hx : Passes CX X E) (I : Inv X pins σ H s) (r : Vals vs us) (rz : Vals zs ws) (h : sp (gV vs zs) H Q E) : wpAny (model X.prog X.w) X.A (call (.ref f) us (ks.zip ws)) (EP X pins σ Q) X.xe s := by
  have both := hb.rel r rz
  have many : (g us ws).length = ps.length := both.length ▸ F.len _ _ _ _ h
  refine wpAny_call (codeAny_mono (F.run X.A X.stack s H _ _ _ Q E hgu hr I.env0 (hb.to s us ws I.kIn many) both h) fun z s' q => ?_)
  exact ended hx I z q
/-- f(e, ..) -/
theorem pcall (F : FnG X.prog X.w X.K X.mg X.base CX k f fd ps sp) (hgu : X.A.guards = some []) (hr : Room k X.A) (hg : Gl X x) (hm : X.mg x = some (.ref f)) (hk : PySem.W.keepIn X.K (.ref f) = true)
    (hb : Binds X.K fd ps ds) (hd : Vals dvs ds) (hx : Passes CX X E) (ha : PA X (e :: es) t) (hdb : (x == ("__debug__" : Str)) = false := by decide)
    (he : starEach (e :: es) X.env = (false, eval e X.env) :: starEach es X.env := by rfl) (hpl : (backTo pos (starEach es X.env)).any (·.1) = false := by rfl) :
    PE X (.Call (.Name x p) (e :: es) [] pos) (tCall sp dvs E t) :=
  ⟨fun pins s σ H Q I h => wpAny_Call_Name_kw (ld_glob I hg hm (PySem.W.callWith_K (h₀ := X.base) I.ok.mod.kin hk
    (thn (ha.run pos pins s σ H _ I h) fun us s1 ⟨vs, H1, I1, r, q⟩ => ⟨I1.kIn, runG F hgu hr hb hd hx I1 r q⟩) he hpl) hdb)⟩
/-- f() -/
theorem pcall0 (F : FnG X.prog X.w X.K X.mg X.base CX k f fd ps sp) (hgu : X.A.guards = some []) (hr : Room k X.A) (hg : Gl X x) (hm : X.mg x = some (.ref f)) (hk : PySem.W.keepIn X.K (.ref f) = true)
    (hb : Binds X.K fd ps ds) (hd : Vals dvs ds) (hx : Passes CX X E) (hdb : (x == ("__debug__" : Str)) = false := by decide) : PE X (.Call (.Name x p) [] [] pos) (tCall sp dvs E tNil) :=
  ⟨fun pins s σ H Q I h => wpAny_Call_Name_kw (ld_glob I hg hm (PySem.W.callWith_K0 I.kIn hk (runG (us := []) F hgu hr hb hd hx I .nil h)) hdb)⟩
end
/-! ### a def by its body -/
section
variable {P : Program} {w : World} {K : PySem.W.Frag} {mg : Str → Option Value} {base : Heap} {CX : CXT} {k : Nat} {f : Addr} {N ps : List Str} {sp : Sp}
theorem fn_ofG {name qual : Str} {params : Arguments} {body : List Stmt} {scope : Scope} {dV kV doc pm cdv ct oc : Value} {an od : Option Addr} {osl : Array (Option Value)}
    (lk : K.lookup f = some ⟨oc, od, .func (PySem.W.fnOf name qual params body scope dV kV doc pm an cdv ct), osl⟩) (hcd : PySem.W.codeIn K cdv qual = true) (S : FnScope N ps scope) (len : ∀ vs H Q E, sp vs H Q E → vs.length = ps.length)
    (hbody : ∀ (A : Around) (outer : List Env) (s : Shared) (H : Hp) (vs : List V) (Q : VK) (E : XK), A.guards = some [] → Room k (A.deeper (envOfC qual scope s.heap.objs.size f cdv)) → sp vs H Q E →
      ∃ t, PSs (cxOf CX P w K mg base N qual scope f cdv A outer s H E) body t ∧ t { nx := fun _ H' => Q .non H', rt := Q } (start N vs) H) :
    FnG P w K mg base CX (k + 1) f (PySem.W.fnOf name qual params body scope dV kV doc pm an cdv ct) ps sp := by
  refine ⟨len, fun A outer s H ar us vs Q E hgu room e0 hb r hsp => ?_⟩
  have stand := fun b o e => (e0.bs b o e).1
  have kx : K.In s.heap := e0.mod.kin.keeps stand
  refine codeAny_call_function room.depth (kx _ _ lk) rfl S.co S.gen rfl (PySem.W.codeRec_of kx hcd) (hb _ _ _ _ (wpAny_newFunctionEnv_cells S.kind (fun ⟨n, v⟩ hy => ?_) fun env he s1 x => ?_))
  · exact (S.par n (List.of_mem_zip hy).1).imp id fun q => ⟨q, PySem.W.cellsFrom_some _ _ _ (.inl q)⟩
  subst he
  refine ⟨(e0.mod.nolimit.keeps stand).keeps x.toInCall.keep, codeAny_func ?_⟩
  obtain ⟨t, ht, hq⟩ := hbody A outer s H vs Q E hgu (room.deeper _) hsp
  have I : Inv (cxOf CX P w K mg base N qual scope f cdv A outer s H E) [] (start N vs) H s1 := inv_start S room.hd e0 (len _ _ _ _ hsp) r x
  refine wpAny_mono (ht.run [] s1 (start N vs) H _ I hq) (fun fl s' hs => ?_) fun _ _ z => z
  cases fl with
  | ret u => exact let ⟨v, _, H', J, rv, q⟩ := hs; ⟨v, H', J.os, J.bare, J.base, J.hok, rv, q⟩
  | next => exact let ⟨_, H', J, q⟩ := hs; ⟨V.non, H', J.os, J.bare, J.base, J.hok, rfl, q⟩
  | brk => exact let ⟨_, _, _, q⟩ := hs; q.elim
  | cont => exact let ⟨_, _, _, q⟩ := hs; q.elim
variable {x qual : Str} {st : Stmt} {fd : FuncData}
/-- a def that lets no exception out -/
theorem okG (F : Fun K x qual st f fd) (S : FnScope N ps (defScope st)) (len : ∀ vs H Q E, sp vs H Q E → vs.length = ps.length)
    (hbody : ∀ (cdv : Value) (A : Around) (outer : List Env) (s : Shared) (H : Hp) (vs : List V) (Q : VK) (E : XK), A.guards = some [] → Room k (A.deeper (envOfC qual (defScope st) s.heap.objs.size f cdv)) → sp vs H Q E →
      ∃ t, PSs (cxOf CX0 P w K mg base N qual (defScope st) f cdv A outer s H E).nox (defBody st) t ∧ t { nx := fun _ H' => Q .non H', rt := Q } (start N vs) H) : FnG P w K mg base CX0 (k + 1) f fd ps sp := by
  obtain ⟨_, _, _, _, _, _, cdv, _, _, rfl, lk, hcd⟩ := F.ex
  exact fn_ofG lk hcd S len fun A outer s H vs Q E hgu room h => let ⟨t, h1, h2⟩ := hbody cdv A outer s H vs Q E hgu room h; ⟨t, h1.nox, h2⟩
/-- a def that may raise -/
theorem okGX (F : Fun K x qual st f fd) (S : FnScope N ps (defScope st)) (len : ∀ vs H Q E, sp vs H Q E → vs.length = ps.length)
    (hbody : ∀ (cdv : Value) (A : Around) (outer : List Env) (s : Shared) (H : Hp) (vs : List V) (Q : VK) (E : XK), A.guards = some [] → Room k (A.deeper (envOfC qual (defScope st) s.heap.objs.size f cdv)) → sp vs H Q E →
      ∃ t, PSs (cxOf (L2.CX P w) P w K mg base N qual (defScope st) f cdv A outer s H E) (defBody st) t ∧ t { nx := fun _ H' => Q .non H', rt := Q } (start N vs) H) : FnG P w K mg base (L2.CX P w) (k + 1) f fd ps sp := by
  obtain ⟨_, _, _, _, _, _, cdv, _, _, rfl, lk, hcd⟩ := F.ex
  exact fn_ofG lk hcd S len fun A outer s H vs Q E => hbody cdv A outer s H vs Q E
end
end Gd
end

section
set_option maxRecDepth 100000
namespace Gd
open PySem PySem.Spec PyProof.Rows L2
section
variable {P : Program} {w : World} {K : PySem.W.Frag} {mg mb : Str → Option Value} {k : Nat} {fa a : Addr} {fd : FuncData} {x : Str} {sp : Sp} {t : Shared} {vs : List Value} {ns : List Int}
/-- the law's own call from a heap in which at most the script is tracked -/
theorem core (KX : K.In t.heap) (hns : t.heap.Ns mainGlobals mg) (hb : t.heap.Ns builtinsNs mb) (hbb : ∀ x : Str, x ≠ "__name__" → mb x = bootBuiltins x) (hlim : t.heap.NoLimit) (hg : t.gens = #[])
    (ha : t.heap.get? a = some { cls := .type "list", data := .seq vs.toArray }) (hr : Room k callerA)
    (F : ∀ base : Heap, K.In base → base.Ns mainGlobals mg → FnG P w K mg base CX0 k fa fd [x] sp) (hbind : ∀ (s : Shared) (u : Value), BindsTo s fd ⟨[u], []⟩ [(x, u)])
    (H : Hp) (only : Only H) (ok : HOk P w H t.heap) (one : ∀ b, H b ≠ none → b = a) (apart : H a ≠ none → K.lookup a = none) (hsp : sp [.ref a] H (fun v _ => v = .bl true) fun _ _ _ => False) :
    codeAny (model P w) callerA (.call (.ref fa) ⟨[.ref a], []⟩) (fun r s' => r = .ok (.ret (.bool true)) ∧ OldK t.heap s'.heap ∧ s'.os = t.os ∧ AllBare s'.gens) t := by
  have out : ∀ {b : Addr}, b ≠ a → H b = none := fun {b} ne => Classical.byContradiction fun z => ne (one b z)
  have dictOut : ∀ {b : Addr} {o : Obj} {es : Array DictEntry} {ep : Nat}, t.heap.get? b = some o → o.data = .dict es ep → H b = none := fun {b o es ep} e d => out fun z => by
    subst z
    rw [ha] at e
    cases e
    exact nomatch d
  have ns' : ∀ {b : Addr} {m : Str → Option Value}, t.heap.Ns b m → (hidT t.heap H).Ns b m := fun ⟨o, es, ep, e, d, r⟩ => ⟨o, es, ep, hidT_get e (dictOut e d), d, r⟩
  have kin : K.In (hidT t.heap H) := fun b o e => hidT_get (KX b o e) (Classical.byContradiction fun z => by
    have same := one b z
    subst same
    have none := apart z
    rw [none] at e
    cases e)
  have md : Mod K mg (hidT t.heap H) := ⟨kin, ns' hns, ⟨mb, ns' hb, hbb⟩, let ⟨mc, h1, h2⟩ := hlim; ⟨mc, ns' h1, h2⟩⟩
  have env : Env0 P w K mg (hidT t.heap H) callerA [] t H := ⟨rfl, md, fun b o e => of_hidT e, Nat.le_of_eq (hidT_size _ _), trivial, fun b z => (List.not_mem_nil z).elim, ok, .of_eq hg⟩
  refine codeAny_mono ((F _ kin (ns' hns)).run callerA [] t H _ [.ref a] [.ref a] _ _ rfl hr env (hbind t _) (.cons rfl .nil) hsp) fun r s' h => ?_
  match r, h with
  | .ok (.ret u), ⟨v, H', os, bare, un, ok', rel, q⟩ =>
    have q : v = .bl true := q
    subst q
    obtain rfl : u = Value.bool true := rel
    refine ⟨rfl, OldK.of_keep fun b o e => ?_, os, bare⟩
    cases c : H b with
    | none => exact un.keep b o e c List.not_mem_nil List.not_mem_nil
    | some z =>
      obtain z2 | ⟨ob, xs, z2⟩ := only b
      · rw [z2] at c; cases c
      · have one := (ok b _ z2).1
        rw [e] at one
        cases one
        exact (ok' b _ (un.frzs b _ _ z2)).1
theorem lawG (KX : K.In t.heap) (hns : t.heap.Ns mainGlobals mg) (hb : t.heap.Ns builtinsNs mb) (hbb : ∀ x : Str, x ≠ "__name__" → mb x = bootBuiltins x) (hlim : t.heap.NoLimit) (hg : t.gens = #[])
    (ha : t.heap.get? a = some { cls := .type "list", data := .seq vs.toArray }) (hi : IntsAre vs ns) (hl : ns.length ≤ sizeLine) (hr : Room k callerA)
    (F : ∀ base : Heap, K.In base → base.Ns mainGlobals mg → FnG P w K mg base CX0 k fa fd [x] sp) (hbind : ∀ (s : Shared) (u : Value), BindsTo s fd ⟨[u], []⟩ [(x, u)])
    (hsp : ∀ H : Hp, Only H → SqL K H a (ns.map V.int) → sp [.ref a] H (fun v _ => v = .bl true) fun _ _ _ => False) :
    codeAny (model P w) callerA (.call (.ref fa) ⟨[.ref a], []⟩) (fun r s' => r = .ok (.ret (.bool true)) ∧ OldK t.heap s'.heap ∧ s'.os = t.os ∧ AllBare s'.gens) t := by
  have rv := vals_ints hi
  have many := hi.length
  by_cases known : ∃ o, K.lookup a = some o
  · -- the script is one of the module's own objects: nothing is tracked
    obtain ⟨o, known⟩ := known
    have e := KX a o known
    rw [ha] at e
    cases e
    have sq : SqL K (fun _ => none) a (ns.map V.int) := .inr ⟨_, vs.toArray, _, known, rfl, rfl, rfl, by rw [List.size_toArray, many]; exact hl, by simpa using rv⟩
    exact core KX hns hb hbb hlim hg ha hr F hbind (fun _ => none) (fun _ => .inl rfl) (fun _ _ z => nomatch z) (fun _ z => absurd rfl z) (fun z => absurd rfl z) (hsp _ (fun _ => .inl rfl) sq)
  · have free : K.lookup a = none := by
      cases c : K.lookup a with
      | none => rfl
      | some o => exact absurd ⟨o, c⟩ known
    let T : Hp := upd (fun _ => none) a (.frz { cls := .type "list", data := .seq vs.toArray } (.lst (ns.map V.int)))
    have only : Only T := fun b => by
      by_cases c : b = a
      · subst c; exact .inr ⟨_, _, upd_same⟩
      · exact .inl (upd_ne c)
    refine core KX hns hb hbb hlim hg ha hr F hbind T only (fun b u z => ?_) (fun b z => Classical.byContradiction fun c => z (upd_ne c)) (fun _ => free) (hsp T only (.inl (.inr ⟨_, upd_same⟩)))
    by_cases c : b = a
    · subst c
      have z2 : T b = _ := upd_same
      rw [z2] at z
      cases z
      exact ⟨ha, by rw [List.length_map]; exact hl, vs, _, rv, ha⟩
    · have z2 : T b = none := upd_ne c
      rw [z2] at z
      cases z
end
theorem walkG {l : PySem.W.OpenLaw} {n k : Nat} {q : Program} {loose : List Str} {XP : (Str → Option Value) → Heap → Prop} {YP : World → Heap → Prop} {d : DefRec} {K : Params → PySem.W.Frag} {sp : PySem.W.Frag → Sp} {x : Str}
    (most : l.most = some n) (small : n ≤ sizeLine) (plain : d.params.defaults = []) (room : Room k callerA) (hY : ∀ (w : World) (h : Heap), YP w h → (K w.params).In h)
    (F : ∀ (w : World) (mg : Str → Option Value) (fa : Addr) (h : Heap), (K w.params).In h → h.Ns mainGlobals mg → mg d.name = some (.ref fa) →
      ∃ fd : FuncData, (∀ (s : Shared) (u : Value), BindsTo s fd ⟨[u], []⟩ [(x, u)]) ∧
        ∀ base : Heap, (K w.params).In base → base.Ns mainGlobals mg → FnG l.prog w (K w.params) mg base CX0 k fa fd [x] (sp (K w.params)))
    (hsp : ∀ (K : PySem.W.Frag) (H : Hp) (a : Addr) (ns : List Int), ns.length ≤ n → Only H → SqL K H a (ns.map V.int) → sp K [.ref a] H (fun v _ => v = .bl true) fun _ _ _ => False) :
    PySem.W.WalkO q loose XP YP l.row.toRowW d [] (fun f vs => PySem.call f vs) :=
  Att.attach_call most plain fun w s₀ s₁ mg mb fa o pm cd doc a vs ns G Y ho hd hcd hmg hobj hints hlen hg =>
    let KX := hY w _ Y
    let ⟨_, hb, hF⟩ := F w mg fa _ KX G.T.g hmg
    lawG KX G.T.g G.T.b G.T.builtins G.T.nolimit hg hobj hints (Nat.le_trans hlen small) room hF hb fun H hO hS => hsp (K w.params) H a ns hlen hO hS
end Gd
end

section
set_option maxRecDepth 100000
set_option maxHeartbeats 2000000
/-! Data that lie in the abstract heap: what a value reads as, whatever grows beside it. M: the addresses of lists that may still change. -/
namespace Gd
open PySem PySem.Spec PyProof.Rows L2
def keyD : Key → PyData
  | .inl i => .int i
  | .inr x => .str x
mutual
inductive Rep (M : List Addr) (H : Hp) : V → PyData → Prop
  | non : Rep M H .non .none
  | bl (b : Bool) : Rep M H (.bl b) (.bool b)
  | int (i : Int) : Rep M H (.int i) (.int i)
  | str (x : Str) : Rep M H (.str x) (.str x)
  | tup {a : Addr} {vs : List V} {ds : List PyData} : a ∉ M → H a = some (.tup vs) → Reps M H vs ds → Rep M H (.ref a) (.tuple ds)
  | lst {a : Addr} {vs : List V} {ds : List PyData} : a ∉ M → a ≠ sysModules → H a = some (.lst vs) → Reps M H vs ds → Rep M H (.ref a) (.list ds)
  | emp {a : Addr} : a ∉ M → H a = some (.dK []) → Rep M H (.ref a) (.dict [])
inductive Reps (M : List Addr) (H : Hp) : List V → List PyData → Prop
  | nil : Reps M H [] []
  | cons {v : V} {vs : List V} {d : PyData} {ds : List PyData} : Rep M H v d → Reps M H vs ds → Reps M H (v :: vs) (d :: ds)
end
/-- all but what stands at M is kept -/
def Kp (M : List Addr) (H H' : Hp) : Prop := ∀ b o, b ∉ M → H b = some o → H' b = some o
/-- what stands at M is there -/
def Live (M : List Addr) (H : Hp) : Prop := ∀ b ∈ M, ∃ o, H b = some o
theorem Kp.refl {M : List Addr} {H : Hp} : Kp M H H := fun _ _ _ e => e
theorem Kp.trans {M : List Addr} {H H1 H2 : Hp} (a : Kp M H H1) (b : Kp M H1 H2) : Kp M H H2 := fun c o hc e => b c o hc (a c o hc e)
theorem Kp.new {M : List Addr} {H : Hp} {p : Addr} {o : HO} (h : H p = none) : Kp M H (upd H p o) := fun b x _ e => by rw [upd_ne (ne_of_none e h)]; exact e
theorem Kp.more {M M' : List Addr} {H H' : Hp} (h : ∀ b ∈ M, b ∈ M') (k : Kp M H H') : Kp M' H H' := fun b o hb e => k b o (fun z => hb (h b z)) e
theorem Kp.same {H H' : Hp} (k : Kp [] H H') {M : List Addr} : Kp M H H' := k.more fun _ z => (List.not_mem_nil z).elim
theorem Kp.put {M : List Addr} {H : Hp} {p : Addr} {o : HO} (h : p ∈ M) : Kp M H (upd H p o) := fun b x hb e => by rw [upd_ne (fun z : b = p => hb (by rw [z]; exact h))]; exact e
/-- a change at a place that was new -/
theorem Kp.drop {M : List Addr} {H H' : Hp} {p : Addr} (hp : H p = none) (k : Kp (p :: M) H H') : Kp M H H' := fun b o hb e =>
  k b o (fun z => (List.mem_cons.mp z).elim (fun z => by rw [z, hp] at e; cases e) hb) e
theorem Live.nil {H : Hp} : Live [] H := fun _ z => (List.not_mem_nil z).elim
theorem Live.cons {M : List Addr} {H : Hp} {p : Addr} {o : HO} (e : H p = some o) (l : Live M H) : Live (p :: M) H := fun b hb => (List.mem_cons.mp hb).elim (fun z => ⟨o, z ▸ e⟩) (l b)
theorem Live.fresh {M : List Addr} {H : Hp} {p : Addr} (l : Live M H) (h : H p = none) : p ∉ M := fun z => by obtain ⟨o, e⟩ := l p z; rw [h] at e; cases e
/-- (a heap that only grew keeps them there) -/
theorem Live.new {M : List Addr} {H : Hp} {p : Addr} {o : HO} (l : Live M H) : Live M (upd H p o) := fun b hb => by
  by_cases e : b = p
  · exact ⟨o, by rw [e, upd_same]⟩
  · obtain ⟨x, h⟩ := l b hb
    exact ⟨x, by rw [upd_ne e]; exact h⟩
mutual
theorem Rep.keep {M : List Addr} {H H' : Hp} (k : Kp M H H') : ∀ {v : V} {d : PyData}, Rep M H v d → Rep M H' v d
  | _, _, .non => .non
  | _, _, .bl b => .bl b
  | _, _, .int i => .int i
  | _, _, .str x => .str x
  | _, _, .tup n e r => .tup n (k _ _ n e) (Reps.keep k r)
  | _, _, .lst n z e r => .lst n z (k _ _ n e) (Reps.keep k r)
  | _, _, .emp n e => .emp n (k _ _ n e)
theorem Reps.keep {M : List Addr} {H H' : Hp} (k : Kp M H H') : ∀ {vs : List V} {ds : List PyData}, Reps M H vs ds → Reps M H' vs ds
  | _, _, .nil => .nil
  | _, _, .cons r s => .cons (Rep.keep k r) (Reps.keep k s)
end
mutual
/-- other lists that may change -/
theorem Rep.swap {M M' : List Addr} {H : Hp} (k : ∀ b o, H b = some o → b ∉ M → b ∉ M') : ∀ {v : V} {d : PyData}, Rep M H v d → Rep M' H v d
  | _, _, .non => .non
  | _, _, .bl b => .bl b
  | _, _, .int i => .int i
  | _, _, .str x => .str x
  | _, _, .tup n e r => .tup (k _ _ e n) e (Reps.swap k r)
  | _, _, .lst n z e r => .lst (k _ _ e n) z e (Reps.swap k r)
  | _, _, .emp n e => .emp (k _ _ e n) e
theorem Reps.swap {M M' : List Addr} {H : Hp} (k : ∀ b o, H b = some o → b ∉ M → b ∉ M') : ∀ {vs : List V} {ds : List PyData}, Reps M H vs ds → Reps M' H vs ds
  | _, _, .nil => .nil
  | _, _, .cons r s => .cons (Rep.swap k r) (Reps.swap k s)
end
theorem Rep.more {M : List Addr} {H : Hp} {p : Addr} {v : V} {d : PyData} (h : H p = none) (r : Rep M H v d) : Rep (p :: M) H v d :=
  r.swap fun b o e n z => (List.mem_cons.mp z).elim (fun q => by rw [q, h] at e; cases e) n
theorem Reps.more {M : List Addr} {H : Hp} {p : Addr} {v : List V} {d : List PyData} (h : H p = none) (r : Reps M H v d) : Reps (p :: M) H v d :=
  r.swap fun b o e n z => (List.mem_cons.mp z).elim (fun q => by rw [q, h] at e; cases e) n
theorem Rep.less {M M' : List Addr} {H : Hp} {v : V} {d : PyData} (h : ∀ b ∈ M', b ∈ M) (r : Rep M H v d) : Rep M' H v d := r.swap fun b _ _ n z => n (h b z)
theorem Reps.less {M M' : List Addr} {H : Hp} {v : List V} {d : List PyData} (h : ∀ b ∈ M', b ∈ M) (r : Reps M H v d) : Reps M' H v d := r.swap fun b _ _ n z => n (h b z)
theorem Reps.length {M : List Addr} {H : Hp} : ∀ {vs : List V} {ds : List PyData}, Reps M H vs ds → vs.length = ds.length
  | _, _, .nil => rfl
  | _, _, .cons _ r => congrArg (· + 1) r.length
theorem Reps.at {M : List Addr} {H : Hp} : ∀ {vs : List V} {ds : List PyData} {i : Nat} {v : V}, Reps M H vs ds → vs[i]? = some v → ∃ d, ds[i]? = some d ∧ Rep M H v d
  | _, _, _, _, .nil, e => by simp at e
  | _, _, 0, _, .cons r _, e => by simp at e; exact ⟨_, rfl, e ▸ r⟩
  | _, _, i + 1, _, .cons _ r, e => Reps.at (i := i) r (by simpa using e)
theorem Reps.at' {M : List Addr} {H : Hp} : ∀ {vs : List V} {ds : List PyData} {i : Nat} {d : PyData}, Reps M H vs ds → ds[i]? = some d → ∃ v, vs[i]? = some v ∧ Rep M H v d
  | _, _, _, _, .nil, e => by simp at e
  | _, _, 0, _, .cons r _, e => by simp at e; exact ⟨_, rfl, e ▸ r⟩
  | _, _, i + 1, _, .cons _ r, e => Reps.at' (i := i) r (by simpa using e)
theorem Reps.append {M : List Addr} {H : Hp} : ∀ {vs ws : List V} {ds es : List PyData}, Reps M H vs ds → Reps M H ws es → Reps M H (vs ++ ws) (ds ++ es)
  | _, _, _, _, .nil, s => s
  | _, _, _, _, .cons r t, s => .cons r (Reps.append t s)
theorem Reps.take {M : List Addr} {H : Hp} : ∀ {vs : List V} {ds : List PyData} (n : Nat), Reps M H vs ds → Reps M H (vs.take n) (ds.take n)
  | _, _, 0, _ => .nil
  | _, _, _ + 1, .nil => .nil
  | _, _, n + 1, .cons r t => .cons r (Reps.take n t)
theorem Reps.drop {M : List Addr} {H : Hp} : ∀ {vs : List V} {ds : List PyData} (n : Nat), Reps M H vs ds → Reps M H (vs.drop n) (ds.drop n)
  | _, _, 0, r => r
  | _, _, _ + 1, .nil => .nil
  | _, _, n + 1, .cons _ t => Reps.drop n t
theorem Reps.reverse {M : List Addr} {H : Hp} : ∀ {vs : List V} {ds : List PyData}, Reps M H vs ds → Reps M H vs.reverse ds.reverse
  | _, _, .nil => .nil
  | _, _, .cons r t => by
    rw [List.reverse_cons, List.reverse_cons]
    exact t.reverse.append (.cons r .nil)
theorem Reps.strs {M : List Addr} {H : Hp} : ∀ {vs : List V} {ss : List Str}, Reps M H vs (ss.map PyData.str) → vs = ss.map V.str
  | _, [], .nil => rfl
  | _, _ :: _, .cons (.str _) r => congrArg (_ :: ·) r.strs
theorem Reps.of_strs {M : List Addr} {H : Hp} : ∀ ss : List Str, Reps M H (ss.map V.str) (ss.map PyData.str)
  | [] => .nil
  | s :: r => .cons (.str s) (Reps.of_strs r)
section
variable {X : Cx} {pins : List (Addr × Obj)} {σ : L2.St} {H : Hp} {s : Shared} {M : List Addr}
mutual
/-- what the state says of such a value -/
theorem Rep.reads (I : Inv X pins σ H s) : ∀ {v : V} {d : PyData} {u : Value}, Rep M H v d → RelV v u → ∃ as, Reads s.heap u d as ∧ sysModules ∉ as
  | _, _, _, .non, r => by cases r; exact ⟨_, .none, List.not_mem_nil⟩
  | _, _, _, .bl b, r => by cases r; exact ⟨_, .bool b, List.not_mem_nil⟩
  | _, _, _, .int i, r => by obtain ⟨t, rfl⟩ := r; exact ⟨_, .int i t, List.not_mem_nil⟩
  | _, _, _, .str x, r => by obtain ⟨t, rfl⟩ := r; exact ⟨_, .str x t, List.not_mem_nil⟩
  | _, _, _, .tup _ e q, r => by
    cases r
    obtain ⟨_, its, rv, o, h1, h2, n, h3⟩ := (show ObjOk X.prog X.w H s.heap _ (.tup _) from I.hok _ _ e)
    obtain ⟨as, z, no⟩ := Reps.reads I q rv
    exact ⟨_, .tuple h1 h2 h3 z, no⟩
  | _, _, _, .lst _ ne e q, r => by
    cases r
    obtain ⟨_, its, n, rv, h1⟩ := (show ObjOk X.prog X.w H s.heap _ (.lst _) from I.hok _ _ e)
    obtain ⟨as, z, no⟩ := Reps.reads I q rv
    exact ⟨_, .list h1 rfl rfl z, fun m => (List.mem_cons.mp m).elim (fun z => ne z.symm) no⟩
  | _, _, _, .emp _ e, r => by
    cases r
    obtain ⟨_, hd, vs, kv, o, es, ep, h1, ex, h2, _, h3, _⟩ := (show ObjOk X.prog X.w H s.heap _ (.dK []) from I.hok _ _ e)
    cases kv
    have h4 : es.toList = [] := by cases q : es.toList with
      | nil => rfl
      | cons x r => rw [q] at h3; cases h3
    refine ⟨_, .dict h1 ex.1 h2 (kvs := []) (by rw [h4]; exact .nil) (by rw [h4]; exact .nil), fun m => ?_⟩
    have m' : sysModules ∈ _ :: ([] : List Addr) := m
    rw [List.mem_singleton] at m'
    exact absurd hd (by rw [m']; simp)
theorem Reps.reads (I : Inv X pins σ H s) : ∀ {vs : List V} {ds : List PyData} {us : List Value}, Reps M H vs ds → Vals vs us → ∃ as, ReadsAll s.heap us ds as ∧ sysModules ∉ as
  | _, _, _, .nil, r => by cases r; exact ⟨_, .nil, List.not_mem_nil⟩
  | _, _, _, .cons q qs, r => by
    cases r with
    | cons r1 r2 =>
      obtain ⟨as, z, no⟩ := Rep.reads I q r1
      obtain ⟨bs, z2, no2⟩ := Reps.reads I qs r2
      exact ⟨_, .cons z z2, fun m => (List.mem_append.mp m).elim no no2⟩
end
end
end Gd
end

section
set_option maxRecDepth 100000
set_option maxHeartbeats 2000000
/-! Built-ins over such data: repr, in, <, isinstance, new lists. -/
namespace PySem.SeqAt
open PySem PySem.MeetsSeq
theorem gd_str_declines (b : Str) (u : Tok) (l : Addr) (es : Array DictEntry) (n : Nat) :
    Meets (Builtin.«str.__eq__» ⟨[.str b u, .ref l], []⟩) (fun _ R s => s.heap.get? l = some { cls := .type "dict", data := .dict es n } ∧ R (.ok (.ret .notImplemented)) s) :=
  .of_wp fun prog w A R s h => by obtain ⟨hp, g, d, tk, os⟩ := s; obtain ⟨hl, h⟩ := h; wp_walk using wpAny_loadPart' hl, wpAny_load hl; exact ⟨_, rfl, h⟩
theorem gd_str_dict {prog : Program} {w : World} {A : Around} {s : Shared} {l : Addr} {es : Array DictEntry} {n : Nat} (b : Str) (u : Tok) (ho : s.heap.get? l = some { cls := .type "dict", data := .dict es n }) (hu : A.units < cLine) : EqAt A s (.str b u) (.ref l) false := fun prog w E Q h => by
  have ty : s.TypeIs (.ref l) "dict" := ⟨_, ho, rfl⟩
  unfold eqBool
  refine wpAny_holding (wpAny_ite_split (fun z => nomatch (eq_of_beq z)) fun _ => wpAny_bind ?_)
  refine rc_eq_decline_or (k := false) (typeIs_str s b u) ty (by decide) F.sub_dict_str F.slot_str_eq F.slot_dict_eq_refl
    (fun _ hq => call_meets F.slot_str_eq (typeIs_str s b u) F.entry_str_eq (F.args_str_eq_2 _ _) (gd_str_declines b u l es n) ⟨ho, hq⟩)
    (fun _ hq => wpAny_call_entry F.slot_dict_eq_refl ty F.entry_dict_eq ?_ (F.args_dict_eq_2 _ _))
    (fun _ hq => wpAny_of_eq (rfl : isSame (.str b u) (.ref l) = pure false) hq) (.inr hu) (wpAny_truthy_bool h)
  show wpAny _ _ (Builtin.Dict.dictSlotArgs "__eq__" ⟨[.ref l, .str b u], []⟩ >>= _) _ _ s
  refine wpAny_bind ?_
  unfold Builtin.Dict.dictSlotArgs
  refine wpAny_bind (wpAny_notOrdered_dict ty ?_)
  show wpAny _ _ (pure (Value.ref l, Value.str b u)) _ _ s
  refine wpAny_pure ?_
  refine wpAny_bind (wpAny_isInstance (T := "str") (typeIs_str s b u) F.sub_str_dict ?_)
  simp only [Bool.not_false, if_true]
  refine wpAny_bind (wpAny_rule ?_)
  exact wpAny_pure ⟨_, rfl, hq⟩
end PySem.SeqAt
namespace Gd
open PySem PySem.Spec PyProof.Rows L2
section
variable {X : Cx} {k : Nat}
/-- repr(v) -/
def rRepr : List V → Hp → VK → Prop := fun xs H Q => ∃ M v d, xs = [v] ∧ Rep M H v d ∧ d.showable = true ∧ d.depth ≤ 100 ∧ d.shown.length ≤ sizeLine ∧ Q (.str d.shown) H
theorem call_repr (hg : X.A.guards = some []) (hr : Room k X.A) : CallR X (.builtin "repr") rRepr := by
  intro pins s σ H xs us Q I r h
  obtain ⟨M, v, d, rfl, rp, sh, dp, sz, q⟩ := h
  obtain ⟨u, rfl, ru⟩ := vals1 r
  have un := hr.un
  cases rp with
  | non => cases ru; exact PySem.P.repr_of_none ⟨.str _, H, I.tok _, ⟨_, rfl⟩, q⟩
  | bl b => cases ru; exact PySem.P.repr_of_bool ⟨.str _, H, I.tok _, ⟨_, rfl⟩, q⟩
  | int i => obtain ⟨t, rfl⟩ := ru; exact PySem.P.repr_of_int (by simpa [PyData.showable] using sh) ⟨.str _, H, I.tok _, ⟨_, rfl⟩, q⟩
  | str x => obtain ⟨t, rfl⟩ := ru; exact PySem.P.repr_of_str ⟨.str _, H, I.tok _, ⟨_, rfl⟩, q⟩ (by simpa only [PyData.shown] using sz)
  | tup n e z =>
    obtain ⟨as, rd, no⟩ := Rep.reads I (.tup n e z) ru
    cases ru
    exact PySem.repr_of_reads' rd sh (fun _ => no) hg (by omega) (fun _ _ e => e) (fun h' u tk kp => ⟨.str _, H, I.kept kp, ⟨_, rfl⟩, q⟩) sz
  | lst n ne e z =>
    obtain ⟨as, rd, no⟩ := Rep.reads I (.lst n ne e z) ru
    cases ru
    exact PySem.repr_of_reads' rd sh (fun _ => no) hg (by omega) (fun _ _ e => e) (fun h' u tk kp => ⟨.str _, H, I.kept kp, ⟨_, rfl⟩, q⟩) sz
  | emp n e =>
    obtain ⟨as, rd, no⟩ := Rep.reads I (.emp (M := M) n e) ru
    cases ru
    exact PySem.repr_of_reads' rd sh (fun _ => no) hg (by omega) (fun _ _ e => e) (fun h' u tk kp => ⟨.str _, H, I.kept kp, ⟨_, rfl⟩, q⟩) sz
/-- x in t, t a tuple of texts, x anything -/
def inD (d : PyData) (ss : List Str) : Bool := match d with
  | .str x => decide (x ∈ ss)
  | _ => false
def rInT : R2 := fun x y H Q => ∃ M d a ss, Rep M H x d ∧ y = .ref a ∧ H a = some (.tup (ss.map V.str)) ∧ Q (.bl (inD d ss)) H
theorem vals_strs : ∀ {ss : List Str} {us : List Value}, Vals (ss.map V.str) us → ∀ y ∈ us, ∃ z ∈ ss, ∃ t, y = .str z t
  | [], _, .nil, _, h => nomatch h
  | s :: r, _, .cons ⟨t, e⟩ q, y, h => by
    rcases List.mem_cons.mp h with rfl | h
    · exact ⟨s, List.mem_cons_self, t, e⟩
    · obtain ⟨z, hz, t, e⟩ := vals_strs q y h
      exact ⟨z, List.mem_cons_of_mem _ hz, t, e⟩
theorem vals_any {x : Str} : ∀ {ss : List Str} {us : List Value}, Vals (ss.map V.str) us → (us.any fun u => match u with | .str z _ => decide (z = x) | _ => false) = decide (x ∈ ss)
  | [], _, .nil => by simp
  | s :: r, _, .cons ⟨t, e⟩ q => by
    subst e
    rw [List.any_cons, vals_any q]
    by_cases h : s = x
    · subst h; simp
    · have h' : ¬ x = s := fun z => h z.symm
      simp [h, h']
theorem op_inT (hr : Room k X.A) : OpR X (compareOp .In) rInT := by
  intro pins s σ H x y v u Q I rx ry h
  obtain ⟨M, d, a, ss, rp, rfl, ha, q⟩ := h
  cases ry
  obtain ⟨_, its, rv, ht⟩ := (show ObjOk X.prog X.w H s.heap a (.tup (ss.map V.str)) from I.hok _ _ ha)
  have un := hr.un
  have un1 : X.A.in1.units = X.A.units + 1 := rfl
  have fin : ∀ e : Value → Bool, its.any e = inD d ss → (∀ y, y ∈ its.toArray → SeqAt.EqAt X.A.in1 s y v (e y)) → wpAny (model X.prog X.w) X.A (compareOp .In v (.ref a)) (EP X pins σ Q) X.xe s := fun e he hy =>
    SeqAt.in_tupleAt e ht hy ⟨.bl _, H, I, rfl, by rw [List.any_toArray, he]; exact q⟩
  have no : (its.any fun _ => false) = false := by simp
  have txt : ∀ y ∈ its.toArray, ∃ z t, y = .str z t := fun y hy => let ⟨z, _, t, e⟩ := vals_strs rv y (by simpa using hy); ⟨z, t, e⟩
  cases rp with
  | non => cases rx; exact fin (fun _ => false) no fun y hy => by obtain ⟨z, t, rfl⟩ := txt y hy; exact SeqAt.EqAt.str_none z t
  | bl b => cases rx; exact fin (fun _ => false) no fun y hy => by obtain ⟨z, t, rfl⟩ := txt y hy; exact SeqAt.EqAt.str_bool z t b
  | int i => obtain ⟨t2, rfl⟩ := rx; exact fin (fun _ => false) no fun y hy => by obtain ⟨z, t, rfl⟩ := txt y hy; exact SeqAt.EqAt.str_int z t i t2
  | str x =>
    obtain ⟨t2, rfl⟩ := rx
    refine fin (fun u => match u with | .str z _ => decide (z = x) | _ => false) (vals_any rv) fun y hy => ?_
    obtain ⟨z, t, rfl⟩ := txt y hy
    have e := SeqAt.EqAt.str_str (A := X.A.in1) (s := s) z t x t2
    have e2 : (z == x) = decide (z = x) := by by_cases c : z = x <;> simp [c]
    rw [e2] at e
    exact e
  | tup n e z =>
    cases rx
    obtain ⟨_, i2, _, h2⟩ := (show ObjOk X.prog X.w H s.heap _ (.tup _) from I.hok _ _ e)
    exact fin (fun _ => false) no fun y hy => by obtain ⟨z, t, rfl⟩ := txt y hy; exact SeqAt.EqAt.str_tuple z t h2 (by omega)
  | lst n ne e z =>
    cases rx
    obtain ⟨_, i2, m, _, h2⟩ := (show ObjOk X.prog X.w H s.heap _ (.lst _) from I.hok _ _ e)
    exact fin (fun _ => false) no fun y hy => by obtain ⟨z, t, rfl⟩ := txt y hy; exact SeqAt.EqAt.str_list z t ⟨_, h2, rfl, _, rfl⟩ (by omega)
  | emp n e =>
    cases rx
    obtain ⟨_, hd, vs, kv, o, es, ep, h1, ex, h2, _⟩ := (show ObjOk X.prog X.w H s.heap _ (.dK []) from I.hok _ _ e)
    obtain ⟨oc, od, dt, sl⟩ := o
    obtain ⟨e1, e2, e3⟩ := ex
    simp only at e1 e2 e3 h2
    subst e1 e2 e3 h2
    exact fin (fun _ => false) no fun y hy => by obtain ⟨z, t, rfl⟩ := txt y hy; exact SeqAt.gd_str_dict (prog := X.prog) (w := X.w) z t h1 (by omega)
end
end Gd
end

section
set_option maxRecDepth 100000
set_option maxHeartbeats 2000000
/-! Further built-ins: <, isinstance, new lists, great powers. -/
namespace Gd
open PySem PySem.Spec PyProof.Rows L2
section
variable {X : Cx} {k : Nat}
/-- d < e, data of one shape -/
def rLtD : R2 := fun x y H Q => ∃ M d e, Rep M H x d ∧ Rep M H y e ∧ W.alike d e = true ∧ d ≠ .none ∧ d.depth ≤ 100 ∧ Q (.bl (W.dataLt d e)) H
theorem op_ltD (hr : Room k X.A) : OpR X (compareOp .Lt) rLtD := by
  intro pins s σ H x y v u Q I rx ry h
  obtain ⟨M, d, e, rd, re, al, nn, dp, q⟩ := h
  obtain ⟨as, z, _⟩ := Rep.reads I rd rx
  obtain ⟨bs, z2, _⟩ := Rep.reads I re ry
  have un := hr.un
  show wpAny _ _ (richCompare .Lt v u) _ _ s
  exact W.rcLt_alike d e X.A s v u as bs z z2 al nn (by omega) X.prog X.w X.xe _ ⟨.bl _, H, I, rfl, q⟩
/-- the class's name -/
def tyN : PyData → String
  | .none => "NoneType"
  | .bool _ => "bool"
  | .int _ => "int"
  | .str _ => "str"
  | .list _ => "list"
  | .tuple _ => "tuple"
  | .dict _ => "dict"
theorem Rep.ty {M : List Addr} {H : Hp} {K : W.Frag} {v : V} {d : PyData} (r : Rep M H v d) : TyX K H v (.type (tyN d)) := by
  cases r with
  | non => exact .base .non
  | bl b => exact .base (.bl b)
  | int i => exact .base (.int i)
  | str x => exact .base (.str x)
  | tup n e z => exact .base (.tup e)
  | lst n ne e z => exact .base (.lst e)
  | emp n e => exact .base (.dK e)
def isTup : PyData → Bool
  | .tuple _ => true
  | _ => false
def isStr : PyData → Bool
  | .str _ => true
  | _ => false
def isInt : PyData → Bool
  | .int _ => true
  | .bool _ => true
  | _ => false
theorem kit_tup {K : W.Frag} : ∀ d : PyData, W.kitOne K (.type (tyN d)) (.type "tuple") = some (isTup d)
  | .none => kit_ty (show kitB "NoneType" "tuple" = some false by decide +kernel)
  | .bool _ => kit_ty (show kitB "bool" "tuple" = some false by decide +kernel)
  | .int _ => kit_ty (show kitB "int" "tuple" = some false by decide +kernel)
  | .str _ => kit_ty (show kitB "str" "tuple" = some false by decide +kernel)
  | .list _ => kit_ty (show kitB "list" "tuple" = some false by decide +kernel)
  | .tuple _ => kit_ty (show kitB "tuple" "tuple" = some true by decide +kernel)
  | .dict _ => kit_ty (show kitB "dict" "tuple" = some false by decide +kernel)
theorem kit_str {K : W.Frag} : ∀ d : PyData, W.kitOne K (.type (tyN d)) (.type "str") = some (isStr d)
  | .none => kit_ty (show kitB "NoneType" "str" = some false by decide +kernel)
  | .bool _ => kit_ty (show kitB "bool" "str" = some false by decide +kernel)
  | .int _ => kit_ty (show kitB "int" "str" = some false by decide +kernel)
  | .str _ => kit_ty (show kitB "str" "str" = some true by decide +kernel)
  | .list _ => kit_ty (show kitB "list" "str" = some false by decide +kernel)
  | .tuple _ => kit_ty (show kitB "tuple" "str" = some false by decide +kernel)
  | .dict _ => kit_ty (show kitB "dict" "str" = some false by decide +kernel)
theorem kit_int {K : W.Frag} : ∀ d : PyData, W.kitOne K (.type (tyN d)) (.type "int") = some (isInt d)
  | .none => kit_ty (show kitB "NoneType" "int" = some false by decide +kernel)
  | .bool _ => kit_ty (show kitB "bool" "int" = some true by decide +kernel)
  | .int _ => kit_ty (show kitB "int" "int" = some true by decide +kernel)
  | .str _ => kit_ty (show kitB "str" "int" = some false by decide +kernel)
  | .list _ => kit_ty (show kitB "list" "int" = some false by decide +kernel)
  | .tuple _ => kit_ty (show kitB "tuple" "int" = some false by decide +kernel)
  | .dict _ => kit_ty (show kitB "dict" "int" = some false by decide +kernel)
/-- isinstance(x, T), x any data -/
def rIs (f : PyData → Bool) (T : String) : List V → Hp → VK → Prop := fun xs H Q => ∃ M v d, xs = [v, .ty T] ∧ Rep M H v d ∧ Q (.bl (f d)) H
theorem call_isTup : CallR X (.builtin "isinstance") (rIs isTup "tuple") := fun pins s σ H xs us Q I r h =>
  let ⟨_, v, d, e, rp, q⟩ := h; call_isi pins s σ H xs us Q I r ⟨v, _, _, _, _, e, .ty _, rp.ty, kit_tup d, q⟩
theorem call_isStr : CallR X (.builtin "isinstance") (rIs isStr "str") := fun pins s σ H xs us Q I r h =>
  let ⟨_, v, d, e, rp, q⟩ := h; call_isi pins s σ H xs us Q I r ⟨v, _, _, _, _, e, .ty _, rp.ty, kit_str d, q⟩
theorem call_isInt : CallR X (.builtin "isinstance") (rIs isInt "int") := fun pins s σ H xs us Q I r h =>
  let ⟨_, v, d, e, rp, q⟩ := h; call_isi pins s σ H xs us Q I r ⟨v, _, _, _, _, e, .ty _, rp.ty, kit_int d, q⟩
/-- a new list that is no module's table -/
def tLstS (t : TA) : TE := fun σ H Q => t σ H fun xs H1 => xs.length ≤ sizeLine ∧ ∀ p, H1 p = none → p ≠ sysModules → Q (.ref p) (upd H1 p (.lst xs))
theorem pe_lstS {es : List Expr} {t : TA} {pos : Pos} (h : PA X es t) : PE X (.List es pos) (tLstS t) := by
  refine ⟨fun pins s σ H Q I hq => wpAny_List_spliced (thn (h.run pos pins s σ H _ I hq) fun us s1 ⟨xs, H1, I1, r, z, q⟩ => ⟨by rw [← r.length]; exact z, ?_⟩)⟩
  have fr := I1.hok.fresh (Nat.le_refl _)
  exact ⟨.ref _, _, I1.laid (o := .lst xs) (t' := s1.toks) (fun _ _ e => Heap.get?_push_of_some _ e) (Nat.le_refl _) ⟨z, us, 0, r, Heap.get?_push_size _ rfl⟩, rfl, q _ fr (Nat.ne_of_gt I1.big)⟩
/-- list(t), t a tuple -/
def rListT : List V → Hp → VK → Prop := fun xs H Q => ∃ a ys, xs = [.ref a] ∧ H a = some (.tup ys) ∧ ∀ l, H l = none → l ≠ sysModules → Q (.ref l) (upd H l (.lst ys))
theorem call_listT : CallR X (.type "list") rListT := by
  intro pins s σ H xs us Q I r h
  obtain ⟨a, ys, rfl, ha, q⟩ := h
  obtain ⟨u, rfl, rx⟩ := vals1 r
  cases rx
  obtain ⟨sz, its, rv, o, ho, hc, n, hd⟩ := (show ObjOk X.prog X.w H s.heap a (.tup ys) from I.hok _ _ ha)
  have many := rv.length
  refine call_list_seq a (.inr rfl) ho hc hd (fun h' c' kp e => ?_) (by simp only [List.size_toArray]; omega)
  exact ⟨.ref _, _, I.laid (t' := s.toks) kp (Nat.le_refl _) (show ObjOk X.prog X.w _ h' _ (.lst ys) from ⟨sz, its, c', rv, e⟩), rfl, q _ (I.hok.fresh (Nat.le_refl _)) (Nat.ne_of_gt I.big)⟩
/-- a ** b of great numbers -/
def CPowW (i j : Int) : Prop := 0 ≤ j ∧ (Builtin.Int.intBits i : Int) * j ≤ 2 ^ 27
theorem op_powW : OpR X (binaryOp .Pow) (rI CPowW fun i j => .int (i ^ j.toNat)) := opI fun _ _ _ _ _ _ _ hc q => pow_int hc.1 hc.2 q
end
end Gd
end

section
set_option maxRecDepth 100000
set_option maxHeartbeats 2000000
/-! A def by its name: what it promises whoever calls it. -/
namespace Gd
open PySem PySem.Spec PyProof.Rows L2
/-- the module's name x holds a def that keeps sp -/
def Callee (P : Program) (w : World) (K : PySem.W.Frag) (mg : Str → Option Value) (base : Heap) (CX : CXT) (k : Nat) (x : Str) (ps : List Str) (sp : Sp) : Prop :=
  ∃ (f : Addr) (fd : FuncData), mg x = some (.ref f) ∧ PySem.W.keepIn K (.ref f) = true ∧ Binds K fd ps [] ∧ FnG P w K mg base CX k f fd ps sp
/-- the module's name x holds the def st of the text -/
def Defd (K : PySem.W.Frag) (mg : Str → Option Value) (x : Str) (st : Stmt) : Prop := ∃ (f : Addr) (fd : FuncData), mg x = some (.ref f) ∧ Fun K x x st f fd
section
variable {P : Program} {w : World} {K : PySem.W.Frag} {mg : Str → Option Value} {base : Heap} {CX : CXT} {j k : Nat} {x : Str} {N ps : List Str} {sp sp' : Sp} {st : Stmt}
theorem Callee.mono (C : Callee P w K mg base CX j x ps sp) (h : j ≤ k) : Callee P w K mg base CX k x ps sp := let ⟨f, fd, a, b, c, F⟩ := C; ⟨f, fd, a, b, c, F.mono h⟩
theorem Callee.imp (C : Callee P w K mg base CX k x ps sp) (h : ∀ vs H Q E, sp' vs H Q E → sp vs H Q E) : Callee P w K mg base CX k x ps sp' := let ⟨f, fd, a, b, c, F⟩ := C; ⟨f, fd, a, b, c, F.imp h⟩
theorem Defd.ok (D : Defd K mg x st) (S : FnScope N ps (defScope st)) (hb : ∀ (kV doc pm : Value) (an : Option Addr) (cdv ct : Value) (us : List Value), us.length = ps.length →
      bindArgs (PySem.W.fnOf x x (defArgs st) (defBody st) (defScope st) .none kV doc pm an cdv ct) ⟨us, []⟩ = pure (ps.zip us)) (len : ∀ vs H Q E, sp vs H Q E → vs.length = ps.length)
    (hbody : ∀ (f : Addr) (cdv : Value) (A : Around) (outer : List Env) (s : Shared) (H : Hp) (vs : List V) (Q : VK) (E : XK), A.guards = some [] → Room k (A.deeper (envOfC x (defScope st) s.heap.objs.size f cdv)) → sp vs H Q E →
      ∃ t, PSs (cxOf CX0 P w K mg base N x (defScope st) f cdv A outer s H E).nox (defBody st) t ∧ t { nx := fun _ H' => Q .non H', rt := Q } (start N vs) H) : Callee P w K mg base CX0 (k + 1) x ps sp :=
  let ⟨f, fd, hm, F⟩ := D
  ⟨f, fd, hm, F.kp, F.binds hb, okG F S len (hbody f)⟩
/-- a def that may raise -/
theorem Defd.okX (D : Defd K mg x st) (S : FnScope N ps (defScope st)) (hb : ∀ (kV doc pm : Value) (an : Option Addr) (cdv ct : Value) (us : List Value), us.length = ps.length →
      bindArgs (PySem.W.fnOf x x (defArgs st) (defBody st) (defScope st) .none kV doc pm an cdv ct) ⟨us, []⟩ = pure (ps.zip us)) (len : ∀ vs H Q E, sp vs H Q E → vs.length = ps.length)
    (hbody : ∀ (f : Addr) (cdv : Value) (A : Around) (outer : List Env) (s : Shared) (H : Hp) (vs : List V) (Q : VK) (E : XK), A.guards = some [] → Room k (A.deeper (envOfC x (defScope st) s.heap.objs.size f cdv)) → sp vs H Q E →
      ∃ t, PSs (cxOf (L2.CX P w) P w K mg base N x (defScope st) f cdv A outer s H E) (defBody st) t ∧ t { nx := fun _ H' => Q .non H', rt := Q } (start N vs) H) : Callee P w K mg base (L2.CX P w) (k + 1) x ps sp :=
  let ⟨f, fd, hm, F⟩ := D
  ⟨f, fd, hm, F.kp, F.binds hb, okGX F S len (hbody f)⟩
end
section
variable {X : Cx} {CX : CXT} {k : Nat} {ps : List Str} {sp : Sp} {E : XK} {x : Str} {p pos : Pos} {e : Expr} {es : List Expr} {t : TA}
/-- f(e, ..) -/
theorem pown (C : Callee X.prog X.w X.K X.mg X.base CX k x ps sp) (hgu : X.A.guards = some []) (hr : Room k X.A) (hg : Gl X x) (hx : Passes CX X E) (ha : PA X (e :: es) t) (hdb : (x == ("__debug__" : Str)) = false := by decide)
    (he : starEach (e :: es) X.env = (false, eval e X.env) :: starEach es X.env := by rfl) (hpl : (backTo pos (starEach es X.env)).any (·.1) = false := by rfl) : PE X (.Call (.Name x p) (e :: es) [] pos) (tCall sp [] E t) :=
  let ⟨_, _, hm, hk, hb, F⟩ := C
  pcall F hgu hr hg hm hk hb .nil hx ha hdb he hpl
end
end Gd
end

section
set_option maxRecDepth 100000
set_option maxHeartbeats 2000000
/-! Comprehensions: the new list, item by item; all(..) over them. -/
namespace Gd
open PySem PySem.Spec PyProof.Rows L2 RZ
theorem next_i {D : Ends} {σ : L2.St} {H : Hp} (h : D.nx σ H) : tNext D σ H := h
theorem ret_i {te : TE} {D : Ends} {σ : L2.St} {H : Hp} (h : te σ H D.rt) : tRet te D σ H := h
section
variable {J : It} {n : Nat} {G : Hp → Prop} {Y : Nat → Hp → V → Hp → Prop} {g : TG} {te : TE} {vs : List Nat} {σ : L2.St} {H1 : Hp} {D : Addr} {Qd : Hp → Prop}
theorem lc_by (w : Walk J n G Y) (hn : n ≤ sizeLine) (Pv : Nat → List V → Hp → Prop) (h0 : Pv 0 [] (upd H1 D (.lst []))) (hG : ∀ i acc H, i ≤ n → Pv i acc H → G H) (hl : ∀ i acc H, Pv i acc H → acc.length = i ∧ H D = some (.lst acc))
    (hs : ∀ i acc x H H', i < n → Pv i acc H → Y i H x H' → ∀ Kt : V → Hp → Prop, (∀ y H4, H4 D = some (.lst acc) → Pv (i + 1) (acc ++ [y]) (upd H4 D (.lst (acc ++ [y]))) → Kt y H4) → g x (wipe σ vs) H' fun σ2 H2 => wipe σ2 vs = wipe σ vs ∧ te σ2 H2 Kt)
    (hd : ∀ acc H, Pv n acc H → Qd H) :
    ∃ W : Nat → Nat → Hp → Prop, (∃ m, W 0 m (upd H1 D (.lst []))) ∧ ∀ i m H, W i m H →
      (J.stop i H ∧ Qd H) ∨ (J.go i H ∧ ∃ Nx : Hp → Prop, (∀ H', Nx H' → ∃ m', m' < m ∧ W (i + 1) m' H') ∧ ∀ x H', J.yld i H x H' → g x (wipe σ vs) H' fun σ2 H2 => wipe σ2 vs = wipe σ vs ∧ tYes σ2 H2 fun b H3 =>
        if b = true then te σ2 H3 fun y H4 => ∃ acc, H4 D = some (.lst acc) ∧ acc.length < sizeLine ∧ Nx (upd H4 D (.lst (acc ++ [y]))) else Nx H3) := by
  refine lc_it w (fun i H => ∃ acc, Pv i acc H) ⟨[], h0⟩ (fun i H hi ⟨acc, p⟩ => hG i acc H hi p) (fun i x H H' hi ⟨acc, p⟩ y => ?_) fun H ⟨acc, p⟩ => hd acc H p
  exact hs i acc x H H' hi p y (fun y H4 => ∃ acc, H4 D = some (.lst acc) ∧ acc.length < sizeLine ∧ ∃ acc', Pv (i + 1) acc' (upd H4 D (.lst (acc ++ [y])))) fun y H4 e q => ⟨acc, e, by rw [(hl i acc H p).1]; omega, _, q⟩
/-- items that are booleans, found without a change -/
theorem lc_bools (w : Walk J n G Y) (hn : n ≤ sizeLine) (hD : H1 D = none) (b : Nat → Bool) (hG : ∀ H, Kp [] H1 H → G H)
    (hs : ∀ i x H H', i < n → Kp [] H1 H → Y i H x H' → ∀ Kt : V → Hp → Prop, (∀ H4, Kp [] H H4 → Kt (.bl (b i)) H4) → g x (wipe σ vs) H' fun σ2 H2 => wipe σ2 vs = wipe σ vs ∧ te σ2 H2 Kt)
    (hd : ∀ H, Kp [] H1 H → H D = some (.lst ((List.range n).map fun i => V.bl (b i))) → Qd H) :
    ∃ W : Nat → Nat → Hp → Prop, (∃ m, W 0 m (upd H1 D (.lst []))) ∧ ∀ i m H, W i m H →
      (J.stop i H ∧ Qd H) ∨ (J.go i H ∧ ∃ Nx : Hp → Prop, (∀ H', Nx H' → ∃ m', m' < m ∧ W (i + 1) m' H') ∧ ∀ x H', J.yld i H x H' → g x (wipe σ vs) H' fun σ2 H2 => wipe σ2 vs = wipe σ vs ∧ tYes σ2 H2 fun b H3 =>
        if b = true then te σ2 H3 fun y H4 => ∃ acc, H4 D = some (.lst acc) ∧ acc.length < sizeLine ∧ Nx (upd H4 D (.lst (acc ++ [y]))) else Nx H3) := by
  refine lc_by w hn (fun i acc H => Kp [] H1 H ∧ acc = (List.range i).map (fun i => V.bl (b i)) ∧ H D = some (.lst acc)) ⟨Kp.new hD, rfl, upd_same⟩ (fun i acc H _ p => hG H p.1) (fun i acc H p => ⟨by rw [p.2.1]; simp, p.2.2⟩) (fun i acc x H H' hi p y Kt q => ?_) fun acc H p => hd H p.1 (p.2.1 ▸ p.2.2)
  obtain ⟨k, e, ed⟩ := p
  refine hs i x H H' hi k y Kt fun H4 k4 => ?_
  have e4 := k4 D _ List.not_mem_nil ed
  refine q _ H4 e4 ⟨fun c o nc ec => ?_, by rw [e, List.range_succ, List.map_append]; rfl, upd_same⟩
  rw [upd_ne (ne_of_none ec hD)]
  exact k4 c o nc (k c o nc ec)
end
section
variable {J : It} {n : Nat} {G : Hp → Prop} {Y : Nat → Hp → V → Hp → Prop} {g : TG} {te : TE} {vs : List Nat} {σ : L2.St} {H1 : Hp} {D : Addr} {Qd : Hp → Prop}
/-- items of a kind, found without a change -/
theorem lc_pure (w : Walk J n G Y) (hn : n ≤ sizeLine) (hD : H1 D = none) (R : V → Prop) (hG : ∀ H, Kp [] H1 H → G H)
    (hs : ∀ i x H H', i < n → Kp [] H1 H → Y i H x H' → ∀ Kt : V → Hp → Prop, (∀ y H4, Kp [] H H4 → R y → Kt y H4) → g x (wipe σ vs) H' fun σ2 H2 => wipe σ2 vs = wipe σ vs ∧ te σ2 H2 Kt)
    (hd : ∀ acc H, Kp [] H1 H → H D = some (.lst acc) → acc.length = n → (∀ y ∈ acc, R y) → Qd H) :
    ∃ W : Nat → Nat → Hp → Prop, (∃ m, W 0 m (upd H1 D (.lst []))) ∧ ∀ i m H, W i m H →
      (J.stop i H ∧ Qd H) ∨ (J.go i H ∧ ∃ Nx : Hp → Prop, (∀ H', Nx H' → ∃ m', m' < m ∧ W (i + 1) m' H') ∧ ∀ x H', J.yld i H x H' → g x (wipe σ vs) H' fun σ2 H2 => wipe σ2 vs = wipe σ vs ∧ tYes σ2 H2 fun b H3 =>
        if b = true then te σ2 H3 fun y H4 => ∃ acc, H4 D = some (.lst acc) ∧ acc.length < sizeLine ∧ Nx (upd H4 D (.lst (acc ++ [y]))) else Nx H3) := by
  refine lc_by w hn (fun i acc H => Kp [] H1 H ∧ H D = some (.lst acc) ∧ acc.length = i ∧ ∀ y ∈ acc, R y) ⟨Kp.new hD, upd_same, rfl, nofun⟩ (fun i acc H _ p => hG H p.1) (fun i acc H p => ⟨p.2.2.1, p.2.1⟩) (fun i acc x H H' hi p y Kt q => ?_) fun acc H p => hd acc H p.1 p.2.1 p.2.2.1 p.2.2.2
  obtain ⟨k, ed, el, hr⟩ := p
  refine hs i x H H' hi k y Kt fun y H4 k4 ry => ?_
  have e4 := k4 D _ List.not_mem_nil ed
  refine q _ H4 e4 ⟨fun c o nc ec => ?_, upd_same, by simp [el], fun z hz => ?_⟩
  · rw [upd_ne (ne_of_none ec hD)]
    exact k4 c o nc (k c o nc ec)
  · rcases List.mem_append.mp hz with hz | hz
    · exact hr z hz
    · rw [List.mem_singleton.mp hz]; exact ry
end
theorem all_range {α : Type} (ds : List α) (f : α → Bool) (b : Nat → Bool) (h : ∀ i d, ds[i]? = some d → b i = f d) : ((List.range ds.length).map b).all id = ds.all f := by
  induction ds generalizing b with
  | nil => rfl
  | cons d r ih =>
    rw [List.length_cons, List.range_succ_eq_map, List.map_cons, List.all_cons, List.map_map, List.all_cons]
    rw [ih (b ∘ Nat.succ) fun i e q => h (i + 1) e (by simpa using q), show id (b 0) = f d from h 0 d rfl]
theorem map_bl (n : Nat) (b : Nat → Bool) : ((List.range n).map fun i => V.bl (b i)) = ((List.range n).map b).map V.bl := by rw [List.map_map]; rfl
section
variable {K : PySem.W.Frag} {te0 te : TE} {g : TG} {vs : List Nat} {σ : L2.St} {H : Hp} {Q : VK}
/-- all([.. for x in t]) -/
theorem all_tup {a : Addr} {xs : List V} (b : Nat → Bool) (h0 : ∀ R : V → Hp → Prop, R (.ref a) H → te0 σ H R) (ha : H a = some (.tup xs)) (hn : xs.length ≤ sizeLine)
    (hs : ∀ (m : Nat) x H', xs[m]? = some x → Kp [] H H' → ∀ Kt : V → Hp → Prop, (∀ H3, Kp [] H' H3 → Kt (.bl (b m)) H3) → g x (wipe σ vs) H' fun σ2 H2 => wipe σ2 vs = wipe σ vs ∧ te σ2 H2 Kt)
    (q : ∀ H', Kp [] H H' → Q (.bl (((List.range xs.length).map b).all id)) H') : tCB (rAll K) (tCons (tLc (iTup K te0) g tYes te vs) tNil) σ H Q := by
  refine h0 _ ⟨a, rfl, ⟨xs, .inl (.inl ha)⟩, fun D hD => ?_⟩
  refine lc_bools (walk_tup (K := K) (a := a) (xs := xs)) hn hD b (fun H' k => .inl (.inl (k a _ List.not_mem_nil ha))) (fun i x H' H2 hi k y Kt q => ?_) fun H' k e => ?_
  · obtain ⟨rfl, ex⟩ := y
    exact hs i x _ ex k Kt q
  · exact ⟨D, _, rfl, .inl (.inl (map_bl _ _ ▸ e)), q H' k⟩
/-- all([.. for c in text]) -/
theorem all_str {z : Str} (b : Nat → Bool) (h0 : ∀ R : V → Hp → Prop, R (.str z) H → te0 σ H R) (hn : z.cps.size ≤ sizeLine)
    (hs : ∀ (m : Nat) c H', z.cps[m]? = some c → Kp [] H H' → ∀ Kt : V → Hp → Prop, (∀ H3, Kp [] H' H3 → Kt (.bl (b m)) H3) → g (.str ⟨#[c]⟩) (wipe σ vs) H' fun σ2 H2 => wipe σ2 vs = wipe σ vs ∧ te σ2 H2 Kt)
    (q : ∀ H', Kp [] H H' → Q (.bl (((List.range z.cps.size).map b).all id)) H') : tCB (rAll K) (tCons (tLc (iStr te0) g tYes te vs) tNil) σ H Q := by
  refine h0 _ ⟨z, rfl, fun D hD => ?_⟩
  refine lc_bools (walk_str (z := z)) hn hD b (fun _ _ => trivial) (fun i x H' H2 hi k y Kt q => ?_) fun H' k e => ?_
  · obtain ⟨rfl, c, ec, rfl⟩ := y
    exact hs i c _ ec k Kt q
  · exact ⟨D, _, rfl, .inl (.inl (map_bl _ _ ▸ e)), q H' k⟩
theorem walk_zipT {a b : Addr} {xs ys : List V} {n : Nat} (hn : n = min xs.length ys.length) : Walk (ItzT K a b) n (fun H => SqT K H a xs ∧ SqT K H b ys) (YPair (fun i => xs[i]?) (fun i => ys[i]?)) := by
  subst hn
  refine ⟨fun i _ hi q => ?_, fun _ q => ⟨xs, ys, q.1, q.2, by omega⟩, fun i H v H' _ q y => ?_⟩
  · have h1 : i < xs.length := by omega
    have h2 : i < ys.length := by omega
    exact ⟨xs, ys, xs[i], ys[i], q.1, q.2, by simp [h1], by simp [h2]⟩
  · obtain ⟨T, x, z, h1, h2, h3, h4, h5⟩ := y
    exact ⟨T, x, z, h1, h2, h3, h4 xs q.1, h5 ys q.2⟩
/-- all([.. for x, y in zip(t, u)]) -/
theorem all_zip {ta : TA} {a : Addr} {xs ys : List V} (b : Nat → Bool) (h0 : ∀ R : List V → Hp → Prop, (∀ a2 H1, Kp [] H H1 → H1 a = some (.tup xs) → H1 a2 = some (.tup ys) → R [.ref a, .ref a2] H1) → ta σ H R) (hn : xs.length ≤ sizeLine)
    (hs : ∀ (m : Nat) x y T H', xs[m]? = some x → ys[m]? = some y → Kp [] H H' → H' T = some (.tup [x, y]) → ∀ Kt : V → Hp → Prop, (∀ H3, Kp [] H' H3 → Kt (.bl (b m)) H3) → g (.ref T) (wipe σ vs) H' fun σ2 H2 => wipe σ2 vs = wipe σ vs ∧ te σ2 H2 Kt)
    (q : ∀ H', Kp [] H H' → Q (.bl (((List.range (min xs.length ys.length)).map b).all id)) H') : tCB (rAll K) (tCons (tLc (iZipA K ta) g tYes te vs) tNil) σ H Q := by
  refine h0 _ fun a2 H1 k1 ha hb => ⟨a, a2, xs, ys, rfl, .inr ⟨.inl (.inl ha), .inl (.inl hb), fun D hD => ?_⟩⟩
  refine lc_bools (walk_zipT (K := K) (a := a) (b := a2) (xs := xs) (ys := ys) rfl) (by omega) hD b (fun H' k => ⟨.inl (.inl (k a _ List.not_mem_nil ha)), .inl (.inl (k a2 _ List.not_mem_nil hb))⟩) (fun i x H' H2 hi k y Kt q => ?_) fun H' k e => ?_
  · obtain ⟨T, x, y, rfl, nT, rfl, ex, ey⟩ := y
    exact hs i x y T _ ex ey ((k1.trans k).trans (Kp.new nT)) upd_same Kt fun H3 k3 => q H3 ((Kp.new nT).trans k3)
  · exact ⟨D, _, rfl, .inl (.inl (map_bl _ _ ▸ e)), q H' (k1.trans k)⟩
theorem cut1 (xs : List V) : cutV xs (some 1) none = xs.drop 1 := by
  unfold cutV
  rw [show HT.sIx xs.length 0 (some 1) = min 1 xs.length from HT.sIx_nat _ _ 1, HT.sIx_none]
  cases xs with
  | nil => rfl
  | cons x r =>
    rw [show min 1 (x :: r).length = 1 by rw [List.length_cons]; omega]
    exact List.take_of_length_le (by simp)
end
end Gd
end

section
set_option maxRecDepth 100000
set_option maxHeartbeats 2000000
/-! How large data are: small data can be shown. -/
namespace Gd
open PySem PySem.Spec PyProof.Rows L2
mutual
/-- more than the signs that it is written with, a twelfth -/
def wt : PyData → Nat
  | .none | .bool _ => 1
  | .int _ => 40
  | .str x => x.length + 1
  | .list xs | .tuple xs => wts xs + 1
  | .dict kvs => 1
def wts : List PyData → Nat
  | [] => 0
  | x :: xs => wt x + 1 + wts xs
end
mutual
/-- whole numbers up to B, plain texts, no dict but the empty one -/
def good (B : Nat) : PyData → Prop
  | .none | .bool _ => True
  | .int i => i.natAbs ≤ B
  | .str x => ∀ c ∈ x.cps.toList, c < 128
  | .list xs | .tuple xs => goods B xs
  | .dict kvs => kvs = []
def goods (B : Nat) : List PyData → Prop
  | [] => True
  | x :: xs => good B x ∧ goods B xs
end
mutual
theorem good.mono {B C : Nat} (l : B ≤ C) : ∀ {d : PyData}, good B d → good C d
  | .none, _ | .bool _, _ => trivial
  | .int _, h => Nat.le_trans h l
  | .str _, h => h
  | .list _, h | .tuple _, h => goods.mono l h
  | .dict _, h => h
theorem goods.mono {B C : Nat} (l : B ≤ C) : ∀ {ds : List PyData}, goods B ds → goods C ds
  | [], _ => trivial
  | _ :: _, h => ⟨good.mono l h.1, goods.mono l h.2⟩
end
theorem log2_small {i : Int} {B : Nat} (hB : B < 2 ^ 400) (h : i.natAbs ≤ B) : i.natAbs.log2 < 400 := by
  by_cases e : i.natAbs = 0
  · rw [e]; decide
  · exact (Nat.log2_lt e).mpr (Nat.lt_of_le_of_lt h hB)
section
variable {B : Nat} (hB : B < 2 ^ 400)
include hB
mutual
theorem good.showable : ∀ {d : PyData}, good B d → d.showable = true
  | .none, _ | .bool _, _ | .str _, _ => by simp only [PyData.showable]
  | .int i, h => by
    simp only [PyData.showable, decide_eq_true_eq]
    have := log2_small hB h
    omega
  | .list xs, h | .tuple xs, h => by simp only [PyData.showable]; exact goods.showable h
  | .dict kvs, h => by
    have h : kvs = [] := h
    subst h
    simp only [PyData.showable, PyData.showableKv]
theorem goods.showable : ∀ {ds : List PyData}, goods B ds → PyData.showableAll ds = true
  | [], _ => by simp only [PyData.showableAll]
  | d :: r, h => by simp only [PyData.showableAll, good.showable h.1, goods.showable h.2, Bool.and_self]
end
end
theorem from_le : ∀ (ts : List Str) (k : Nat) (acc : Str), (textFrom k acc ts).length ≤ acc.length + piled ts
  | [], _, acc => Nat.le_add_right _ _
  | t :: r, k, acc => by
    have ih := from_le r (k + 1) (acc ++ (if k > 0 then ", " else "" : String) ++ t)
    have e : (acc ++ (if k > 0 then ", " else "" : String) ++ t).length ≤ acc.length + 2 + t.length := by
      rw [strLen_append, strLen_append]
      split
      · exact Nat.le_refl _
      · exact Nat.add_le_add_right (Nat.le_add_right _ 2) _
    rw [piled_cons]
    show (textFrom (k + 1) _ r).length ≤ _
    omega
theorem list_le (ts : List Str) : (listText ts).length ≤ piled ts + 2 := by
  have := from_le ts 0 "["
  have e1 : (("[" : String) : Str).length = 1 := rfl
  have e2 : (("]" : String) : Str).length = 1 := rfl
  unfold listText
  rw [strLen_append]
  omega
section
variable {B : Nat} (hB : B < 2 ^ 400)
include hB
mutual
theorem shown_le : ∀ {d : PyData}, good B d → d.shown.length ≤ 12 * wt d
  | .none, _ => by simp only [PyData.shown, wt]; decide
  | .bool b, _ => by simp only [PyData.shown, wt]; cases b <;> decide
  | .int i, h => by
    simp only [PyData.shown, wt]
    have := PySem.int_text_length_le (a := i) (k := 400) (by decide) (log2_small hB h)
    have e : (Str.ofString (toString i)).length = (toString i).length := PySem.ofString_length _
    omega
  | .str x, h => by
    simp only [PyData.shown, wt]
    have := StrLaws.reprText_len x fun c hc => Nat.lt_trans (h c hc) (by decide)
    omega
  | .list xs, h => by
    simp only [PyData.shown, wt]
    have := showns_le h
    have e := list_le (PyData.shownAll xs)
    omega
  | .tuple xs, h => by
    simp only [PyData.shown, wt]
    have := showns_le h
    have e := PySem.fmt_text (PyData.shownAll xs)
    omega
  | .dict kvs, h => by
    have h : kvs = [] := h
    subst h
    simp only [PyData.shown, PyData.shownKv, wt]
    decide +kernel
theorem showns_le : ∀ {ds : List PyData}, goods B ds → piled (PyData.shownAll ds) ≤ 12 * wts ds
  | [], _ => by simp only [PyData.shownAll, wts]; decide
  | d :: r, h => by
    simp only [PyData.shownAll, wts, piled_cons]
    have h1 := shown_le h.1
    have h2 := showns_le h.2
    omega
end
end
end Gd
end

section
set_option maxRecDepth 100000
set_option maxHeartbeats 2000000
/-! Tuples backwards, numbers that may be booleans, == with the empty tuple, plain texts in capitals. -/
namespace HT
open PySem PySem.Spec PyProof.Rows
variable {prog : Program} {w : World} {A : Around} {E : Value → Shared → Prop} {s : Shared}
theorem gd_congr {α β : Type} {f g : α → Option β} : ∀ l : List α, (∀ x ∈ l, f x = g x) → l.filterMap f = l.filterMap g
  | [], _ => rfl
  | x :: r, h => by
    rw [List.filterMap_cons, List.filterMap_cons, h x List.mem_cons_self, gd_congr r fun y hy => h y (List.mem_cons_of_mem _ hy)]
theorem gd_pick (xs : Array Value) : ((List.range xs.size).filterMap fun (m : Nat) => xs[(((xs.size : Int) - 1) + (m : Int) * (-1)).toNat]?) = xs.toList.reverse := by
  have e := pick_run xs.reverse 0 xs.size
  rw [show ((0 + ·) : Nat → Nat) = id from funext fun k => Nat.zero_add k, List.map_id, List.drop_zero, Array.toList_reverse, List.take_of_length_le (by simp)] at e
  rw [← e]
  refine gd_congr _ fun m hm => ?_
  have hm := List.mem_range.mp hm
  rw [Array.getElem?_reverse hm]
  congr 1
  omega
theorem gd_applied {sl : Addr} {vl vu vs : Value} {n : Nat} {Q : Int × Int × Nat → Shared → Prop} (hs : s.heap.IsSliceOf sl vl vu vs) (pl : IsPart vl none) (pu : IsPart vu none) (ps : IsPart vs (some (-1)))
    (h : Q ((n : Int) - 1, -1, n) s) : wpAny (model prog w) A (Builtin.Slice.sliceApplied (.ref sl) (pure (n : Int))) Q E s := by
  obtain ⟨os, hos, hcs, hds⟩ := id hs
  unfold Builtin.Slice.sliceApplied Builtin.Slice.sliceFields
  refine wpAny_bind (wpAny_bind (wpAny_field hos hds (x := vl) rfl (wpAny_bind (wpAny_field hos hds (x := vu) rfl (wpAny_bind (wpAny_field hos hds (x := vs) rfl (wpAny_pure ?_)))))))
  refine wpAny_bind (slicePart_ ps ?_)
  show wpAny _ _ (if ((-1 : Int) == 0) = true then _ else _) _ _ s
  rw [if_neg (by decide)]
  refine wpAny_bind (slicePart_ pl (wpAny_bind (slicePart_ pu (wpAny_bind (wpAny_pure ?_)))))
  have e1 : Builtin.Slice.sliceAdjust none none (-1) (n : Int) = ((n : Int) - 1, -1) := by
    first | rfl | (unfold Builtin.Slice.sliceAdjust; simp)
  have e2 : Builtin.Slice.slicePlaces ((n : Int) - 1) (-1) (-1) = n := by
    unfold Builtin.Slice.slicePlaces
    simp
    omega
  show wpAny _ _ (match Builtin.Slice.sliceAdjust none none (-1) (n : Int) with | (lo, hi) => pure (lo, (-1 : Int), Builtin.Slice.slicePlaces lo hi (-1))) _ _ s
  rw [e1]
  show wpAny _ _ (pure ((n : Int) - 1, (-1 : Int), Builtin.Slice.slicePlaces ((n : Int) - 1) (-1) (-1))) _ _ s
  rw [e2]
  exact wpAny_pure h
theorem gd_getItem_rev {t sl : Addr} {items : Array Value} {vl vu vs : Value} {Q : Value → Shared → Prop} (ht : IsTup s.heap t items) (hs : s.heap.IsSliceOf sl vl vu vs) (pl : IsPart vl none) (pu : IsPart vu none) (ps : IsPart vs (some (-1)))
    (h : Q (.ref s.heap.objs.size) { s with heap := s.heap.push { cls := .type "tuple", data := .seq items.toList.reverse.toArray } }) (hsz : items.size ≤ sizeLine) : wpAny (model prog w) A (getItem (.ref t) (.ref sl)) Q E s := by
  have fits : sizeOk (.seq items.toList.reverse.toArray) := by show items.toList.reverse.toArray.size ≤ sizeLine; simpa using hsz
  have hTs : s.TypeIs (.ref sl) "slice" := let ⟨os, a, b, _⟩ := hs; ⟨os, a, b⟩
  unfold getItem
  try with_reducible refine wpAny_holding ?_
  first | refine wpAny_bind (wpAny_pure ?_) | skip
  refine wpAny_bind (wpAny_sequenceKey ht.typeIs (by decide) ?_)
  refine wpAny_bind (wpAny_callSpecial?_slot (name := Str.ofString "__getitem__") ht.typeIs PyProof.Rows.slot_tuple_getitem (wpAny_call_entry PyProof.Rows.slot_tuple_getitem ht.typeIs entry_tuple_getitem ?_ (args_tuple_getitem _ _)))
  show wpAny _ _ (Builtin.Tuple.tupleItemsOf (.ref t) >>= _) _ _ s
  refine wpAny_bind (tupleItemsOf_ ht (wpAny_bind (wpAny_typeOf hTs ?_)))
  rw [if_pos (by decide)]
  refine wpAny_bind (gd_applied hs pl pu ps ?_)
  have no : ¬ (((((items.size : Int) - 1) == 0) && ((-1 : Int) == 1) && (items.size == items.size)) = true) := by simp
  show wpAny _ _ (if ((((items.size : Int) - 1) == 0) && ((-1 : Int) == 1) && (items.size == items.size)) = true then _ else _) _ _ s
  rw [if_neg no, gd_pick]
  first
    | exact wpAny_bind (m := Builtin.Tuple.tupleExact _) (wpAny_newObj_type (wpAny_pure ⟨_, rfl, wpAny_pure h⟩) fits)
    | exact wpAny_bind (wpAny_bind (m := Builtin.Tuple.tupleExact _) (wpAny_newObj_type (wpAny_pure (wpAny_pure ⟨_, rfl, wpAny_pure h⟩)) fits))
    | exact wpAny_bind (wpAny_bind (m := Builtin.Tuple.tupleExact _) (wpAny_newObj_type (wpAny_pure ⟨_, rfl, wpAny_pure h⟩) fits))
    | exact wpAny_bind (m := Builtin.Tuple.tupleExact _) (wpAny_newObj_type (wpAny_bind (wpAny_pure (wpAny_pure ⟨_, rfl, wpAny_pure h⟩))) fits)
end HT
namespace Gd
open PySem PySem.Spec PyProof.Rows L2
/-- t[::-1] -/
def tRevT (te : TE) : TE := fun σ H Q => te σ H fun x H1 => ∃ a xs, x = .ref a ∧ H1 a = some (.tup xs) ∧ ∀ p, H1 p = none → Q (.ref p) (upd H1 p (.tup xs.reverse))
theorem pe_revT {X : Cx} {e : Expr} {te : TE} {k : Nat} {p1 p2 p3 pos : Pos} (he : PE X e te) : PE X (.Subscript e (.Slice none none (some (.UnaryOp .USub (.Constant (.int 1) k p1) p2)) p3) pos) (tRevT te) := by
  refine ⟨fun pins s σ H Q I h => Subscript_ (thn (he.run pins s σ H _ I h) fun v s1 ⟨x, H1, I1, r1, a, xs, ex, hx, q⟩ => ?_)⟩
  subst ex
  cases r1
  have one : PO X (some (.UnaryOp .USub (.Constant (.int 1) k p1) p2)) (tPart (tUn (rU fun i => .int (-i)) (tC (.int 1)))) := po_some (pe_un un_neg pe_int)
  refine wpAny_Slice (thn (po_none.run pins s1 σ H1 (fun o G => o = none ∧ G = H1) I1 ⟨rfl, rfl⟩) fun vl s2 ⟨_, _, I2, pl, e1, e2⟩ => ?_)
  subst e1 e2
  refine thn (po_none.run pins s2 σ _ (fun o G => o = none ∧ G = _) I2 ⟨rfl, rfl⟩) fun vu s3 ⟨_, _, I3, pu, e3, e4⟩ => ?_
  subst e3 e4
  refine thn (one.run pins s3 σ _ (fun o G => o = some (-1) ∧ G = _) I3 ⟨1, rfl, -1, rfl, rfl, rfl⟩) fun vs s4 ⟨_, G, I4, ps, e5, e6⟩ => ?_
  subst e5 e6
  have I5 := I4.kept (h' := s4.heap.push { cls := .type "slice", data := .fields #[vl, vu, vs] }) (t' := s4.toks) fun b ob q => Heap.get?_push_of_some _ q
  obtain ⟨sz, its, rv, ht⟩ := (show ObjOk X.prog X.w _ _ a (.tup xs) from I5.hok _ _ hx)
  have many := rv.length
  show wpAny (model X.prog X.w) X.A (subscriptTail e (.Slice none none (some (.UnaryOp .USub (.Constant (.int 1) k p1) p2)) p3) (.ref a) (.ref s4.heap.objs.size)) (EP X pins σ Q) X.xe { s4 with heap := s4.heap.push { cls := .type "slice", data := .fields #[vl, vu, vs] } }
  refine tail_any (ops := [.ref a, .ref s4.heap.objs.size]) ht.typeIs (PyProof.Rows.slot_tuple_getitem.lookup) ?_ (by with_unfolding_all rfl)
  refine HT.gd_getItem_rev ht (Heap.IsSliceOf.new _ vl vu vs) pl pu ps ?_ (by rw [List.size_toArray]; omega)
  exact ⟨.ref _, _, I5.laid (t' := s4.toks) (o := .tup xs.reverse) (fun b ob q => Heap.get?_push_of_some _ q) (Nat.le_refl _) ⟨by rw [List.length_reverse]; exact sz, _, rv.reverse, IsTup.new _ _⟩, rfl, q _ (I5.hok.fresh (Nat.le_refl _))⟩
section
variable {X : Cx} {k : Nat}
/-- an int, or a boolean that counts as one -/
def NumV (x : V) (i : Int) : Prop := x = .int i ∨ ∃ b : Bool, x = .bl b ∧ i = if b = true then 1 else 0
def rNum (g : Int → Int → V) : R2 := fun x y H Q => ∃ i j, NumV x i ∧ y = .int j ∧ Q (g i j) H
theorem op_addN : OpR X (binaryOp .Add) (rNum fun i j => .int (i + j)) := by
  intro pins s σ H x y v u Q I rx ry h
  obtain ⟨i, j, rfl | ⟨b, rfl, rfl⟩, rfl, q⟩ := h
  · obtain ⟨t, rfl⟩ := rx
    obtain ⟨t2, rfl⟩ := ry
    exact add_int ⟨.int _, H, I.tok _, ⟨_, rfl⟩, q⟩
  · cases rx
    obtain ⟨t2, rfl⟩ := ry
    exact PySem.IntBool.add_bool_int ⟨.int _, H, I.tok _, ⟨_, rfl⟩, q⟩
theorem op_subN : OpR X (binaryOp .Sub) (rNum fun i j => .int (i - j)) := by
  intro pins s σ H x y v u Q I rx ry h
  obtain ⟨i, j, rfl | ⟨b, rfl, rfl⟩, rfl, q⟩ := h
  · obtain ⟨t, rfl⟩ := rx
    obtain ⟨t2, rfl⟩ := ry
    exact sub_int ⟨.int _, H, I.tok _, ⟨_, rfl⟩, q⟩
  · cases rx
    obtain ⟨t2, rfl⟩ := ry
    exact PySem.IntBool.sub_bool_int ⟨.int _, H, I.tok _, ⟨_, rfl⟩, q⟩
/-- .. == a number -/
theorem op_eqN : OpR X (compareOp .Eq) (rNum fun i j => .bl (i == j)) := by
  intro pins s σ H x y v u Q I rx ry h
  obtain ⟨i, j, rfl | ⟨b, rfl, rfl⟩, rfl, q⟩ := h
  · obtain ⟨t, rfl⟩ := rx
    obtain ⟨t2, rfl⟩ := ry
    exact PySem.EqBoolInt.of_rc (SeqAt.RcAt.int_int i t j t2) ⟨.bl _, H, I, rfl, q⟩
  · cases rx
    obtain ⟨t2, rfl⟩ := ry
    exact PySem.EqBoolInt.of_rc (SeqAt.RcAt.bool_int b j t2) ⟨.bl _, H, I, rfl, q⟩
def rNegN : V → Hp → VK → Prop := fun x H Q => ∃ i, NumV x i ∧ Q (.int (-i)) H
theorem un_negN : UnR X (unaryOp .USub) rNegN := by
  intro pins s σ H x v Q I rx h
  obtain ⟨i, rfl | ⟨b, rfl, rfl⟩, q⟩ := h
  · obtain ⟨t, rfl⟩ := rx
    exact neg_int ⟨.int _, H, I.tok _, ⟨_, rfl⟩, q⟩
  · cases rx
    unfold unaryOp
    refine wpAny_holding (wpAny_bind (m := callSpecial? (.bool b) (Str.ofString "__neg__")) (wpAny_callSpecial?_slot (name := Str.ofString "__neg__") rfl F.slot_bool_neg (wpAny_call_entry F.slot_bool_neg rfl entry_int_neg ?_ (args_int_neg _))))
    cases b
    · show wpAny _ _ (do ret (← mkInt (-0))) _ _ s
      exact wpAny_ret_mkInt (wpAny_pure ⟨.int _, H, I.tok _, ⟨_, rfl⟩, q⟩)
    · show wpAny _ _ (do ret (← mkInt (-1))) _ _ s
      exact wpAny_ret_mkInt (wpAny_pure ⟨.int _, H, I.tok _, ⟨_, rfl⟩, q⟩)
/-- str(number or boolean) -/
def rStrN : List V → Hp → VK → Prop := fun xs H Q => (∃ i : Int, xs = [.int i] ∧ i.natAbs.log2 < 1920 ∧ Q (.str (toString i)) H) ∨ ∃ b : Bool, xs = [.bl b] ∧ Q (.str (if b then "True" else "False")) H
theorem call_strN : CallR X (.type "str") rStrN := by
  intro pins s σ H xs us Q I r h
  obtain ⟨i, rfl, z, q⟩ | ⟨b, rfl, q⟩ := h
  · obtain ⟨u, rfl, t, rfl⟩ := vals1 r
    exact PySem.P.str_of_int z ⟨.str _, H, I.tok _, ⟨_, rfl⟩, q⟩
  · obtain ⟨u, rfl, e⟩ := vals1 r
    cases e
    exact PySem.P.str_of_bool ⟨.str _, H, I.tok _, ⟨_, rfl⟩, q⟩
/-- t == () -/
theorem op_eqE (hr : Room k X.A) : OpR X (compareOp .Eq) (fun x y H Q => ∃ a b xs, x = .ref a ∧ y = .ref b ∧ H a = some (.tup xs) ∧ H b = some (.tup []) ∧ Q (.bl xs.isEmpty) H) := by
  intro pins s σ H x y v u Q I rx ry h
  obtain ⟨a, b, xs, rfl, rfl, ha, hb, q⟩ := h
  cases rx
  cases ry
  obtain ⟨_, its, rv, ht⟩ := (show ObjOk X.prog X.w H s.heap a (.tup xs) from I.hok _ _ ha)
  obtain ⟨_, its2, rv2, ht2⟩ := (show ObjOk X.prog X.w H s.heap b (.tup []) from I.hok _ _ hb)
  cases rv2
  refine SeqAt.eq_tupleAt (e := fun _ => true) ht ht2 hr.units0 (fun j _ h2 => absurd h2 (by simp)) ⟨.bl _, H, I, rfl, ?_⟩
  have e : ((List.range (min its.toArray.size (#[] : Array Value).size)).all (fun _ => true) && its.toArray.size == (#[] : Array Value).size) = xs.isEmpty := by
    cases rv <;> simp
  exact e ▸ q
end
theorem upper_of : ∀ c, c < 128 → ∃ x, Unicode.upperOf c = [x] ∧ x < 128 := by
  have h : (List.range 128).all (fun c => match Unicode.upperOf c with | [x] => decide (x < 128) | _ => false) = true := by decide +kernel
  intro c hc
  have := List.all_eq_true.mp h c (List.mem_range.mpr hc)
  split at this
  · rename_i x e
    exact ⟨x, e, of_decide_eq_true this⟩
  · cases this
theorem plain_list : ∀ l : List Nat, (∀ c ∈ l, c < 128) → (l.flatMap Unicode.upperOf).length = l.length ∧ ∀ c ∈ l.flatMap Unicode.upperOf, c < 128
  | [], _ => ⟨rfl, nofun⟩
  | c :: r, h => by
    obtain ⟨x, e, hx⟩ := upper_of c (h c List.mem_cons_self)
    obtain ⟨l1, l2⟩ := plain_list r fun y hy => h y (List.mem_cons_of_mem _ hy)
    rw [List.flatMap_cons, e]
    refine ⟨by simp [l1], fun y hy => ?_⟩
    rcases List.mem_append.mp hy with hy | hy
    · rw [List.mem_singleton.mp hy]; exact hx
    · exact l2 y hy
theorem upper_list (z : Str) : (Txt.upper z).cps.toList = z.cps.toList.flatMap Unicode.upperOf := by
  show ((z.cps.mapIdx fun _ c => (Unicode.upperOf c).toArray).flatten).toList = _
  rw [Array.toList_flatten, Array.toList_mapIdx]
  have e : List.mapIdx (fun _ c => (Unicode.upperOf c).toArray) z.cps.toList = z.cps.toList.map fun c => (Unicode.upperOf c).toArray := by
    apply List.ext_getElem?
    intro i
    simp [List.getElem?_mapIdx, List.getElem?_map]
  rw [e, List.map_map]
  rfl
theorem upper_plain (z : Str) (h : ∀ c ∈ z.cps.toList, c < 128) : (Txt.upper z).length = z.length ∧ ∀ c ∈ (Txt.upper z).cps.toList, c < 128 := by
  obtain ⟨a, b⟩ := plain_list z.cps.toList h
  rw [← upper_list] at a b
  exact ⟨by rw [Array.length_toList, Array.length_toList] at a; exact a, b⟩
end Gd
end

section
set_option maxRecDepth 100000
set_option maxHeartbeats 2000000
/-! Expressions that give data and change nothing. -/
namespace Gd
open PySem PySem.Spec PyProof.Rows L2
/-- whatever has grown since H, te gives a value that reads as d -/
def EvE (M : List Addr) (te : TE) (σ : L2.St) (H : Hp) (d : PyData) : Prop := ∀ H1, Kp [] H H1 → ∀ R : V → Hp → Prop, (∀ v H2, Kp [] H1 H2 → Rep M H2 v d → R v H2) → te σ H1 R
def EvL (M : List Addr) (ta : TA) (σ : L2.St) (H : Hp) (ds : List PyData) : Prop := ∀ H1, Kp [] H H1 → ∀ R : List V → Hp → Prop, (∀ vs H2, Kp [] H1 H2 → Reps M H2 vs ds → R vs H2) → ta σ H1 R
theorem Live.grow {M : List Addr} {H H' : Hp} (l : Live M H) (k : Kp [] H H') : Live M H' := fun b hb => let ⟨o, e⟩ := l b hb; ⟨o, k b o List.not_mem_nil e⟩
section
variable {M : List Addr} {σ : L2.St} {H : Hp} {te tf : TE} {ta : TA} {d e : PyData} {ds : List PyData}
theorem EvE.run (h : EvE M te σ H d) {R : V → Hp → Prop} (q : ∀ v H2, Kp [] H H2 → Rep M H2 v d → R v H2) : te σ H R := h H .refl R q
theorem EvL.run (h : EvL M ta σ H ds) {R : List V → Hp → Prop} (q : ∀ v H2, Kp [] H H2 → Reps M H2 v ds → R v H2) : ta σ H R := h H .refl R q
theorem ev_non : EvE M (tC .non) σ H .none := fun H1 _ R q => q _ H1 .refl .non
theorem ev_bl (b : Bool) : EvE M (tC (.bl b)) σ H (.bool b) := fun H1 _ R q => q _ H1 .refl (.bl b)
theorem ev_int (i : Int) : EvE M (tC (.int i)) σ H (.int i) := fun H1 _ R q => q _ H1 .refl (.int i)
theorem ev_str (x : Str) : EvE M (tC (.str x)) σ H (.str x) := fun H1 _ R q => q _ H1 .refl (.str x)
theorem ev_var {i : Nat} {v : V} (e : σ[i]? = some (some v)) (r : Rep M H v d) : EvE M (tVar i) σ H d := fun H1 k R q => ⟨v, e, q v H1 .refl (r.keep k.same)⟩
theorem ev_nil : EvL M tNil σ H [] := fun H1 _ R q => q [] H1 .refl .nil
theorem ev_cons (h : EvE M te σ H d) (hs : EvL M ta σ H ds) : EvL M (tCons te ta) σ H (d :: ds) := fun H1 k R q =>
  h H1 k _ fun v H2 k2 r => hs H2 (k.trans k2) _ fun vs H3 k3 rs => q _ H3 (k2.trans k3) (.cons (r.keep k3.same) rs)
theorem ev_tup (l : Live M H) (h : EvL M ta σ H ds) (z : ds.length ≤ 100000) : EvE M (tTup ta) σ H (.tuple ds) := fun H1 k R q =>
  h H1 k _ fun vs H2 k2 r => ⟨by rw [r.length, sizeLine_eq]; omega, fun p hp => q _ _ (k2.trans (Kp.new hp)) (.tup (((l.grow k).grow k2).fresh hp) upd_same (r.keep (Kp.new hp)))⟩
theorem ev_lst (l : Live M H) (h : EvL M ta σ H ds) (z : ds.length ≤ 100000) : EvE M (tLstS ta) σ H (.list ds) := fun H1 k R q =>
  h H1 k _ fun vs H2 k2 r => ⟨by rw [r.length, sizeLine_eq]; omega, fun p hp ns => q _ _ (k2.trans (Kp.new hp)) (.lst (((l.grow k).grow k2).fresh hp) ns upd_same (r.keep (Kp.new hp)))⟩
theorem ev_emp (l : Live M H) : EvE M tDNewK σ H (.dict []) := fun H1 k R q p hp => q _ _ (Kp.new hp) (.emp ((l.grow k).fresh hp) upd_same)
theorem ev_neg (i : Int) : EvE M (tUn (rU fun i => .int (-i)) (tC (.int i))) σ H (.int (-i)) := fun H1 _ R q => ⟨i, rfl, q _ H1 .refl (.int _)⟩
/-- list(t) -/
theorem ev_list (l : Live M H) (h : EvE M te σ H (.tuple ds)) : EvE M (tCB rListT (tCons te tNil)) σ H (.list ds) := fun H1 k R q =>
  h H1 k _ fun v H2 k2 r => by
    cases r with
    | tup n e z => exact ⟨_, _, rfl, e, fun p hp ns => q _ _ (k2.trans (Kp.new hp)) (.lst (((l.grow k).grow k2).fresh hp) ns upd_same (z.keep (Kp.new hp)))⟩
/-- t[lo:hi], some items of it -/
theorem ev_cut {K : PySem.W.Frag} {tl th : TO} {lo hi : Option Int} (l : Live M H) (h : EvE M te σ H (.tuple ds)) (hl : ∀ H1 (R : Option Int → Hp → Prop), R lo H1 → tl σ H1 R) (hh : ∀ H1 (R : Option Int → Hp → Prop), R hi H1 → th σ H1 R) :
    ∃ a b, EvE M (tSl (rSlA K) te tl th) σ H (.tuple ((ds.drop a).take b)) := by
  by_cases w : HT.sIx ds.length 0 lo = 0 ∧ HT.sIx ds.length ds.length hi = ds.length
  · refine ⟨0, ds.length, fun H1 k R q => h H1 k _ fun v H2 k2 r => hl _ _ (hh _ _ ?_)⟩
    rw [List.drop_zero, List.take_length] at q
    cases r with
    | tup n e z =>
      rw [← z.length] at w
      exact ⟨_, _, rfl, .inl (.inl e), fun _ => q _ _ k2 (.tup n e z), fun z => absurd w z⟩
  · refine ⟨HT.sIx ds.length 0 lo, HT.sIx ds.length ds.length hi - HT.sIx ds.length 0 lo, fun H1 k R q => h H1 k _ fun v H2 k2 r => hl _ _ (hh _ _ ?_)⟩
    cases r with
    | tup n e z =>
      rw [← z.length] at w q
      exact ⟨_, _, rfl, .inl (.inl e), fun z => absurd z w, fun _ p hp => q _ _ (k2.trans (Kp.new hp)) (.tup (((l.grow k).grow k2).fresh hp) upd_same (((z.drop _).take _).keep (Kp.new hp)))⟩
theorem po_no {H1 : Hp} (R : Option Int → Hp → Prop) (h : R none H1) : tNoPart σ H1 R := h
/-- t + u -/
theorem ev_cat {K : PySem.W.Frag} {es : List PyData} (l : Live M H) (h : EvE M te σ H (.tuple ds)) (hu : EvE M tf σ H (.tuple es)) (z : ds.length + es.length ≤ 100000) : EvE M (tOp (rCatA K) te tf) σ H (.tuple (ds ++ es)) := fun H1 k R q =>
  h H1 k _ fun v H2 k2 r => hu H2 (k.trans k2) _ fun u H3 k3 r3 => by
    have r := r.keep k3.same
    cases r with
    | tup n e z1 =>
      cases r3 with
      | tup n2 e2 z2 =>
        have l1 := z1.length
        have l2 := z2.length
        refine ⟨_, _, _, _, rfl, rfl, .inl (.inl e), .inl (.inl e2), by rw [sizeLine_eq]; omega, fun h0 => ?_, fun _ h0 => ?_, fun _ _ p hp => q _ _ ((k2.trans k3).trans (Kp.new hp)) (.tup ((((l.grow k).grow k2).grow k3).fresh hp) upd_same ((z1.append z2).keep (Kp.new hp)))⟩
        · subst h0
          cases z1
          exact q _ _ (k2.trans k3) (.tup n2 e2 z2)
        · subst h0
          cases z2
          rw [List.append_nil] at q
          exact q _ _ (k2.trans k3) (.tup n e z1)
/-- v + u, two tuples that stand -/
theorem cat_v {K : PySem.W.Frag} {es : List PyData} {v u : V} {Q : VK} (l : Live M H) (r : Rep M H v (.tuple ds)) (r2 : Rep M H u (.tuple es)) (z : ds.length + es.length ≤ 100000) (q : ∀ x H', Kp [] H H' → Rep M H' x (.tuple (ds ++ es)) → Q x H') : rCatA K v u H Q := by
  cases r with
  | tup n e z1 =>
    cases r2 with
    | tup n2 e2 z2 =>
      have l1 := z1.length
      have l2 := z2.length
      refine ⟨_, _, _, _, rfl, rfl, .inl (.inl e), .inl (.inl e2), by rw [sizeLine_eq]; omega, fun h0 => ?_, fun _ h0 => ?_, fun _ _ p hp => q _ _ (Kp.new hp) (.tup (l.fresh hp) upd_same ((z1.append z2).keep (Kp.new hp)))⟩
      · subst h0
        cases z1
        exact q _ _ .refl (.tup n2 e2 z2)
      · subst h0
        cases z2
        rw [List.append_nil] at q
        exact q _ _ .refl (.tup n e z1)
/-- t[::-1] -/
theorem ev_rev (l : Live M H) (h : EvE M te σ H (.tuple ds)) : EvE M (tRevT te) σ H (.tuple ds.reverse) := fun H1 k R q =>
  h H1 k _ fun v H2 k2 r => by
    cases r with
    | tup n e z => exact ⟨_, _, rfl, e, fun p hp => q _ _ (k2.trans (Kp.new hp)) (.tup (((l.grow k).grow k2).fresh hp) upd_same (z.reverse.keep (Kp.new hp)))⟩
/-- x + "..", x a text -/
theorem ev_adds {x y : Str} (h : EvE M te σ H (.str x)) (hu : EvE M tf σ H (.str y)) (z : x.length + y.length ≤ 100000) :
    EvE M (tOp (fun x y H Q => ∃ i j, x = V.str i ∧ y = V.str j ∧ i.length + j.length ≤ sizeLine ∧ Q (.str (i ++ j)) H) te tf) σ H (.str (x ++ y)) := fun H1 k R q =>
  h H1 k _ fun v H2 k2 r => hu H2 (k.trans k2) _ fun u H3 k3 r3 => by
    cases r
    cases r3
    exact ⟨x, y, rfl, rfl, by rw [sizeLine_eq]; omega, q _ H3 (k2.trans k3) (.str _)⟩
end
section
variable {M : List Addr} {σ : L2.St} {H : Hp} {te tf : TE} {ta : TA} {d e : PyData} {ds : List PyData}
/-- x[lo:hi], x a text -/
theorem ev_cutS {tl th : TO} {lo hi : Option Int} {x : Str} (h : EvE M te σ H (.str x)) (z : x.length ≤ 100000) (hl : ∀ H1 (R : Option Int → Hp → Prop), R lo H1 → tl σ H1 R) (hh : ∀ H1 (R : Option Int → Hp → Prop), R hi H1 → th σ H1 R) :
    EvE M (tSl rSlS te tl th) σ H (.str (cutS x lo hi)) := fun H1 k R q => h H1 k _ fun v H2 k2 r => hl _ _ (hh _ _ (by cases r; exact ⟨x, rfl, by rw [sizeLine_eq]; omega, q _ H2 k2 (.str _)⟩))
/-- x.upper() -/
theorem ev_upper {K : PySem.W.Frag} {x : Str} (h : EvE M te σ H (.str x)) (z : x.length ≤ 100000) : EvE M (tBM0 K "str" (fun x xs H Q => ∃ a, x = V.str a ∧ xs = [] ∧ a.length ≤ 5592405 ∧ Q (.str (Txt.upper a)) H) te) σ H (.str (Txt.upper x)) := fun H1 k R q =>
  h H1 k _ fun v H2 k2 r => by
    cases r
    exact ⟨by first | exact .inl ⟨rfl, _, rfl⟩ | exact ⟨rfl, _, rfl⟩ | exact .inr (.inl ⟨rfl, _, rfl⟩) | trivial | exact .inr ⟨rfl, _, rfl⟩, x, rfl, rfl, by omega, q _ H2 k2 (.str _)⟩
/-- the number that d counts as -/
def num : PyData → Int
  | .int i => i
  | .bool true => 1
  | _ => 0
theorem num_of {d : PyData} {v : V} (h : isInt d = true) (r : Rep M H v d) : NumV v (num d) := by
  cases r with
  | bl b => exact .inr ⟨b, rfl, by cases b <;> rfl⟩
  | int i => exact .inl rfl
  | _ => cases h
theorem ev_num {g : Int → Int → V} {f : Int → Int → PyData} {j : Int} (hd : isInt d = true) (h : EvE M te σ H d) (hg : ∀ H1 i j, Rep M H1 (g i j) (f i j)) : EvE M (tOp (rNum g) te (tC (.int j))) σ H (f (num d) j) := fun H1 k R q =>
  h H1 k _ fun v H2 k2 r => ⟨_, j, num_of hd r, rfl, q _ H2 k2 (hg ..)⟩
theorem ev_negN (hd : isInt d = true) (h : EvE M te σ H d) : EvE M (tUn rNegN te) σ H (.int (-num d)) := fun H1 k R q =>
  h H1 k _ fun v H2 k2 r => ⟨_, num_of hd r, q _ H2 k2 (.int _)⟩
def strN (d : PyData) : Str := match d with | .bool b => if b then "True" else "False" | _ => Str.ofString (toString (num d))
theorem ev_strN (hd : isInt d = true) (hs : (num d).natAbs.log2 < 1920) (h : EvE M te σ H d) : EvE M (tCB rStrN (tCons te tNil)) σ H (.str (strN d)) := fun H1 k R q =>
  h H1 k _ fun v H2 k2 r => by
    cases r with
    | bl b => exact .inr ⟨b, rfl, q _ H2 k2 (.str _)⟩
    | int i => exact .inl ⟨i, rfl, hs, q _ H2 k2 (.str _)⟩
    | _ => cases hd
end
theorem seq_i {t u : TS} {D : Ends} {σ : L2.St} {H : Hp} (h : t { D with nx := u D } σ H) : tSeq t u D σ H := h
theorem asg_i {te : TE} {g : TG} {D : Ends} {σ : L2.St} {H : Hp} (h : te σ H fun x H1 => g x σ H1 D.nx) : tAsg te g D σ H := h
theorem lst_i {ta : TA} {σ : L2.St} {H : Hp} {Q : VK} (h : ta σ H fun xs H1 => xs.length ≤ sizeLine ∧ ∀ p, H1 p = none → p ≠ sysModules → Q (.ref p) (upd H1 p (.lst xs))) : tLstS ta σ H Q := h
end Gd
end

section
set_option maxRecDepth 100000
set_option maxHeartbeats 2000000
/-! How large parts of data are. -/
namespace Gd
open PySem PySem.Spec PyProof.Rows L2
theorem goods_iff {B : Nat} : ∀ {xs : List PyData}, goods B xs ↔ ∀ x ∈ xs, good B x
  | [] => ⟨fun _ => nofun, fun _ => trivial⟩
  | x :: r => by
    simp only [goods, List.mem_cons, forall_eq_or_imp, goods_iff (xs := r)]
theorem depthAll_le {D : Nat} : ∀ {xs : List PyData}, PyData.depthAll xs ≤ D ↔ ∀ x ∈ xs, x.depth ≤ D
  | [] => by simp [PyData.depthAll]
  | x :: r => by
    simp only [PyData.depthAll, List.mem_cons, forall_eq_or_imp, ← depthAll_le (xs := r)]
    omega
theorem wts_sub {xs ys : List PyData} (h : xs.Sublist ys) : wts xs ≤ wts ys := by
  induction h with
  | slnil => exact Nat.le_refl _
  | cons a _ ih => simp only [wts]; omega
  | cons_cons a _ ih => simp only [wts]; omega
theorem wts_append : ∀ xs ys : List PyData, wts (xs ++ ys) = wts xs + wts ys
  | [], ys => by simp [wts]
  | x :: r, ys => by
    rw [List.cons_append]
    simp only [wts, wts_append r ys]
    omega
theorem wts_reverse : ∀ xs : List PyData, wts xs.reverse = wts xs
  | [] => rfl
  | x :: r => by
    rw [List.reverse_cons, wts_append, wts_reverse r]
    simp only [wts]
    omega
theorem cut_sub {α : Type} (xs : List α) (a b : Nat) : ((xs.drop a).take b).Sublist xs := (List.take_sublist _ _).trans (List.drop_sublist _ _)
end Gd
end

section
set_option maxRecDepth 100000
set_option maxHeartbeats 2000000
/-! Exact cuts of tuples. -/
namespace Gd
open PySem PySem.Spec PyProof.Rows L2
section
variable {M : List Addr} {σ : L2.St} {H : Hp} {te : TE} {ds : List PyData}
theorem ev_cutX {K : PySem.W.Frag} {tl th : TO} {lo hi : Option Int} (l : Live M H) (h : EvE M te σ H (.tuple ds)) (hl : ∀ H1 (R : Option Int → Hp → Prop), R lo H1 → tl σ H1 R) (hh : ∀ H1 (R : Option Int → Hp → Prop), R hi H1 → th σ H1 R) :
    EvE M (tSl (rSlA K) te tl th) σ H (.tuple ((ds.drop (HT.sIx ds.length 0 lo)).take (HT.sIx ds.length ds.length hi - HT.sIx ds.length 0 lo))) := by
  by_cases w : HT.sIx ds.length 0 lo = 0 ∧ HT.sIx ds.length ds.length hi = ds.length
  · refine fun H1 k R q => h H1 k _ fun v H2 k2 r => hl _ _ (hh _ _ ?_)
    rw [w.1, w.2, List.drop_zero, Nat.sub_zero, List.take_length] at q
    cases r with
    | tup n e z =>
      rw [← z.length] at w
      exact ⟨_, _, rfl, .inl (.inl e), fun _ => q _ _ k2 (.tup n e z), fun z => absurd w z⟩
  · refine fun H1 k R q => h H1 k _ fun v H2 k2 r => hl _ _ (hh _ _ ?_)
    cases r with
    | tup n e z =>
      rw [← z.length] at w q
      exact ⟨_, _, rfl, .inl (.inl e), fun z => absurd z w, fun _ p hp => q _ _ (k2.trans (Kp.new hp)) (.tup (((l.grow k).grow k2).fresh hp) upd_same (((z.drop _).take _).keep (Kp.new hp)))⟩
/-- t[:n] -/
theorem ev_take {K : PySem.W.Frag} {th : TO} {n : Nat} (l : Live M H) (h : EvE M te σ H (.tuple ds)) (hh : ∀ H1 (R : Option Int → Hp → Prop), R (some (n : Int)) H1 → th σ H1 R) :
    EvE M (tSl (rSlA K) te tNoPart th) σ H (.tuple (ds.take n)) := by
  have := ev_cutX (K := K) (tl := tNoPart) (th := th) (lo := none) (hi := some (n : Int)) l h (fun H1 R h => po_no R h) hh
  rw [HT.sIx_none, HT.sIx_nat, List.drop_zero, Nat.sub_zero] at this
  have e : ds.take (min n ds.length) = ds.take n := by
    rw [List.take_eq_take_iff]; omega
  rwa [e] at this
/-- t[n:] -/
theorem ev_drop {K : PySem.W.Frag} {tl : TO} {n : Nat} (l : Live M H) (h : EvE M te σ H (.tuple ds)) (hl : ∀ H1 (R : Option Int → Hp → Prop), R (some (n : Int)) H1 → tl σ H1 R) :
    EvE M (tSl (rSlA K) te tl tNoPart) σ H (.tuple (ds.drop n)) := by
  have := ev_cutX (K := K) (tl := tl) (th := tNoPart) (lo := some (n : Int)) (hi := none) l h hl (fun H1 R h => po_no R h)
  rw [HT.sIx_none, HT.sIx_nat] at this
  have e : (ds.drop (min n ds.length)).take (ds.length - min n ds.length) = ds.drop n := by
    rw [List.take_of_length_le (by rw [List.length_drop]; omega)]
    by_cases h : n ≤ ds.length
    · rw [Nat.min_eq_left h]
    · rw [Nat.min_eq_right (by omega), List.drop_of_length_le (Nat.le_refl _), List.drop_of_length_le (by omega)]
  rwa [e] at this
end
theorem wts_at : ∀ {xs : List PyData} {n : Nat} {x : PyData}, xs[n]? = some x → wts xs = wts (xs.take n) + (wt x + 1) + wts (xs.drop (n + 1))
  | [], n, x, h => by simp at h
  | y :: r, 0, x, h => by
    simp only [List.getElem?_cons_zero, Option.some.injEq] at h
    subst h
    simp only [List.take_zero, List.drop_succ_cons, List.drop_zero, wts]
    omega
  | y :: r, n + 1, x, h => by
    rw [List.getElem?_cons_succ] at h
    have := wts_at h
    simp only [List.take_succ_cons, List.drop_succ_cons, wts]
    omega
end Gd
end

section
set_option maxRecDepth 100000
set_option maxHeartbeats 2000000
/-! enumerate(text), tuple(text). -/
namespace Gd
open PySem PySem.Spec PyProof.Rows L2
/-- the signs of a text, each in a new pair -/
def Ites (z : Str) : It := ⟨fun i H => i < z.cps.size, fun i H v H' => ∃ T c, v = .ref T ∧ H T = none ∧ H' = upd H T (.tup [.int (i : Nat), .str ⟨#[c]⟩]) ∧ z.cps[i]? = some c, fun i H => z.cps.size ≤ i⟩
section
variable {prog : Program} {w : World} {A : Around} {E : Value → Shared → Prop} {s : Shared}
theorem enum_endS {e it : Addr} {x : Str} {t : Tok} {ty : String} {k : Nat} {i : Int} {old : Value} {Q : Option Value → Shared → Prop} (hh : A.handled = none) (hty : ty = "str_ascii_iterator" ∨ ty = "str_iterator") (he : IsEnum s.heap e it i old)
    (hit : s.heap.IsStrIter it ty x t k) (hx : x.cps[k]? = none) (hQ : ∀ h', Heap.ExtBut it s.heap h' → Q none { s with heap := h' }) : wpAny (model prog w) A (pyNext (.ref e)) Q E s := by
  have hT : s.TypeIs (.ref e) "enumerate" := ⟨_, he, rfl⟩
  unfold pyNext
  refine wpAny_bind (wpAny_attempt (wpAny_callSpecial?_slot (name := Str.ofString "__next__") hT F.slot_enumerate_next
    (wpAny_call_entry F.slot_enumerate_next hT F.entry_enumerate_next ?_ (F.args_enumerate_next_1 _))))
  show wpAny _ _ (field (.ref e) 2 >>= _) _ _ _
  refine wpAny_bind (wpAny_field he rfl (x := .ref it) rfl ?_)
  refine wpAny_bind ?_
  rcases hty with z | z
  · rw [z] at hit
    refine wpAny_nextOf_ascii_end (A := A.in1) hh hit hx fun h' x' he' hx' => ?_
    obtain ⟨o, ho, hc⟩ := hx'
    refine wpAny_bind (wpAny_isInstance (T := "StopIteration") (b := true) ⟨o, ho, hc⟩ isSubtype_stop ?_)
    exact wpAny_pure (hQ _ he')
  · rw [z] at hit
    refine wpAny_nextOf_wide_end (A := A.in1) hh hit hx fun h' x' he' hx' => ?_
    obtain ⟨o, ho, hc⟩ := hx'
    refine wpAny_bind (wpAny_isInstance (T := "StopIteration") (b := true) ⟨o, ho, hc⟩ isSubtype_stop ?_)
    exact wpAny_pure (hQ _ he')
end
theorem turn_enumS {P : Program} {w : World} {K : PySem.W.Frag} {elts : List Expr} {kk : Nat} {tpos : Pos} (e it : Addr) (z : Str) (t : Tok) (ty : String) (hty : ty = "str_ascii_iterator" ∨ ty = "str_iterator") :
    Turn P w K (.Tuple elts kk tpos) (Ites z) [e, it] e (fun i h => (∃ old, IsEnum h e it ((i : Nat) : Int) old) ∧ h.IsStrIter it ty z t i ∧ e ≠ it) where
  mem := by simp
  obj := fun i h st b hb => by
    obtain ⟨⟨old, he⟩, ⟨o, ho, hc, hd⟩, _⟩ := st
    have e' : b = e ∨ b = it := by simpa using hb
    rcases e' with z | z
    · rw [z]; exact ⟨_, he, fun v q => nomatch q⟩
    · rw [z]; exact ⟨o, ho, fun v q => by rw [hd] at q; cases q⟩
  keep := fun i h h' st k => let ⟨⟨old, he⟩, ⟨o, ho, r⟩, hne⟩ := st; ⟨⟨old, k e (by simp) _ he⟩, ⟨o, k it (by simp) o ho, r⟩, hne⟩
  item := by
    intro X hP hw hK hc i pins s σ H E I hf st hg
    subst hP hw hK
    obtain ⟨⟨old, he⟩, hit, hne⟩ := st
    have hel : e < s.heap.objs.size := Heap.lt_size he
    have hil : it < s.heap.objs.size := by obtain ⟨_, q, _⟩ := hit; exact Heap.lt_size q
    have D : Draws X.prog X.w X.A.in1 it [it] z.cps.size (fun i v => ∃ c u, z.cps[i]? = some c ∧ v = .str ⟨#[c]⟩ u) (fun i h => h.IsStrIter it ty z t i) := by
      rcases hty with q | q
      · rw [q]; exact Draws.strAscii (A := X.A.in1) (I.ok.hd hc) it z t
      · rw [q]; exact Draws.strWide (A := X.A.in1) (I.ok.hd hc) it z t
    refine wpAny_pyNext_enum_itemD D he hit hg hne (by simpa using hne) fun v h' tk hv ho hit' hT hsz hk => ?_
    obtain ⟨c, u, hcx, rfl⟩ := hv
    refine ⟨_, rfl, wpAny_letOwnedTupleGo_enum (s := { s with heap := h', toks := tk + 1 }) ho fun h'' he' sb => ?_⟩
    have hT2 : h''.get? s.heap.objs.size = some { cls := .type "tuple", data := .seq #[.int i tk, .str ⟨#[c]⟩ u] } := (sb.2 _ (Nat.ne_of_gt hel)).trans hT
    have new : ObjOk X.prog X.w (upd H s.heap.objs.size (.tup [.int (i : Nat), .str ⟨#[c]⟩])) h'' s.heap.objs.size (.tup [.int (i : Nat), .str ⟨#[c]⟩]) :=
      ⟨by show 2 ≤ sizeLine; decide, [.int i tk, .str ⟨#[c]⟩ u], .cons ⟨_, rfl⟩ (.cons ⟨_, rfl⟩ .nil), ⟨_, hT2, rfl, _, rfl⟩⟩
    have I1 : Inv X pins σ (upd H s.heap.objs.size (.tup [.int (i : Nat), .str ⟨#[c]⟩])) { s with heap := h'', toks := tk + 1 } :=
      I.turnedNew (ch := [e, it]) (fun b ob hb q => (sb.2 b (fun z => hb (by simp [z]))).trans (hk b ob (fun z => hb (by simp [z])) (fun z => hb (by simp [z])) q)) hf (Nat.le_refl _) new
    refine ⟨.ref s.heap.objs.size, _, I1, rfl, ⟨_, c, rfl, I.hok.fresh (Nat.le_refl _), rfl, hcx⟩, ⟨⟨.str ⟨#[c]⟩ u, ?_⟩, ?_, hne⟩, fun b hb => ?_⟩
    · have e1 : ((i + 1 : Nat) : Int) = (i : Int) + 1 := by omega
      rw [e1]; exact he'
    · obtain ⟨o, ho, r⟩ := hit'
      exact ⟨o, (sb.2 it (Ne.symm hne)).trans ho, r⟩
    · have hb' : b < s.heap.objs.size := by
        have e' : b = e ∨ b = it := by simpa using hb
        rcases e' with z | z
        · rw [z]; exact hel
        · rw [z]; exact hil
      rw [upd_ne (Nat.ne_of_lt hb')]
      exact (hf b hb).1
  done := by
    intro X hP hw hK hc i pins s σ H E I hf st hg
    subst hP hw hK
    obtain ⟨⟨old, he⟩, hit, hne⟩ := st
    obtain ⟨f0, f1, f2, f3, f4, f5⟩ := hf it (by simp)
    exact enum_endS (I.ok.hd hc) hty he hit (Array.getElem?_eq_none hg) fun h' eb => ⟨rfl, I.turned (t' := s.toks) (fun b o hb q => eb b o hb q) f0 f1 f3 f4 f5⟩
  self := fun A i s Q E st h => let ⟨⟨_, he⟩, _⟩ := st; wpAny_pyIter_enum he h
def iEnumS (ta : TA) : TI := fun σ H R => ta σ H fun vs H1 => ∃ z, vs = [.str z] ∧ R (Ites z) H1
theorem pi_enumS {X : Cx} {e : Expr} {ta : TA} {p pos tpos : Pos} {elts : List Expr} {kk : Nat} (hg : Gl X "enumerate") (hm : X.mg "enumerate" = none) (ha : PA X [e] ta) (hs : starEach [e] X.env = [(false, eval e X.env)] := by rfl) :
    PI X (.Tuple elts kk tpos) (.Call (.Name "enumerate" p) [e] [] pos) (iEnumS ta) := by
  refine ⟨fun pins s σ H R I h => ?_⟩
  refine Call_ (ld_blt I hg hm boot_enumerate (PyProof.Rows.callWith_type1 (thn (ha.run pos pins s σ H _ I h) fun us s1 ⟨vs, H1, I1, r1, q1⟩ => ?_) hs rfl))
  obtain ⟨z, ex, q⟩ := q1
  subst ex
  cases r1 with
  | cons r rr =>
    cases rr
    obtain ⟨t, rfl⟩ := r
    refine call_enumerate_str fun h' he hit hsz hk => wpAny_pyIter_enum he ?_
    have I2 : Inv X pins σ H1 { s1 with heap := h' } := I1.kept (t' := s1.toks) hk
    have hty : strIterType z = "str_ascii_iterator" ∨ strIterType z = "str_iterator" := by
      unfold strIterType
      split
      · exact .inl rfl
      · exact .inr rfl
    refine ⟨s1.heap.objs.size + 1, [s1.heap.objs.size + 1, s1.heap.objs.size], _, _, H1, rfl, I2, turn_enumS (s1.heap.objs.size + 1) s1.heap.objs.size z t _ hty, ⟨⟨.none, he⟩, hit, Nat.succ_ne_self _⟩, fun b hb => ?_, q⟩
    have e' : b = s1.heap.objs.size + 1 ∨ b = s1.heap.objs.size := by simpa using hb
    have hle : s1.heap.objs.size ≤ b := by
      rcases e' with z | z
      · rw [z]; exact Nat.le_add_right _ _
      · rw [z]; exact Nat.le_refl _
    exact I1.fpOk hle (I1.hok.fresh hle)
theorem walk_enumS {z : Str} : Walk (Ites z) z.cps.size (fun _ => True) (YPair (fun i => some (.int (i : Nat))) (fun i => (z.cps.toList.map fun c => V.str ⟨#[c]⟩)[i]?)) := by
  refine ⟨fun i _ hi q => hi, fun _ q => Nat.le_refl _, fun i H v H' _ q y => ?_⟩
  obtain ⟨T, c, h1, h2, h3, h4⟩ := y
  exact ⟨T, .int (i : Nat), .str ⟨#[c]⟩, h1, h2, h3, rfl, by show (z.cps.toList.map fun c => V.str ⟨#[c]⟩)[i]? = _; rw [List.getElem?_map, Array.getElem?_toList, h4]; rfl⟩
section
variable {X : Cx}
/-- tuple(text) -/
theorem call_tuple_str (hc : X.calm = true) : CallR X (.type "tuple") (fun xs H Q => ∃ z, xs = [.str z] ∧ z.length ≤ sizeLine ∧ ∀ p, H p = none → Q (.ref p) (upd H p (.tup (z.cps.toList.map fun c => V.str ⟨#[c]⟩)))) := by
  intro pins s σ H xs us Q I r h
  obtain ⟨z, rfl, hz, q⟩ := h
  obtain ⟨u, rfl, t, rfl⟩ := vals1 r
  refine PySem.call_tuple_str (I.ok.hd hc) z t (fun h' tk acc hk hi => ?_) hz
  have I1 : Inv X pins σ H { s with heap := h', toks := tk } := I.kept (t' := tk) hk
  have rv : Vals (z.cps.toList.map fun c => V.str ⟨#[c]⟩) acc.toList := by
    refine vals_of_at (by rw [List.length_map, Array.length_toList, Array.length_toList, hi.1]) fun j x u e1 e2 => ?_
    rw [Array.getElem?_toList] at e2
    obtain ⟨c, t, ec, rfl⟩ := hi.2 j u e2
    rw [List.getElem?_map, Array.getElem?_toList, ec] at e1
    cases e1
    exact ⟨t, rfl⟩
  have I2 : Inv X pins σ (upd H h'.objs.size (.tup (z.cps.toList.map fun c => V.str ⟨#[c]⟩))) { s with heap := h'.push { cls := .type "tuple", data := .seq acc }, toks := tk } :=
    I1.laid (t' := tk) (fun b o e => Heap.get?_push_of_some _ e) (Nat.le_refl _) (show ObjOk X.prog X.w _ _ _ (.tup _) from ⟨by rw [List.length_map, Array.length_toList]; exact hz, acc.toList, rv, by
      have := IsTup.new h' acc
      simpa using this⟩)
  exact ⟨.ref h'.objs.size, _, I2, rfl, q _ (I1.hok.fresh (Nat.le_refl _))⟩
end
end Gd
end

section
set_option maxRecDepth 100000
set_option maxHeartbeats 2000000
/-! Items of data, lists of data that comprehensions make. -/
namespace Gd
open PySem PySem.Spec PyProof.Rows L2
theorem Reps.atI {M : List Addr} {H : Hp} {vs : List V} {ds : List PyData} {i : Int} {d : PyData} (r : Reps M H vs ds) (e : L2.atI ds i = some d) : ∃ v, L2.atI vs i = some v ∧ Rep M H v d := by
  have l := r.length
  unfold L2.atI at e ⊢
  rw [l]
  obtain ⟨j, ej, e⟩ := Option.bind_eq_some_iff.mp e
  rw [ej]
  exact r.at' e
theorem atI_last {α : Type} {xs : List α} (h : 0 < xs.length) : ∃ d, L2.atI xs (-1) = some d ∧ d ∈ xs := by
  unfold L2.atI L2.ixN
  rw [if_neg (by decide)]
  have e : ∀ (c : Prop) [Decidable c], c → (if c then some ((-1 : Int) + xs.length).toNat else none) = some (xs.length - 1) := fun c _ hc => by
    rw [if_pos hc]; congr 1; omega
  rw [e _ (by omega)]
  exact ⟨xs[xs.length - 1], by simp [h], List.getElem_mem _⟩
section
variable {M : List Addr} {σ : L2.St} {H : Hp} {te tf ti : TE} {ta : TA} {d e : PyData} {ds : List PyData}
theorem ev_ix {K : PySem.W.Frag} {i : Int} (h : EvE M te σ H (.tuple ds)) (hi : ∀ H1 (R : V → Hp → Prop), R (.int i) H1 → ti σ H1 R) (e : L2.atI ds i = some d) : EvE M (tOp (rIxT K) te ti) σ H d := fun H1 k R q =>
  h H1 k _ fun v H2 k2 r => hi _ _ (by
    cases r with
    | tup n e1 z =>
      obtain ⟨v, ev, rv⟩ := z.atI e
      exact ⟨_, _, i, v, rfl, rfl, .inl (.inl e1), ev, q v H2 k2 rv⟩)
theorem ev_tupS {x : Str} (l : Live M H) (h : EvE M te σ H (.str x)) (z : x.length ≤ 100000) :
    EvE M (tCB (fun xs H Q => ∃ z, xs = [V.str z] ∧ z.length ≤ sizeLine ∧ ∀ p, H p = none → Q (.ref p) (upd H p (.tup (z.cps.toList.map fun c => V.str ⟨#[c]⟩)))) (tCons te tNil)) σ H (.tuple ((x.cps.toList.map fun c => (⟨#[c]⟩ : Str)).map .str)) := fun H1 k R q =>
  h H1 k _ fun v H2 k2 r => by
    cases r
    refine ⟨x, rfl, by rw [sizeLine_eq]; omega, fun p hp => q _ _ (k2.trans (Kp.new hp)) (.tup (((l.grow k).grow k2).fresh hp) upd_same ?_)⟩
    have := Reps.of_strs (M := M) (H := upd H2 p (.tup (x.cps.toList.map fun c => V.str ⟨#[c]⟩))) (x.cps.toList.map fun c => (⟨#[c]⟩ : Str))
    rw [List.map_map] at this
    exact this
def rTupOf (K : PySem.W.Frag) : List V → Hp → VK → Prop := fun xs H Q => ∃ p ys, xs = [V.ref p] ∧ ((SqL K H p ys ∧ ∀ l, H l = none → Q (.ref l) (upd H l (.tup ys))) ∨ (SqT K H p ys ∧ Q (.ref p) H))
theorem call_tuple_ofK {X : Cx} {K : PySem.W.Frag} (h : X.K = K) : CallR X (.type "tuple") (rTupOf K) := h ▸ call_tuple_of
theorem sl_listK {X : Cx} {K : PySem.W.Frag} (h : X.K = K) : SlR X (rSlL K) := h ▸ sl_list
/-- tuple(list[lo:hi]) -/
theorem ev_tupL {K : PySem.W.Frag} {i : Nat} {p : Addr} {vs : List V} {tl th : TO} {lo hi : Option Int} (l : Live M H) (ei : σ[i]? = some (some (.ref p))) (ep : H p = some (.lst vs)) (r : Reps M H vs ds) (hl : ∀ H1 (R : Option Int → Hp → Prop), R lo H1 → tl σ H1 R) (hh : ∀ H1 (R : Option Int → Hp → Prop), R hi H1 → th σ H1 R) :
    ∃ a b, EvE M (tCB (rTupOf K) (tCons (tSl (rSlL K) (tVar i) tl th) tNil)) σ H (.tuple ((ds.drop a).take b)) := by
  refine ⟨HT.sIx ds.length 0 lo, HT.sIx ds.length ds.length hi - HT.sIx ds.length 0 lo, fun H1 k R q => ⟨_, ei, hl _ _ (hh _ _ ⟨p, vs, rfl, .inl (.inl (k _ _ List.not_mem_nil ep)), fun b hb => ?_⟩)⟩⟩
  refine ⟨b, _, rfl, .inl ⟨.inl (.inl upd_same), fun c hc => ?_⟩⟩
  have kk := (Kp.new (M := []) hb (o := .lst (cutV vs lo hi))).trans (Kp.new hc (o := .tup (cutV vs lo hi)))
  refine q _ _ kk (.tup ((((l.grow k).grow (Kp.new hb))).fresh hc) upd_same ?_)
  unfold cutV
  rw [← r.length] at *
  exact ((r.drop _).take _).keep ((k.trans kk).same)
end
section
variable {J : It} {n : Nat} {G : Hp → Prop} {Y : Nat → Hp → V → Hp → Prop} {g : TG} {te : TE} {vs : List Nat} {σ : L2.St} {H1 : Hp} {D : Addr} {Qd : Hp → Prop} {M : List Addr} {P : PyData → Prop}
/-- items that read as data, found without a change -/
theorem lc_data (w : Walk J n G Y) (hn : n ≤ sizeLine) (hD : H1 D = none) (hG : ∀ H, Kp [] H1 H → G H)
    (hs : ∀ i x H H', i < n → Kp [] H1 H → (∃ o, H D = some o) → Y i H x H' → ∀ Kt : V → Hp → Prop, (∀ y d H4, Kp [] H H4 → Rep (D :: M) H4 y d → P d → Kt y H4) → g x (wipe σ vs) H' fun σ2 H2 => wipe σ2 vs = wipe σ vs ∧ te σ2 H2 Kt)
    (hd : ∀ acc ds H, Kp [] H1 H → H D = some (.lst acc) → acc.length = n → Reps (D :: M) H acc ds → (∀ y ∈ ds, P y) → Qd H) :
    ∃ W : Nat → Nat → Hp → Prop, (∃ m, W 0 m (upd H1 D (.lst []))) ∧ ∀ i m H, W i m H →
      (J.stop i H ∧ Qd H) ∨ (J.go i H ∧ ∃ Nx : Hp → Prop, (∀ H', Nx H' → ∃ m', m' < m ∧ W (i + 1) m' H') ∧ ∀ x H', J.yld i H x H' → g x (wipe σ vs) H' fun σ2 H2 => wipe σ2 vs = wipe σ vs ∧ tYes σ2 H2 fun b H3 =>
        if b = true then te σ2 H3 fun y H4 => ∃ acc, H4 D = some (.lst acc) ∧ acc.length < sizeLine ∧ Nx (upd H4 D (.lst (acc ++ [y]))) else Nx H3) := by
  refine lc_by w hn (fun i acc H => Kp [] H1 H ∧ H D = some (.lst acc) ∧ acc.length = i ∧ ∃ ds, Reps (D :: M) H acc ds ∧ ∀ y ∈ ds, P y) ⟨Kp.new hD, upd_same, rfl, [], .nil, nofun⟩ (fun i acc H _ p => hG H p.1) (fun i acc H p => ⟨p.2.2.1, p.2.1⟩) (fun i acc x H H' hi p y Kt q => ?_) fun acc H p => let ⟨a, b, c, ds, r, h⟩ := p; hd acc ds H a b c r h
  obtain ⟨k, ed, el, ds, r, hr⟩ := p
  refine hs i x H H' hi k ⟨_, ed⟩ y Kt fun y d H4 k4 ry py => ?_
  have e4 := k4 D _ List.not_mem_nil ed
  have kp : Kp (D :: M) H4 (upd H4 D (.lst (acc ++ [y]))) := Kp.put List.mem_cons_self
  refine q _ H4 e4 ⟨fun c o nc ec => ?_, upd_same, by simp [el], ds ++ [d], ((r.keep k4.same).append (.cons ry .nil)).keep kp, fun z hz => ?_⟩
  · rw [upd_ne (ne_of_none ec hD)]
    exact k4 c o nc (k c o nc ec)
  · rcases List.mem_append.mp hz with hz | hz
    · exact hr z hz
    · rw [List.mem_singleton.mp hz]; exact py
end
section
variable {K : PySem.W.Frag} {te0 te : TE} {g : TG} {vs : List Nat} {σ : L2.St} {H : Hp} {Q : VK} {M : List Addr} {P : PyData → Prop}
/-- [.. for x in t] -/
theorem lc_tupD {xs : List V} (h0 : ∀ R : V → Hp → Prop, (∀ a H1, Kp [] H H1 → H1 a = some (.tup xs) → R (.ref a) H1) → te0 σ H R) (hn : xs.length ≤ sizeLine)
    (hs : ∀ (m : Nat) x D H', xs[m]? = some x → Kp [] H H' → H D = none → (∃ o, H' D = some o) → ∀ Kt : V → Hp → Prop, (∀ y d H3, Kp [] H' H3 → Rep (D :: M) H3 y d → P d → Kt y H3) → g x (wipe σ vs) H' fun σ2 H2 => wipe σ2 vs = wipe σ vs ∧ te σ2 H2 Kt)
    (q : ∀ D acc ds H', Kp [] H H' → H D = none → H' D = some (.lst acc) → acc.length = xs.length → Reps (D :: M) H' acc ds → (∀ d ∈ ds, P d) → Q (.ref D) H') : tLc (iTup K te0) g tYes te vs σ H Q := by
  refine h0 _ fun a H1 k1 ha => ⟨a, rfl, ⟨xs, .inl (.inl ha)⟩, fun D hD => ?_⟩
  have nD : H D = none := by
    cases c : H D with
    | none => rfl
    | some o => have := k1 D o List.not_mem_nil c; rw [hD] at this; cases this
  refine lc_data (M := M) (P := P) (walk_tup (K := K) (a := a) (xs := xs)) hn hD (fun H' k => .inl (.inl (k a _ List.not_mem_nil ha))) (fun i x H' H2 hi k eD y Kt q => ?_) fun acc ds H' k e l r h => q D acc ds H' (k1.trans k) nD e l r h
  obtain ⟨rfl, ex⟩ := y
  exact hs i x D _ ex (k1.trans k) nD eD Kt q
/-- [.. for c in text] -/
theorem lc_strD {z : Str} (h0 : ∀ R : V → Hp → Prop, R (.str z) H → te0 σ H R) (hn : z.cps.size ≤ sizeLine)
    (hs : ∀ (m : Nat) c D H', z.cps[m]? = some c → Kp [] H H' → H D = none → (∃ o, H' D = some o) → ∀ Kt : V → Hp → Prop, (∀ y d H3, Kp [] H' H3 → Rep (D :: M) H3 y d → P d → Kt y H3) → g (.str ⟨#[c]⟩) (wipe σ vs) H' fun σ2 H2 => wipe σ2 vs = wipe σ vs ∧ te σ2 H2 Kt)
    (q : ∀ D acc ds H', Kp [] H H' → H D = none → H' D = some (.lst acc) → acc.length = z.cps.size → Reps (D :: M) H' acc ds → (∀ d ∈ ds, P d) → Q (.ref D) H') : tLc (iStr te0) g tYes te vs σ H Q := by
  refine h0 _ ⟨z, rfl, fun D hD => ?_⟩
  refine lc_data (M := M) (P := P) (walk_str (z := z)) hn hD (fun _ _ => trivial) (fun i x H' H2 hi k eD y Kt q => ?_) fun acc ds H' k e l r h => q D acc ds H' k hD e l r h
  obtain ⟨rfl, c, ec, rfl⟩ := y
  exact hs i c D _ ec k hD eD Kt q
end
end Gd
end

section
set_option maxRecDepth 100000
set_option maxHeartbeats 2000000
/-! sorted(list) of data of one shape. -/
namespace Gd
open PySem PySem.Spec PyProof.Rows L2
theorem each_of {M : List Addr} {H : Hp} : ∀ {us : List V} {its : List Value} {ds : List PyData}, Vals us its → Reps M H us ds → W.EachIs (fun u (b : V × PyData) => RelV b.1 u ∧ Rep M H b.1 b.2) its (us.zip ds)
  | _, _, _, .nil, .nil => .nil
  | _, _, _, .cons r rs, .cons z zs => .cons ⟨r, z⟩ (each_of rs zs)
theorem of_each {M : List Addr} {H : Hp} : ∀ {out : List Value} {cs : List (V × PyData)}, W.EachIs (fun u (b : V × PyData) => RelV b.1 u ∧ Rep M H b.1 b.2) out cs → Vals (cs.map Prod.fst) out ∧ Reps M H (cs.map Prod.fst) (cs.map Prod.snd)
  | _, _, .nil => ⟨.nil, .nil⟩
  | _, _, .cons h t => ⟨.cons h.1 (of_each t).1, .cons h.2 (of_each t).2⟩
theorem zip_snd {M : List Addr} {H : Hp} : ∀ {us : List V} {ds : List PyData}, Reps M H us ds → (us.zip ds).map Prod.snd = ds
  | _, _, .nil => rfl
  | _, _, .cons _ zs => by rw [List.zip_cons_cons, List.map_cons, zip_snd zs]
/-- the data in their sequence -/
def sortD (ds : List PyData) : List PyData := ds.mergeSort fun a b => !W.dataLt b a
def rSortD (K : PySem.W.Frag) : List V → Hp → VK → Prop := fun xs H Q => ∃ (M : List Addr) (a : Addr) (us : List V) (ds : List PyData), xs = [V.ref a] ∧ SqL K H a us ∧ Reps M H us ds ∧ W.AllAlike ds ∧ W.Sortable ds ∧ (∀ d ∈ ds, d.depth ≤ 60) ∧
  ∀ (p : Addr) (us' : List V), us'.length = us.length → Reps M H us' (sortD ds) → H p = none → Q (.ref p) (upd H p (.lst us'))
section
variable {X : Cx} {k : Nat}
theorem cr_sortedD {K : PySem.W.Frag} (hK : X.K = K) (hr : Room k X.A) : CallR X (.builtin "sorted") (rSortD K) := by
  subst hK
  intro pins s σ H vs ws Q I r h
  obtain ⟨M, a, us, ds, rfl, hs, rp, al, so, dp, q⟩ := h
  obtain ⟨its, rv, hl, hz⟩ := I.list hs
  rw [Vals.ref1 r]
  have un := hr.un
  have hm := zip_snd rp
  have lu := rp.length
  have e := each_of rv rp
  refine W.sorted_data (enc := Prod.snd) (bs := us.zip ds) hl.isList e (e.mono fun u b ⟨h1, h2⟩ => let ⟨as, z, _⟩ := Rep.reads I h2 h1; ⟨as, z⟩) (by rw [hm]; exact al) (by rw [hm]; exact so) (by rw [List.length_zip, ← lu, Nat.min_self]; exact hz) (fun b hb => ?_) fun out ho eo => ?_
  · have : b.2 ∈ ds := hm ▸ List.mem_map.mpr ⟨b, hb, rfl⟩
    have := dp _ this
    omega
  · obtain ⟨v1, r1⟩ := of_each eo
    have es : ((us.zip ds).mergeSort (W.dataLe false Prod.snd)).map Prod.snd = sortD ds := by
      have t := W.sort_maps (r := W.dataLe false (Prod.snd : V × PyData → PyData)) (s := fun a b => !W.dataLt b a) (l := us.zip ds) Prod.snd fun a _ b _ => rfl
      rw [hm] at t
      exact t
    rw [es] at r1
    have l1 := r1.length
    have l2 : (sortD ds).length = ds.length := List.length_mergeSort _
    obtain ⟨ep, he'⟩ := PyProof.Rows.sortedAll_at s.heap its out.toArray
    exact ⟨.ref _, upd H (s.heap.objs.size + 1) (.lst _), I.laid (t' := s.toks) (fun _ _ => PyProof.Rows.sortedAll_old) (Nat.le_succ _) ⟨by rw [l1, l2, ← lu]; exact hz, out, ep, v1, he'⟩, rfl, q _ _ (by rw [l1, l2, lu]) r1 (I.hok.fresh (Nat.le_succ _))⟩
end
theorem sortD_perm (ds : List PyData) : (sortD ds).Perm ds := List.mergeSort_perm _ _
end Gd
end

section
set_option maxRecDepth 100000
set_option maxHeartbeats 4000000
/-! set(list of whole numbers); a list beside []. -/
namespace Gd
open PySem PySem.Spec PyProof.Rows L2
/-- the set as it is made -/
abbrev nu (w : World) : Obj := { cls := .type "set", dict := none, data := .set #[] 0 (.fresh 0 0 (!w.params.followText "set-order")) }
section
variable {P : Program} {w : World} {A : Around} {E : Value → Shared → Prop} {s : Shared}
/-- what set.__init__ leaves -/
abbrev Fill (w : World) (s : Shared) (ns : List Int) (E : Value → Shared → Prop) : Result → Shared → Prop := wants (fun r z => r = .none ∧ ∃ g k c, z = { s with heap := g, toks := k } ∧ SetR w g s.heap.objs.size (fun j => decide (j ∈ ns)) c ∧ c ≤ ns.length ∧ ∀ b o, s.heap.get? b = some o → g.get? b = some o) E
theorem set_of_ints {l : Addr} {its : Array Value} {ns : List Int} {G : Value → Shared → Prop} (off : A.handled = none) (hl : s.heap.IsList l its) (iv : IntsAre its.toList ns) (few : ns.length + 1 < scanBound)
    (go : ∀ (g : Heap) (k c : Nat), SetR w g s.heap.objs.size (fun j => decide (j ∈ ns)) c → c ≤ ns.length → (∀ b o, s.heap.get? b = some o → g.get? b = some o) → G (.ref s.heap.objs.size) { s with heap := g, toks := k }) :
    wpAny (model P w) A (call (.type "set") [.ref l]) G E s := by
  have n_its : its.size = ns.length := by rw [← iv.length, Array.length_toList]
  have at0 : (s.heap.push (nu w)).get? s.heap.objs.size = some (nu w) := Heap.get?_push_size _ rfl
  have big : (s.heap.push (nu w)).objs.size = s.heap.objs.size + 1 := Heap.size_push ..
  obtain ⟨cm, tm, hmro⟩ := F.called_set.mro
  have k1 := F.called_set.made; have k2 := F.called_set.sub
  refine wpAny_call (codeAny_of_tree (show wpAny _ _ (callAny (.type "set") _) _ _ _ from wpAny_pure ⟨Code.quiet_builtin _ (by decide +kernel), codeAny_builtin F.entry_type_call ?_⟩))
  rw [Around.under_plain (weight_type_call_type "set" [.ref l] []) rfl]
  have k3 := F.called_set.notType; have k4 := F.called_set.canCreate; have k5 := F.typeCall_set_1 (.ref l)
  repeat (any_goals (first | assumption | wp_step))
  refine codeAny_mono (code_set_led1 (.ref l) (E := E) (Q₁ := fun x z => x = .ref s.heap.objs.size ∧ z = { s with heap := s.heap.push (nu w) }) ⟨rfl, rfl⟩) fun r z hr => ?_
  match r, hr with
  | .error e, hr => exact hr
  | .ok (.ret x), hr =>
    obtain ⟨rfl, rfl⟩ := hr
    have ty : Shared.TypeIs { s with heap := s.heap.push (nu w) } (.ref s.heap.objs.size) "set" := ⟨_, at0, rfl⟩
    have k6 := F.called_set.init.lookup; have k7 := F.called_set.init.bind (.ref s.heap.objs.size)
    repeat (any_goals (first | assumption | wp_step))
    refine codeAny_mono (codeAny_call_builtin (R := Fill w s ns E) F.called_set.init.plain F.entry_set_init (check_set_init_1 ty ?_)) fun r2 z2 hr2 => ?_
    · obtain ⟨⟨c0, d0, dt, sl⟩, hol, hc, m, hd⟩ := hl
      simp only at hc hd
      subst hc hd
      have lk := Heap.get?_push_of_some (nu w) hol
      have at1 : (s.heap.push (nu w)).IsList l its := ⟨_, lk, rfl, m, rfl⟩
      have low : l < s.heap.objs.size := Heap.lt_size hol
      have p1 := PySem.F.sub_list_set; have p2 := PySem.F.sub_list_frozenset
      have p3 : (Value.type "list" == Value.type "dict") = false := by decide
      unfold Builtin.«set.__init__» noKeywords Builtin.Frozenset.updateFrom
      generalize hPI : pyIter = PI
      wp_walk
      subst hPI
      refine wpAny_pyIter_list at1 (wpAny_bind (wpAny_runValue ?_))
      have off3 : A.in1.in1.in1.handled = none := by simp [off]
      have apart : l ≠ (s.heap.push (nu w)).objs.size := by rw [big]; exact Nat.ne_of_lt (Nat.lt_succ_of_lt low)
      have mine : s.heap.objs.size ∉ [(s.heap.push (nu w)).objs.size, l] := fun z => by
        rcases List.mem_cons.mp z with z | z
        · exact absurd (z.trans big) (Nat.ne_of_lt (Nat.lt_succ_self _))
        · exact absurd (List.mem_singleton.mp z) (Nat.ne_of_gt low)
      refine set_update_ints ((Walks.list off3 _ l apart its).toS) s.heap.objs.size mine ns n_its few (fun i v hv => ?_) (its.size - 0) 0 _ (by omega) (Nat.zero_le _) ⟨⟨_, Heap.get?_push_size _ rfl, rfl, rfl⟩, at1.push _⟩
        ⟨0, Nat.le_refl 0, setR_new_at (Heap.get?_push_of_some _ at0)⟩ fun z c mv hc hS => ?_
      · obtain ⟨t, e⟩ := iv.int_at i v (by rw [Array.getElem?_toList]; exact hv)
        have hi : i < ns.length := by rw [← n_its]; exact (Array.getElem?_eq_some_iff.mp hv).1
        exact ⟨ns[i], t, List.getElem?_eq_getElem hi, by rw [e, List.getD_eq_getElem?_getD, List.getElem?_eq_getElem hi]; rfl⟩
      · obtain ⟨g, g2, d2, k, o2⟩ := z
        obtain rfl : g2 = s.gens := mv.gens
        obtain rfl : d2 = s.drawn := mv.drawn
        obtain rfl : o2 = s.os := mv.os
        refine wpAny_pure (show wpAny _ _ (ret Value.none) _ _ _ from wpAny_pure ⟨rfl, g, k, c, rfl, hS, by omega, fun b o e => ?_⟩)
        have hb := Heap.lt_size e
        exact mv.heap b o (fun z => by
          rcases List.mem_cons.mp z with z | z
          · exact absurd z (Nat.ne_of_lt hb)
          · exact absurd ((List.mem_singleton.mp z).trans big) (Nat.ne_of_lt (Nat.lt_succ_of_lt hb))) (Heap.get?_push_of_some _ (Heap.get?_push_of_some _ e))
    · match r2, hr2 with
      | .error e, hr2 => exact hr2
      | .ok (.ret x), hr2 =>
        obtain ⟨rfl, g, k, c, rfl, hS, hc, kp⟩ := hr2
        repeat (any_goals (first | assumption | wp_step))
        exact go g k c hS hc kp
end
def rSetI (K : PySem.W.Frag) (w : World) : List V → Hp → VK → Prop := fun xs H Q => ∃ (a : Addr) (ns : List Int), xs = [V.ref a] ∧ SqL K H a (ns.map V.int) ∧ ns.length < 1000 ∧
  ∀ (p : Addr) (c : Nat), H p = none → c ≤ ns.length → Q (.ref p) (upd H p (SetO w p (fun j => decide (j ∈ ns)) c))
/-- l != [] -/
def rNeLE : R2 := fun x y H Q => ∃ a b xs, x = .ref a ∧ y = .ref b ∧ H a = some (.lst xs) ∧ H b = some (.lst []) ∧ Q (.bl (!xs.isEmpty)) H
section
variable {X : Cx} {k : Nat}
theorem cr_setI {K : PySem.W.Frag} {w : World} (hK : X.K = K) (hw : X.w = w) (hc : X.calm = true) : CallR X (.type "set") (rSetI K w) := by
  subst hK hw
  intro pins s σ H xs us Q I r h
  obtain ⟨a, ns, rfl, hs, few, q⟩ := h
  obtain ⟨its, rv, hl, _⟩ := I.list hs
  rw [Vals.ref1 r]
  refine set_of_ints (ns := ns) (I.ok.hd hc) hl.isList (by simpa using rv.ints) (by unfold scanBound; omega) fun g t c R hc' kp => ?_
  exact ⟨.ref _, _, I.laid (t' := t) kp (Nat.le_refl _) (setO_new R), rfl, q _ c (I.hok.fresh (Nat.le_refl _)) hc'⟩
theorem op_neLE (hr : Room k X.A) : OpR X (compareOp .NotEq) rNeLE := by
  intro pins s σ H x y v u Q I rx ry h
  obtain ⟨a, b, xs, rfl, rfl, ha, hb, q⟩ := h
  cases rx
  cases ry
  obtain ⟨its, r1, p1, _⟩ := I.list (.inl (.inl ha))
  obtain ⟨its2, r2, p2, _⟩ := I.list (.inl (.inl hb))
  cases r2
  have un := hr.un
  cases its with
  | nil =>
    cases r1
    exact SeqAt.RcNeAt.lists (e := fun _ => true) p1.isList p2.isList rfl (by omega) (fun j h1 _ => absurd h1 (by simp)) _ _ _ _ ⟨.bl _, H, I, rfl, q⟩
  | cons u us =>
    cases r1
    exact SeqAt.RcNeAt.lists_lengths p1.isList p2.isList (by simp) (by omega) _ _ _ _ ⟨.bl _, H, I, rfl, q⟩
theorem ix_listK {K : PySem.W.Frag} (h : X.K = K) : IxR X (rIxL K) := h ▸ ix_list
theorem ix_tupK {K : PySem.W.Frag} (h : X.K = K) : IxR X (rIxT K) := h ▸ ix_tup
end
end Gd
end

section
set_option maxRecDepth 100000
set_option maxHeartbeats 2000000
/-! isinstance(x, bool); slices of tuples or lists; all(..) over zip of two lists. -/
namespace Gd
open PySem PySem.Spec PyProof.Rows L2 RZ
def isBool : PyData → Bool
  | .bool _ => true
  | _ => false
theorem kit_bool {K : W.Frag} : ∀ d : PyData, W.kitOne K (.type (tyN d)) (.type "bool") = some (isBool d)
  | .none | .bool _ | .int _ | .str _ | .list _ | .tuple _ | .dict _ => by first | rfl | decide +kernel | (unfold W.kitOne; decide +kernel)
section
variable {X : Cx} {k : Nat}
theorem call_isBool : CallR X (.builtin "isinstance") (rIs isBool "bool") := fun pins s σ H xs us Q I r h =>
  let ⟨_, v, d, e, rp, q⟩ := h; call_isi pins s σ H xs us Q I r ⟨v, _, _, _, _, e, .ty _, rp.ty, kit_bool d, q⟩
theorem sl_TL {K : PySem.W.Frag} (h : X.K = K) : SlR X (fun x lo hi H Q => rSlA K x lo hi H Q ∨ rSlL K x lo hi H Q) := h ▸ SlR.or sl_tupA sl_list
end
section
variable {K : PySem.W.Frag} {te0 te : TE} {g : TG} {vs : List Nat} {σ : L2.St} {H : Hp} {Q : VK}
/-- all([.. for x, y in zip(l, m)]), two lists -/
theorem all_zipL {ta : TA} {a : Addr} {xs ys : List V} (b : Nat → Bool) (h0 : ∀ R : List V → Hp → Prop, (∀ a2 H1, Kp [] H H1 → H1 a = some (.lst xs) → H1 a2 = some (.lst ys) → R [.ref a, .ref a2] H1) → ta σ H R) (hn : xs.length ≤ sizeLine)
    (hs : ∀ (m : Nat) x y T H', xs[m]? = some x → ys[m]? = some y → Kp [] H H' → H' T = some (.tup [x, y]) → ∀ Kt : V → Hp → Prop, (∀ H3, Kp [] H' H3 → Kt (.bl (b m)) H3) → g (.ref T) (wipe σ vs) H' fun σ2 H2 => wipe σ2 vs = wipe σ vs ∧ te σ2 H2 Kt)
    (q : ∀ H', Kp [] H H' → Q (.bl (((List.range (min xs.length ys.length)).map b).all id)) H') : tCB (rAll K) (tCons (tLc (iZipA K ta) g tYes te vs) tNil) σ H Q := by
  refine h0 _ fun a2 H1 k1 ha hb => ⟨a, a2, xs, ys, rfl, .inl ⟨.inl (.inl ha), .inl (.inl hb), fun D hD => ?_⟩⟩
  refine lc_bools (walk_zip (K := K) (a := a) (b := a2) (xs := xs) (ys := ys) rfl) (by omega) hD b (fun H' k => ⟨.inl (.inl (k a _ List.not_mem_nil ha)), .inl (.inl (k a2 _ List.not_mem_nil hb))⟩) (fun i x H' H2 hi k y Kt q => ?_) fun H' k e => ?_
  · obtain ⟨T, x, y, rfl, nT, rfl, ex, ey⟩ := y
    exact hs i x y T _ ex ey ((k1.trans k).trans (Kp.new nT)) upd_same Kt fun H3 k3 => q H3 ((Kp.new nT).trans k3)
  · exact ⟨D, _, rfl, .inl (.inl (map_bl _ _ ▸ e)), q H' (k1.trans k)⟩
end
section
variable {J : It} {n : Nat} {G : Hp → Prop} {Y : Nat → Hp → V → Hp → Prop} {g : TG} {te : TE} {vs : List Nat} {σ : L2.St} {H1 : Hp} {D : Addr} {Qd : Hp → Prop} {M : List Addr}
/-- the i-th item reads as e i -/
theorem lc_mapD (w : Walk J n G Y) (hn : n ≤ sizeLine) (hD : H1 D = none) (e : Nat → PyData) (hG : ∀ H, Kp [] H1 H → G H)
    (hs : ∀ i x H H', i < n → Kp [] H1 H → (∃ o, H D = some o) → Y i H x H' → ∀ Kt : V → Hp → Prop, (∀ y H4, Kp [] H H4 → Rep (D :: M) H4 y (e i) → Kt y H4) → g x (wipe σ vs) H' fun σ2 H2 => wipe σ2 vs = wipe σ vs ∧ te σ2 H2 Kt)
    (hd : ∀ acc H, Kp [] H1 H → H D = some (.lst acc) → Reps (D :: M) H acc ((List.range n).map e) → Qd H) :
    ∃ W : Nat → Nat → Hp → Prop, (∃ m, W 0 m (upd H1 D (.lst []))) ∧ ∀ i m H, W i m H →
      (J.stop i H ∧ Qd H) ∨ (J.go i H ∧ ∃ Nx : Hp → Prop, (∀ H', Nx H' → ∃ m', m' < m ∧ W (i + 1) m' H') ∧ ∀ x H', J.yld i H x H' → g x (wipe σ vs) H' fun σ2 H2 => wipe σ2 vs = wipe σ vs ∧ tYes σ2 H2 fun b H3 =>
        if b = true then te σ2 H3 fun y H4 => ∃ acc, H4 D = some (.lst acc) ∧ acc.length < sizeLine ∧ Nx (upd H4 D (.lst (acc ++ [y]))) else Nx H3) := by
  refine lc_by w hn (fun i acc H => Kp [] H1 H ∧ H D = some (.lst acc) ∧ Reps (D :: M) H acc ((List.range i).map e)) ⟨Kp.new hD, upd_same, .nil⟩ (fun i acc H _ p => hG H p.1) (fun i acc H p => ⟨by rw [p.2.2.length]; simp, p.2.1⟩) (fun i acc x H H' hi p y Kt q => ?_) fun acc H p => hd acc H p.1 p.2.1 p.2.2
  obtain ⟨k, ed, r⟩ := p
  refine hs i x H H' hi k ⟨_, ed⟩ y Kt fun y H4 k4 ry => ?_
  have e4 := k4 D _ List.not_mem_nil ed
  have kp : Kp (D :: M) H4 (upd H4 D (.lst (acc ++ [y]))) := Kp.put List.mem_cons_self
  refine q _ H4 e4 ⟨fun c o nc ec => ?_, upd_same, ?_⟩
  · rw [upd_ne (ne_of_none ec hD)]
    exact k4 c o nc (k c o nc ec)
  · rw [List.range_succ, List.map_append]
    exact ((r.keep k4.same).append (.cons ry .nil)).keep kp
end
theorem map_at {α : Type} (f : PyData → α) : ∀ xs : List PyData, ((List.range xs.length).map fun m => f (xs.getD m .none)) = xs.map f
  | [] => rfl
  | x :: r => by
    rw [List.length_cons, List.range_succ_eq_map, List.map_cons, List.map_map, List.map_cons, ← map_at f r]
    rfl
end Gd
end

section
set_option maxRecDepth 100000
set_option maxHeartbeats 2000000
/-! a text times a number, tuple(range(n)), all(..) over a list. -/
namespace Gd
open PySem PySem.Spec PyProof.Rows L2
def rMulS : R2 := fun x y H Q => ∃ z n, x = .str z ∧ y = .int n ∧ MulOk z n ∧ Q (.str (Txt.mul z n)) H
section
variable {X : Cx}
theorem op_mulS : OpR X (binaryOp .Mult) rMulS := by
  intro pins s σ H x y v u Q I rx ry h
  obtain ⟨z, n, rfl, rfl, ok, q⟩ := h
  obtain ⟨t, rfl⟩ := rx
  obtain ⟨t2, rfl⟩ := ry
  exact SB.mul ok fun t' k => ⟨.str _, H, I.tok k, ⟨t', rfl⟩, q⟩
end
section
variable {M : List Addr} {σ : L2.St} {H : Hp}
theorem ev_mulS {z : Str} {n : Int} (ok : MulOk z n) : EvE M (tOp rMulS (tC (.str z)) (tC (.int n))) σ H (.str (Txt.mul z n)) := fun H1 k R q => ⟨z, n, rfl, rfl, ok, q _ H1 .refl (.str _)⟩
theorem rg_reps {Hz : Hp} : ∀ r : List Nat, Reps M Hz (r.map fun i => V.int (0 + (i : Nat))) ((r.map fun i => (0 + (i : Nat) : Int)).map .int)
  | [] => .nil
  | _ :: r => .cons (.int _) (rg_reps r)
theorem ev_tupRg {n : Int} (l : Live M H) (h0 : 0 ≤ n) (h1 : n ≤ 1000) : EvE M (tTupRg (tRg1 (tC (.int n)))) σ H (.tuple (((List.range n.toNat).map fun i => (0 + (i : Nat) : Int)).map .int)) := fun H1 k R q =>
  ⟨n, rfl, RgOk.of_le (by decide) (by omega) (by decide) h0, fun p hp => q _ _ (Kp.new hp) (.tup ((l.grow k).fresh hp) upd_same (by
    unfold rgV
    rw [Int.sub_zero]
    exact rg_reps _))⟩
end
section
variable {K : PySem.W.Frag} {te0 te : TE} {g : TG} {vs : List Nat} {σ : L2.St} {H : Hp} {Q : VK}
/-- all([.. for x in l]), l a list -/
theorem all_list {a : Addr} {xs : List V} (b : Nat → Bool) (h0 : ∀ R : V → Hp → Prop, R (.ref a) H → te0 σ H R) (ha : H a = some (.lst xs)) (hn : xs.length ≤ sizeLine)
    (hs : ∀ (m : Nat) x H', xs[m]? = some x → Kp [] H H' → ∀ Kt : V → Hp → Prop, (∀ H3, Kp [] H' H3 → Kt (.bl (b m)) H3) → g x (wipe σ vs) H' fun σ2 H2 => wipe σ2 vs = wipe σ vs ∧ te σ2 H2 Kt)
    (q : ∀ H', Kp [] H H' → Q (.bl (((List.range xs.length).map b).all id)) H') : tCB (rAll K) (tCons (tLc (iList K te0) g tYes te vs) tNil) σ H Q := by
  refine h0 _ ⟨a, rfl, ⟨xs, .inl (.inl ha)⟩, fun D hD => ?_⟩
  refine lc_bools (walk_list (K := K) (a := a) (xs := xs)) hn hD b (fun H' k => .inl (.inl (k a _ List.not_mem_nil ha))) (fun i x H' H2 hi k y Kt q => ?_) fun H' k e => ?_
  · obtain ⟨rfl, ex⟩ := y
    exact hs i x _ ex k Kt q
  · exact ⟨D, _, rfl, .inl (.inl (map_bl _ _ ▸ e)), q H' k⟩
end
section
variable {K : PySem.W.Frag} {te : TE} {ta : TA} {g : TG} {vs : List Nat} {σ : L2.St} {H : Hp} {Q : VK} {M : List Addr} {P : PyData → Prop} {ds : List PyData}
/-- [.. for x in (a, b, ..)] -/
theorem lc_dispD (ev : EvL M ta σ H ds) (hl : ds.length ≤ 1000)
    (hs : ∀ (m : Nat) x d D H', ds[m]? = some d → Rep (D :: M) H' x d → Kp [] H H' → H D = none → (∃ o, H' D = some o) → ∀ Kt : V → Hp → Prop, (∀ y e H3, Kp [] H' H3 → Rep (D :: M) H3 y e → P e → Kt y H3) → g x (wipe σ vs) H' fun σ2 H2 => wipe σ2 vs = wipe σ vs ∧ te σ2 H2 Kt)
    (q : ∀ D acc es H', Kp [] H H' → H D = none → H' D = some (.lst acc) → acc.length = ds.length → Reps (D :: M) H' acc es → (∀ d ∈ es, P d) → Q (.ref D) H') : tLc (iTup K (tTup ta)) g tYes te vs σ H Q := by
  refine ev.run fun us H2 k2 r2 => ?_
  have lu := r2.length
  refine ⟨by rw [lu, sizeLine_eq]; omega, fun t ht => ⟨t, rfl, ⟨us, .inl (.inl upd_same)⟩, fun D hD => ?_⟩⟩
  have k3 : Kp [] H (upd H2 t (.tup us)) := k2.trans (Kp.new ht)
  have et : (upd H2 t (.tup us)) t = some (.tup us) := upd_same
  have r3 := r2.keep (Kp.new ht (M := M) (o := .tup us))
  generalize upd H2 t (.tup us) = H3 at k3 et r3 hD
  have nD : H D = none := by
    cases c : H D with
    | none => rfl
    | some o => have := k3 D o List.not_mem_nil c; rw [hD] at this; cases this
  refine lc_data (M := M) (P := P) (walk_tup (K := K) (a := t) (xs := us)) (by rw [lu, sizeLine_eq]; omega) hD (fun H' k => .inl (.inl (k t _ List.not_mem_nil et))) (fun i x H' H4 hi k eD y Kt q => ?_) fun acc es H' k e l r h => q D acc es H' (k3.trans k) nD e (by rw [l, lu]) r h
  obtain ⟨rfl, ex⟩ := y
  obtain ⟨d, ed, rd⟩ := r3.at ex
  exact hs i x d D _ ed ((rd.more hD).keep k.same) (k3.trans k) nD eD Kt q
end
end Gd
end

section
set_option maxRecDepth 100000
set_option maxHeartbeats 2000000
/-! Readings over data: what the slots hold and what lists and dicts that may change contain, without addresses. -/
namespace Ab
open PySem PySem.Spec PyProof.Rows L2 Gd
/-- data; a list or dict that may change, by its number; a pair with such; a list of data that stays as it is -/
inductive AV where
  | im (d : PyData) | mu (i : Nat) | pr (x y : AV) | wl (xs : List PyData)
inductive Cell where
  | lst (xs : List AV) | dk (kvs : List (Key × AV)) | dt (kvs : List (List Key × AV))
  /-- a dict while it is walked -/
  | fz (o : Obj) (us : List (Key × V)) (kvs : List (Key × AV))
abbrev Store := List Cell
abbrev Slots := List (Option AV)
/-- N: lists that others are making -/
def RV (n : Nat) (N M : List Addr) (H : Hp) : V → AV → Prop
  | v, .im d => Rep (M ++ N) H v d
  | v, .mu i => i < n ∧ ∃ a, M[i]? = some a ∧ v = .ref a
  | v, .pr x y => ∃ a u w, v = .ref a ∧ a ∉ M ++ N ∧ H a = some (.tup [u, w]) ∧ RV n N M H u x ∧ RV n N M H w y
  | v, .wl xs => ∃ a us, v = .ref a ∧ a ∉ M ++ N ∧ H a = some (.lst us) ∧ Reps (M ++ N) H us xs
abbrev RVs (n : Nat) (N M : List Addr) (H : Hp) : List V → List AV → Prop := Paired (RV n N M H)
abbrev RKs {κ : Type} (n : Nat) (N M : List Addr) (H : Hp) : List (κ × V) → List (κ × AV) → Prop := Paired fun p q => p.1 = q.1 ∧ RV n N M H p.2 q.2
def RC (n : Nat) (N M : List Addr) (H : Hp) (a : Addr) : Cell → Prop
  | .lst xs => ∃ us, H a = some (.lst us) ∧ RVs n N M H us xs
  | .dk kvs => ∃ us, H a = some (.dK us) ∧ RKs n N M H us kvs
  | .dt kvs => ∃ us, H a = some (.dT us) ∧ RKs n N M H us kvs
  | .fz o us kvs => H a = some (.frz o (.dK us)) ∧ RKs n N M H us kvs
structure Rel (N M : List Addr) (H : Hp) (m : Store) : Prop where
  nd : M.Nodup
  len : M.length = m.length
  cell : ∀ i a c, M[i]? = some a → m[i]? = some c → RC i N M H a c
  there : ∀ a ∈ N, ∃ o, H a = some o
def SR (N M : List Addr) (H : Hp) (σ : L2.St) (ρ : Slots) : Prop := σ.length = ρ.length ∧ ∀ (i : Nat) (d : AV), ρ[i]? = some (some d) → ∃ v : V, σ[i]? = some (some v) ∧ RV M.length N M H v d
/-- later: more lists that may change, all else as it was -/
structure Ext (M : List Addr) (H : Hp) (M' : List Addr) (H' : Hp) : Prop where
  pre : M <+: M'
  kp : Kp M H H'
  new : ∀ a, a ∈ M' → a ∉ M → H a = none
section
variable {N M M' M1 M2 : List Addr} {H H' H1 H2 : Hp} {m : Store} {n : Nat}
theorem Ext.refl : Ext M H M H := ⟨List.prefix_refl _, .refl, fun _ a b => absurd a b⟩
theorem Ext.sub (e : Ext M H M' H') : ∀ a ∈ M, a ∈ M' := fun a h => e.pre.subset h
theorem Ext.none (e : Ext M H M1 H1) {a : Addr} (n : a ∉ M) (h : H1 a = none) : H a = none := by
  cases c : H a with
  | none => rfl
  | some o => rw [e.kp a o n c] at h; cases h
theorem Ext.trans (e : Ext M H M1 H1) (f : Ext M1 H1 M2 H2) : Ext M H M2 H2 := by
  refine ⟨e.pre.trans f.pre, fun b o nb hb => ?_, fun a h1 h2 => ?_⟩
  · refine f.kp b o (fun z => ?_) (e.kp b o nb hb)
    have := e.new b z nb
    rw [this] at hb; cases hb
  · by_cases c : a ∈ M1
    · exact e.new a c h2
    · exact e.none h2 (f.new a h1 c)
theorem Ext.len (e : Ext M H M' H') : M.length ≤ M'.length := e.pre.length_le
theorem Ext.get (e : Ext M H M' H') {i : Nat} {a : Addr} (h : M[i]? = some a) : M'[i]? = some a := by
  obtain ⟨t, rfl⟩ := e.pre
  rw [List.getElem?_append_left (List.getElem?_eq_some_iff.mp h).1]; exact h
theorem Ext.out (e : Ext M H M' H') {b : Addr} {o : HO} (hb : H b = some o) (nb : b ∉ M ++ N) : b ∉ M' ++ N := fun z => by
  rcases List.mem_append.mp z with z | z
  · have := e.new b z fun q => nb (List.mem_append_left _ q)
    rw [this] at hb; cases hb
  · exact nb (List.mem_append_right _ z)
theorem Rep.ext {v : V} {d : PyData} (e : Ext M H M' H') (r : Rep (M ++ N) H v d) : Rep (M' ++ N) H' v d := by
  have r2 : Rep (M' ++ N) H v d := Gd.Rep.swap (fun b o hb nb => e.out hb nb) r
  exact Gd.Rep.keep (fun b o hb eb => e.kp b o (fun z => hb (List.mem_append_left _ (e.sub b z))) eb) r2
theorem Reps.ext {v : List V} {d : List PyData} (e : Ext M H M' H') (r : Reps (M ++ N) H v d) : Reps (M' ++ N) H' v d := by
  have r2 : Reps (M' ++ N) H v d := Gd.Reps.swap (fun b o hb nb => e.out hb nb) r
  exact Gd.Reps.keep (fun b o hb eb => e.kp b o (fun z => hb (List.mem_append_left _ (e.sub b z))) eb) r2
theorem RV.ext (e : Ext M H M' H') : ∀ {v : V} {d : AV}, RV n N M H v d → RV n N M' H' v d
  | _, .im _, r => Rep.ext e r
  | _, .mu _, ⟨h, a, h1, h2⟩ => ⟨h, a, e.get h1, h2⟩
  | _, .pr x y, ⟨a, u, w, h1, h2, h3, r1, r2⟩ => by
    exact ⟨a, u, w, h1, e.out h3 h2, e.kp a _ (fun z => h2 (List.mem_append_left _ z)) h3, r1.ext e, r2.ext e⟩
  | _, .wl _, ⟨a, us, h1, h2, h3, r⟩ => ⟨a, us, h1, e.out h3 h2, e.kp a _ (fun z => h2 (List.mem_append_left _ z)) h3, Reps.ext e r⟩
theorem RV.up {k : Nat} (h : n ≤ k) : ∀ {v : V} {d : AV}, RV n N M H v d → RV k N M H v d
  | _, .im _, r => r
  | _, .mu _, ⟨h0, r⟩ => ⟨by omega, r⟩
  | _, .pr x y, ⟨a, u, w, h1, h2, h3, r1, r2⟩ => ⟨a, u, w, h1, h2, h3, r1.up h, r2.up h⟩
  | _, .wl _, r => r
theorem RV.extL (e : Ext M H M' H') {v : V} {d : AV} (r : RV M.length N M H v d) : RV M'.length N M' H' v d := (r.ext e).up e.len
theorem pair_imp {α β : Type} {F G : α → β → Prop} (h : ∀ a b, F a b → G a b) : ∀ {xs : List α} {ys : List β}, Paired F xs ys → Paired G xs ys
  | _, _, .nil => .nil
  | _, _, .cons r t => .cons (h _ _ r) (pair_imp h t)
theorem pair_len {α β : Type} {F : α → β → Prop} : ∀ {xs : List α} {ys : List β}, Paired F xs ys → xs.length = ys.length
  | _, _, .nil => rfl
  | _, _, .cons _ t => by simp [pair_len t]
theorem pair_at {α β : Type} {F : α → β → Prop} : ∀ {xs : List α} {ys : List β} {i : Nat} {y : β}, Paired F xs ys → ys[i]? = some y → ∃ x, xs[i]? = some x ∧ F x y
  | _, _, _, _, .nil, e => by simp at e
  | _, _, 0, _, .cons r _, e => by simp at e; exact ⟨_, rfl, e ▸ r⟩
  | _, _, i + 1, _, .cons _ r, e => pair_at (i := i) r (by simpa using e)
theorem pair_at' {α β : Type} {F : α → β → Prop} : ∀ {xs : List α} {ys : List β} {i : Nat} {x : α}, Paired F xs ys → xs[i]? = some x → ∃ y, ys[i]? = some y ∧ F x y
  | _, _, _, _, .nil, e => by simp at e
  | _, _, 0, _, .cons r _, e => by simp at e; exact ⟨_, rfl, e ▸ r⟩
  | _, _, i + 1, _, .cons _ r, e => pair_at' (i := i) r (by simpa using e)
theorem pair_app {α β : Type} {F : α → β → Prop} : ∀ {xs zs : List α} {ys ws : List β}, Paired F xs ys → Paired F zs ws → Paired F (xs ++ zs) (ys ++ ws)
  | _, _, _, _, .nil, s => s
  | _, _, _, _, .cons r t, s => .cons r (pair_app t s)
theorem RVs.ext (e : Ext M H M' H') {vs : List V} {ds : List AV} (r : RVs n N M H vs ds) : RVs n N M' H' vs ds := pair_imp (fun _ _ r => r.ext e) r
theorem RVs.extL (e : Ext M H M' H') {vs : List V} {ds : List AV} (r : RVs M.length N M H vs ds) : RVs M'.length N M' H' vs ds := pair_imp (fun _ _ r => r.extL e) r
theorem SR.ext (e : Ext M H M' H') {σ : L2.St} {ρ : Slots} (r : SR N M H σ ρ) : SR N M' H' σ ρ := ⟨r.1, fun i d h => let ⟨v, h1, h2⟩ := r.2 i d h; ⟨v, h1, h2.extL e⟩⟩
theorem RC.ext (e : Ext M H M' H') {a : Addr} (k : ∀ o, H a = some o → H' a = some o) : ∀ {c : Cell}, RC n N M H a c → RC n N M' H' a c
  | .lst _, ⟨us, h1, h2⟩ => ⟨us, k _ h1, pair_imp (fun _ _ r => r.ext e) h2⟩
  | .dk _, ⟨us, h1, h2⟩ => ⟨us, k _ h1, pair_imp (fun _ _ r => ⟨r.1, r.2.ext e⟩) h2⟩
  | .dt _, ⟨us, h1, h2⟩ => ⟨us, k _ h1, pair_imp (fun _ _ r => ⟨r.1, r.2.ext e⟩) h2⟩
  | .fz _ _ _, ⟨h1, h2⟩ => ⟨k _ h1, pair_imp (fun _ _ r => ⟨r.1, r.2.ext e⟩) h2⟩
theorem Rel.of (R : Rel N M H m) {i : Nat} {c : Cell} (h : m[i]? = some c) : ∃ a, M[i]? = some a ∧ RC i N M H a c := by
  have hi := (List.getElem?_eq_some_iff.mp h).1
  have : i < M.length := by rw [R.len]; exact hi
  exact ⟨M[i], List.getElem?_eq_getElem this, R.cell i _ c (List.getElem?_eq_getElem this) h⟩
theorem RC.has {a : Addr} : ∀ {c : Cell}, RC n N M H a c → ∃ o, H a = some o
  | .lst _, ⟨_, h, _⟩ => ⟨_, h⟩
  | .dk _, ⟨_, h, _⟩ => ⟨_, h⟩
  | .dt _, ⟨_, h, _⟩ => ⟨_, h⟩
  | .fz _ _ _, ⟨h, _⟩ => ⟨_, h⟩
theorem Rel.liveM (R : Rel N M H m) : Live M H := fun b hb => by
  obtain ⟨i, hi, e⟩ := List.mem_iff_getElem.mp hb
  have hi' : i < m.length := by rw [← R.len]; exact hi
  exact (R.cell i b m[i] (by rw [List.getElem?_eq_getElem hi, e]) (List.getElem?_eq_getElem hi')).has
theorem Rel.live (R : Rel N M H m) : Live (M ++ N) H := fun b hb => (List.mem_append.mp hb).elim (R.liveM b) (R.there b)
/-- something new that does not change -/
theorem Ext.alloc {p : Addr} {o : HO} (h : H p = Option.none) : Ext M H M (upd H p o) := ⟨List.prefix_refl _, Kp.new h, fun _ a b => absurd a b⟩
theorem Rel.kept (R : Rel N M H m) (k : ∀ b o, H b = some o → H' b = some o) : Rel N M H' m ∧ Ext M H M H' := by
  have e : Ext M H M H' := ⟨List.prefix_refl _, fun b o _ h => k b o h, fun _ a b => absurd a b⟩
  exact ⟨⟨R.nd, R.len, fun i a c h1 h2 => (R.cell i a c h1 h2).ext e fun o => k a o, fun a ha => let ⟨o, h⟩ := R.there a ha; ⟨o, k a o h⟩⟩, e⟩
theorem Rel.alloc (R : Rel N M H m) {p : Addr} {o : HO} (h : H p = Option.none) : Rel N M (upd H p o) m := (R.kept fun b x hb => by rw [upd_ne (ne_of_none hb h)]; exact hb).1
theorem nodup_snoc {α : Type} {l : List α} {a : α} (h : l.Nodup) (n : a ∉ l) : (l ++ [a]).Nodup := by
  rw [List.nodup_append]
  exact ⟨h, by simp, fun x hx y hy => by rw [List.mem_singleton.mp hy]; exact fun z => n (z ▸ hx)⟩
theorem getD_snoc {α : Type} {l : List α} {a x : α} {i : Nat} (h : (l ++ [a])[i]? = some x) : l[i]? = some x ∨ (i = l.length ∧ x = a) := by
  by_cases c : i < l.length
  · rw [List.getElem?_append_left c] at h; exact .inl h
  · rw [List.getElem?_append_right (by omega)] at h
    have : i - l.length = 0 := by
      by_cases z : i - l.length = 0
      · exact z
      · rw [List.getElem?_eq_none (by simp; omega)] at h; cases h
    rw [this] at h
    simp at h
    exact .inr ⟨by omega, h.symm⟩
/-- a new list or dict that may change -/
theorem Rel.grow (R : Rel N M H m) {p : Addr} {o : HO} {c : Cell} (h : H p = Option.none) (rc : RC m.length N (M ++ [p]) (upd H p o) p c) : Rel N (M ++ [p]) (upd H p o) (m ++ [c]) ∧ Ext M H (M ++ [p]) (upd H p o) := by
  have np : p ∉ M := R.liveM.fresh h
  have e : Ext M H (M ++ [p]) (upd H p o) := ⟨List.prefix_append _ _, Kp.new h, fun a h1 h2 => by
    rcases List.mem_append.mp h1 with z | z
    · exact absurd z h2
    · rw [List.mem_singleton.mp z]; exact h⟩
  refine ⟨⟨nodup_snoc R.nd np, by simp [R.len], fun i a c' h1 h2 => ?_, fun a ha => let ⟨x, hx⟩ := R.there a ha; ⟨x, by rw [upd_ne (ne_of_none hx h)]; exact hx⟩⟩, e⟩
  rcases getD_snoc h1 with g1 | ⟨g1, g2⟩
  · rcases getD_snoc h2 with g3 | ⟨g3, g4⟩
    · have rc' := R.cell i a c' g1 g3
      refine rc'.ext e fun x hx => ?_
      rw [upd_ne (ne_of_none hx h)]; exact hx
    · have := (List.getElem?_eq_some_iff.mp g1).1
      rw [R.len] at this; omega
  · rcases getD_snoc h2 with g3 | ⟨g3, g4⟩
    · have := (List.getElem?_eq_some_iff.mp g3).1
      rw [R.len] at g1; omega
    · subst g2 g4
      rw [g3]
      exact rc
/-- a change -/
theorem Rel.put (R : Rel N M H m) {i : Nat} {a : Addr} {o : HO} {c : Cell} (h : M[i]? = some a) (rc : RC i N M (upd H a o) a c) : Rel N M (upd H a o) (m.set i c) ∧ Ext M H M (upd H a o) := by
  have ha : a ∈ M := List.mem_of_getElem? h
  have e : Ext M H M (upd H a o) := ⟨List.prefix_refl _, Kp.put ha, fun _ x y => absurd x y⟩
  refine ⟨⟨R.nd, by rw [List.length_set]; exact R.len, fun j b c' h1 h2 => ?_, fun b hb => ?_⟩, e⟩
  rotate_left
  · by_cases z : b = a
    · exact ⟨o, by rw [z, upd_same]⟩
    · let ⟨x, hx⟩ := R.there b hb
      exact ⟨x, by rw [upd_ne z]; exact hx⟩
  by_cases z : j = i
  · subst z
    rw [h] at h1
    cases h1
    have hj := (List.getElem?_eq_some_iff.mp h).1
    rw [List.getElem?_set_self (by rw [← R.len]; exact hj)] at h2
    cases h2
    exact rc
  · rw [List.getElem?_set_ne (Ne.symm z)] at h2
    have ne : b ≠ a := fun q => z (by
      subst q
      exact (List.getElem?_inj (List.getElem?_eq_some_iff.mp h1).1 R.nd).mp (h1.trans h.symm))
    exact (R.cell j b c' h1 h2).ext e fun x hx => by rw [upd_ne ne]; exact hx
theorem RV.cut {k : Nat} (h : n ≤ k) : ∀ {v : V} {d : AV}, RV n N M H v d → RV n N (M.take k) H v d
  | _, .im _, r => Gd.Rep.less (fun b z => (List.mem_append.mp z).elim (fun z => List.mem_append_left _ (List.mem_of_mem_take z)) (List.mem_append_right _)) r
  | _, .mu _, ⟨h0, a, h1, h2⟩ => ⟨h0, a, by rw [List.getElem?_take_of_lt (by omega)]; exact h1, h2⟩
  | _, .pr x y, ⟨a, u, w, h1, h2, h3, r1, r2⟩ => ⟨a, u, w, h1, fun z => h2 ((List.mem_append.mp z).elim (fun z => List.mem_append_left _ (List.mem_of_mem_take z)) (List.mem_append_right _)), h3, r1.cut h, r2.cut h⟩
  | _, .wl _, ⟨a, us, h1, h2, h3, r⟩ => ⟨a, us, h1, fun z => h2 ((List.mem_append.mp z).elim (fun z => List.mem_append_left _ (List.mem_of_mem_take z)) (List.mem_append_right _)), h3, Gd.Reps.less (fun b z => (List.mem_append.mp z).elim (fun z => List.mem_append_left _ (List.mem_of_mem_take z)) (List.mem_append_right _)) r⟩
theorem RC.cut {k : Nat} (h : n ≤ k) {a : Addr} : ∀ {c : Cell}, RC n N M H a c → RC n N (M.take k) H a c
  | .lst _, ⟨us, h1, h2⟩ => ⟨us, h1, pair_imp (fun _ _ r => r.cut h) h2⟩
  | .dk _, ⟨us, h1, h2⟩ => ⟨us, h1, pair_imp (fun _ _ r => ⟨r.1, r.2.cut h⟩) h2⟩
  | .dt _, ⟨us, h1, h2⟩ => ⟨us, h1, pair_imp (fun _ _ r => ⟨r.1, r.2.cut h⟩) h2⟩
  | .fz _ _ _, ⟨h1, h2⟩ => ⟨h1, pair_imp (fun _ _ r => ⟨r.1, r.2.cut h⟩) h2⟩
/-- the later ones are forgotten -/
theorem Rel.cut (R : Rel N M H m) (k : Nat) : Rel N (M.take k) H (m.take k) := by
  refine ⟨R.nd.sublist (List.take_sublist _ _), by simp [R.len], fun i a c h1 h2 => ?_, R.there⟩
  by_cases z : i < k
  · rw [List.getElem?_take_of_lt z] at h1 h2
    exact (R.cell i a c h1 h2).cut (by omega)
  · rw [List.getElem?_take_eq_none (by omega)] at h1; cases h1
theorem RV.less {N' : List Addr} (h : ∀ b ∈ N', b ∈ N) : ∀ {v : V} {d : AV}, RV n N M H v d → RV n N' M H v d
  | _, .im _, r => Gd.Rep.less (fun b z => (List.mem_append.mp z).elim (List.mem_append_left _) fun z => List.mem_append_right _ (h b z)) r
  | _, .mu _, r => r
  | _, .pr x y, ⟨a, u, w, h1, h2, h3, r1, r2⟩ => ⟨a, u, w, h1, fun z => h2 ((List.mem_append.mp z).elim (List.mem_append_left _) fun z => List.mem_append_right _ (h a z)), h3, r1.less h, r2.less h⟩
  | _, .wl _, ⟨a, us, h1, h2, h3, r⟩ => ⟨a, us, h1, fun z => h2 ((List.mem_append.mp z).elim (List.mem_append_left _) fun z => List.mem_append_right _ (h a z)), h3, Gd.Reps.less (fun b z => (List.mem_append.mp z).elim (List.mem_append_left _) fun z => List.mem_append_right _ (h b z)) r⟩
theorem RV.hide {p : Addr} {o : HO} (hp : H p = Option.none) : ∀ {v : V} {d : AV}, RV n N M H v d → RV n (p :: N) M (upd H p o) v d
  | _, .im _, r => by
    have r2 : Rep (M ++ p :: N) H _ _ := Gd.Rep.swap (fun b x hb nb z => (List.mem_append.mp z).elim (fun z => nb (List.mem_append_left _ z)) fun z => (List.mem_cons.mp z).elim (fun z => by rw [z, hp] at hb; cases hb) fun z => nb (List.mem_append_right _ z)) r
    exact r2.keep (Kp.new hp)
  | _, .mu _, r => r
  | _, .pr x y, ⟨a, u, w, h1, h2, h3, r1, r2⟩ => ⟨a, u, w, h1, fun z => (List.mem_append.mp z).elim (fun z => h2 (List.mem_append_left _ z)) fun z => (List.mem_cons.mp z).elim (fun z => by rw [z, hp] at h3; cases h3) fun z => h2 (List.mem_append_right _ z), by rw [upd_ne (ne_of_none h3 hp)]; exact h3, r1.hide hp, r2.hide hp⟩
  | _, .wl _, ⟨a, us, h1, h2, h3, r⟩ => by
    have r2 : Reps (M ++ p :: N) H us _ := Gd.Reps.swap (fun b x hb nb z => (List.mem_append.mp z).elim (fun z => nb (List.mem_append_left _ z)) fun z => (List.mem_cons.mp z).elim (fun z => by rw [z, hp] at hb; cases hb) fun z => nb (List.mem_append_right _ z)) r
    exact ⟨a, us, h1, fun z => (List.mem_append.mp z).elim (fun z => h2 (List.mem_append_left _ z)) fun z => (List.mem_cons.mp z).elim (fun z => by rw [z, hp] at h3; cases h3) fun z => h2 (List.mem_append_right _ z), by rw [upd_ne (ne_of_none h3 hp)]; exact h3, r2.keep (Kp.new hp)⟩
/-- a change of a hidden list -/
theorem RV.hid {p : Addr} {o : HO} (hp : p ∈ N) : ∀ {v : V} {d : AV}, RV n N M H v d → RV n N M (upd H p o) v d
  | _, .im _, r => Gd.Rep.keep (Kp.put (List.mem_append_right _ hp)) r
  | _, .mu _, r => r
  | _, .pr x y, ⟨a, u, w, h1, h2, h3, r1, r2⟩ => ⟨a, u, w, h1, h2, by rw [upd_ne (fun z : a = p => h2 (List.mem_append_right _ (by rw [z]; exact hp)))]; exact h3, r1.hid hp, r2.hid hp⟩
  | _, .wl _, ⟨a, us, h1, h2, h3, r⟩ => ⟨a, us, h1, h2, by rw [upd_ne (fun z : a = p => h2 (List.mem_append_right _ (by rw [z]; exact hp)))]; exact h3, Gd.Reps.keep (Kp.put (List.mem_append_right _ hp)) r⟩
theorem RC.map {N' : List Addr} {a a' : Addr} (f : ∀ v d, RV n N M H v d → RV n N' M' H' v d) (k : ∀ o, H a = some o → H' a = some o) : ∀ {c : Cell}, RC n N M H a c → RC n N' M' H' a c
  | .lst _, ⟨us, h1, h2⟩ => ⟨us, k _ h1, pair_imp (fun _ _ r => f _ _ r) h2⟩
  | .dk _, ⟨us, h1, h2⟩ => ⟨us, k _ h1, pair_imp (fun _ _ r => ⟨r.1, f _ _ r.2⟩) h2⟩
  | .dt _, ⟨us, h1, h2⟩ => ⟨us, k _ h1, pair_imp (fun _ _ r => ⟨r.1, f _ _ r.2⟩) h2⟩
  | .fz _ _ _, ⟨h1, h2⟩ => ⟨k _ h1, pair_imp (fun _ _ r => ⟨r.1, f _ _ r.2⟩) h2⟩
theorem Rel.less {p : Addr} (R : Rel (p :: N) M H m) : Rel N M H m := ⟨R.nd, R.len, fun i a c h1 h2 => (R.cell i a c h1 h2).map (a' := a) (fun _ _ r => r.less fun b z => List.mem_cons_of_mem _ z) (fun _ h => h), fun a ha => R.there a (List.mem_cons_of_mem _ ha)⟩
theorem Rel.hide {p : Addr} {o : HO} (hp : H p = Option.none) (R : Rel N M H m) : Rel (p :: N) M (upd H p o) m :=
  ⟨R.nd, R.len, fun i a c h1 h2 => (R.cell i a c h1 h2).map (a' := a) (fun _ _ r => r.hide hp) fun x hx => by rw [upd_ne (ne_of_none hx hp)]; exact hx,
    fun a ha => (List.mem_cons.mp ha).elim (fun z => ⟨o, by rw [z, upd_same]⟩) fun z => let ⟨x, hx⟩ := R.there a z; ⟨x, by rw [upd_ne (ne_of_none hx hp)]; exact hx⟩⟩
theorem Rel.hid {p : Addr} {o : HO} (hp : p ∈ N) (np : p ∉ M) (R : Rel N M H m) : Rel N M (upd H p o) m :=
  ⟨R.nd, R.len, fun i a c h1 h2 => (R.cell i a c h1 h2).map (a' := a) (fun _ _ r => r.hid hp) fun x hx => by rw [upd_ne (fun z : a = p => np (by rw [← z]; exact List.mem_of_getElem? h1))]; exact hx,
    fun a ha => by
      by_cases z : a = p
      · exact ⟨o, by rw [z, upd_same]⟩
      · let ⟨x, hx⟩ := R.there a ha
        exact ⟨x, by rw [upd_ne z]; exact hx⟩⟩
theorem SR.hide {σ : L2.St} {ρ : Slots} {p : Addr} {o : HO} (hp : H p = Option.none) (S : SR N M H σ ρ) : SR (p :: N) M (upd H p o) σ ρ := ⟨S.1, fun i d h => let ⟨v, a, b⟩ := S.2 i d h; ⟨v, a, b.hide hp⟩⟩
theorem SR.hid {σ : L2.St} {ρ : Slots} {p : Addr} {o : HO} (hp : p ∈ N) (S : SR N M H σ ρ) : SR N M (upd H p o) σ ρ := ⟨S.1, fun i d h => let ⟨v, a, b⟩ := S.2 i d h; ⟨v, a, b.hid hp⟩⟩
theorem SR.less {σ : L2.St} {ρ : Slots} {p : Addr} (S : SR (p :: N) M H σ ρ) : SR N M H σ ρ := ⟨S.1, fun i d h => let ⟨v, a, b⟩ := S.2 i d h; ⟨v, a, b.less fun b z => List.mem_cons_of_mem _ z⟩⟩
theorem Ext.cut (e : Ext M H M' H') : Ext M H (M'.take M.length) H' := by
  have : M'.take M.length = M := by obtain ⟨t, rfl⟩ := e.pre; simp
  rw [this]
  exact ⟨List.prefix_refl _, e.kp, fun _ a b => absurd a b⟩
theorem Ext.take (e : Ext M H M' H') : M'.take M.length = M := by obtain ⟨t, rfl⟩ := e.pre; simp
end
end Ab
end

section
set_option maxRecDepth 100000
set_option maxHeartbeats 2000000
/-! Readings over data: expressions and tests. -/
namespace Ab
open PySem PySem.Spec PyProof.Rows L2 Gd
/-- an error of an own class: the class, its attributes -/
structure Er where
  C : Addr
  fs : List (Str × AV)
/-- where a def began, what it wants of an error -/
structure Bk where
  N0 : List Addr
  M0 : List Addr
  H0 : Hp
  E : XK
  EA : Er → Store → Prop
def EOk (N M : List Addr) (H : Hp) (E : XK) (EA : Er → Store → Prop) : Prop := ∀ M' H' m' C fs d us, Ext M H M' H' → Rel N M' H' m' → H' d = some (.xd us) → d ∉ M' ++ N → RKs M'.length N M' H' us fs → EA ⟨C, fs⟩ m' → E (.ref C) (some d) H'
structure Bk.Ok (B : Bk) (N M : List Addr) (H : Hp) : Prop where
  ext : Ext B.M0 B.H0 M H
  sub : ∀ b ∈ B.N0, b ∈ N
theorem Bk.Ok.trans {B : Bk} {N M M' : List Addr} {H H' : Hp} (a : B.Ok N M H) (e : Ext M H M' H') : B.Ok N M' H' := ⟨a.ext.trans e, a.sub⟩
theorem Bk.Ok.hide {B : Bk} {N M : List Addr} {H : Hp} (a : B.Ok N M H) (p : Addr) : B.Ok (p :: N) M H := ⟨a.ext, fun b z => List.mem_cons_of_mem _ (a.sub b z)⟩
abbrev WE := Slots → Store → (AV → Store → Prop) → Prop
abbrev WT := Slots → Store → (Bool → Store → Prop) → Prop
abbrev WL := Slots → Store → (List AV → Store → Prop) → Prop
def LE (B : Bk) (t : TE) (w : WE) : Prop := ∀ N M H σ ρ m P Q, B.Ok N M H → SR N M H σ ρ → Rel N M H m → w ρ m P → (∀ v d M' H' m', Ext M H M' H' → Rel N M' H' m' → RV M'.length N M' H' v d → P d m' → Q v H') → t σ H Q
def LT (B : Bk) (t : TT) (w : WT) : Prop := ∀ N M H σ ρ m P Q, B.Ok N M H → SR N M H σ ρ → Rel N M H m → w ρ m P → (∀ k M' H' m', Ext M H M' H' → Rel N M' H' m' → P k m' → Q k H') → t σ H Q
def LA (B : Bk) (t : TA) (w : WL) : Prop := ∀ N M H σ ρ m P Q, B.Ok N M H → SR N M H σ ρ → Rel N M H m → w ρ m P → (∀ vs ds M' H' m', Ext M H M' H' → Rel N M' H' m' → RVs M'.length N M' H' vs ds → P ds m' → Q vs H') → t σ H Q
structure AE (X : Cx) (B : Bk) (e : Expr) (t : TE) (w : WE) : Prop where
  pe : PE X e t
  le : LE B t w
structure AT (X : Cx) (B : Bk) (e : Expr) (t : TT) (w : WT) : Prop where
  pt : PT X e t
  lt : LT B t w
structure AW (X : Cx) (B : Bk) (e : Expr) (t : TT) (w : WT) : Prop where
  pw : PW X e t
  lt : LT B t w
structure AL (X : Cx) (B : Bk) (es : List Expr) (t : TA) (w : WL) : Prop where
  pa : PA X es t
  la : LA B t w
/-! ### names, constants -/
def wV (i : Nat) : WE := fun ρ m P => match ρ[i]? with | some (some d) => P d m | _ => False
def wC (d : PyData) : WE := fun _ m P => P (.im d) m
section
variable {X : Cx} {B : Bk} {e a b c : Expr} {es : List Expr} {t ta tb tc : TE} {w wa wb wc : WE} {pos : Pos}
theorem le_var (i : Nat) : LE B (tVar i) (wV i) := fun N M H σ ρ m P Q _ S R h q => by
  unfold wV at h
  split at h
  · rename_i d e
    obtain ⟨v, h1, h2⟩ := S.2 i d e
    exact ⟨v, h1, q _ d _ _ _ .refl R h2 h⟩
  · exact h.elim
theorem ae_v {i : Nat} (h : PE X e (tVar i)) : AE X B e (tVar i) (wV i) := ⟨h, le_var i⟩
theorem le_c {v : V} {d : PyData} (h : ∀ M H, Rep M H v d) : LE B (tC v) (wC d) := fun N M H σ ρ m P Q _ S R hw q => q _ (.im d) _ _ _ .refl R (h _ H) hw
theorem ae_int {i j pos} : AE X B (.Constant (.int i) j pos) (tC (.int i)) (wC (.int i)) := ⟨pe_int, le_c fun _ _ => .int i⟩
theorem ae_bl {b j pos} : AE X B (.Constant (.bool b) j pos) (tC (.bl b)) (wC (.bool b)) := ⟨pe_bl, le_c fun _ _ => .bl b⟩
theorem ae_non {j pos} : AE X B (.Constant .none j pos) (tC .non) (wC .none) := ⟨pe_non, le_c fun _ _ => .non⟩
theorem ae_str {x j pos} : AE X B (.Constant (.str x) j pos) (tC (.str x)) (wC (.str x)) := ⟨pe_str, le_c fun _ _ => .str x⟩
/-- a whole number of the module -/
theorem ae_globI {i : Int} (h : PE X e (tC (.int i))) : AE X B e (tC (.int i)) (wC (.int i)) := ⟨h, le_c fun _ _ => .int i⟩
/-! ### operations by values -/
abbrev G2 := AV → AV → Store → (AV → Store → Prop) → Prop
abbrev G1 := AV → Store → (AV → Store → Prop) → Prop
abbrev GL := List AV → Store → (AV → Store → Prop) → Prop
/-- what a rule asks of the values, told of the data -/
def l2 (g : G2) : R2 := fun x y H Q => ∃ N M m d e P, Rel N M H m ∧ RV M.length N M H x d ∧ RV M.length N M H y e ∧ g d e m P ∧ ∀ v d' M' H' m', Ext M H M' H' → Rel N M' H' m' → RV M'.length N M' H' v d' → P d' m' → Q v H'
def l1 (g : G1) : V → Hp → VK → Prop := fun x H Q => ∃ N M m d P, Rel N M H m ∧ RV M.length N M H x d ∧ g d m P ∧ ∀ v d' M' H' m', Ext M H M' H' → Rel N M' H' m' → RV M'.length N M' H' v d' → P d' m' → Q v H'
def lL (g : GL) : List V → Hp → VK → Prop := fun xs H Q => ∃ N M m ds P, Rel N M H m ∧ RVs M.length N M H xs ds ∧ g ds m P ∧ ∀ v d' M' H' m', Ext M H M' H' → Rel N M' H' m' → RV M'.length N M' H' v d' → P d' m' → Q v H'
def lM (g : AV → GL) : V → List V → Hp → VK → Prop := fun x xs H Q => ∃ N M m d ds P, Rel N M H m ∧ RV M.length N M H x d ∧ RVs M.length N M H xs ds ∧ g d ds m P ∧ ∀ v d' M' H' m', Ext M H M' H' → Rel N M' H' m' → RV M'.length N M' H' v d' → P d' m' → Q v H'
abbrev OA (X : Cx) (f : Value → Value → Sem Value) (g : G2) : Prop := OpR X f (l2 g)
abbrev UA (X : Cx) (f : Value → Sem Value) (g : G1) : Prop := UnR X f (l1 g)
abbrev CA (X : Cx) (f : Value) (g : GL) : Prop := CallR X f (lL g)
def wOp (g : G2) (wa wb : WE) : WE := fun ρ m P => wa ρ m fun d m1 => wb ρ m1 fun e m2 => g d e m2 P
def wUn (g : G1) (wa : WE) : WE := fun ρ m P => wa ρ m fun d m1 => g d m1 P
def wCB (g : GL) (wa : WL) : WE := fun ρ m P => wa ρ m fun ds m1 => g ds m1 P
theorem le_op {g : G2} (ha : LE B ta wa) (hb : LE B tb wb) : LE B (tOp (l2 g) ta tb) (wOp g wa wb) := fun N M H σ ρ m P Q x0 S R h q =>
  ha N M H σ ρ m _ _ x0 S R h fun v d M1 H1 m1 x1 R1 r1 h1 => hb N M1 H1 σ ρ m1 _ _ (x0.trans x1) (S.ext x1) R1 h1 fun u e M2 H2 m2 x2 R2 r2 h2 =>
    ⟨N, M2, m2, d, e, P, R2, r1.extL x2, r2, h2, fun z f M3 H3 m3 x3 R3 r3 h3 => q z f M3 H3 m3 ((x1.trans x2).trans x3) R3 r3 h3⟩
theorem le_un {g : G1} (ha : LE B ta wa) : LE B (tUn (l1 g) ta) (wUn g wa) := fun N M H σ ρ m P Q x0 S R h q =>
  ha N M H σ ρ m _ _ x0 S R h fun v d M1 H1 m1 x1 R1 r1 h1 => ⟨N, M1, m1, d, P, R1, r1, h1, fun z f M3 H3 m3 x3 R3 r3 h3 => q z f M3 H3 m3 (x1.trans x3) R3 r3 h3⟩
theorem le_cb {g : GL} {tl : TA} {wl : WL} (ha : LA B tl wl) : LE B (tCB (lL g) tl) (wCB g wl) := fun N M H σ ρ m P Q x0 S R h q =>
  ha N M H σ ρ m _ _ x0 S R h fun vs ds M1 H1 m1 x1 R1 r1 h1 => ⟨N, M1, m1, ds, P, R1, r1, h1, fun z f M3 H3 m3 x3 R3 r3 h3 => q z f M3 H3 m3 (x1.trans x3) R3 r3 h3⟩
theorem ae_op {op : Operator} {g : G2} (ho : OA X (binaryOp op) g) (ha : AE X B a ta wa) (hb : AE X B b tb wb) : AE X B (.BinOp a op b pos) (tOp (l2 g) ta tb) (wOp g wa wb) := ⟨pe_op ho ha.pe hb.pe, le_op ha.le hb.le⟩
theorem ae_un {op : UnaryOp} {g : G1} (ho : UA X (unaryOp op) g) (ha : AE X B a ta wa) : AE X B (.UnaryOp op a pos) (tUn (l1 g) ta) (wUn g wa) := ⟨pe_un ho ha.pe, le_un ha.le⟩
theorem ae_cmp {op : CmpOp} {g : G2} (ho : OA X (compareOp op) g) (ha : AE X B a ta wa) (hb : AE X B b tb wb) (hm : behindInMarks op b = false) : AE X B (.Compare a [op] [b] pos) (tOp (l2 g) ta tb) (wOp g wa wb) := ⟨pe_cmpR ho ha.pe hb.pe hm, le_op ha.le hb.le⟩
/-- a test whose value is a boolean -/
def wB (w : WE) : WT := fun ρ m P => w ρ m fun d m1 => match d with | .im (.bool k) => P k m1 | _ => False
theorem lt_test (h : LE B t w) : LT B (tTest t) (wB w) := fun N M H σ ρ m P Q x0 S R hw q => h N M H σ ρ m _ _ x0 S R hw fun v d M1 H1 m1 x1 R1 r1 h1 => by
  split at h1
  · rename_i k
    cases r1
    exact ⟨k, rfl, q k M1 H1 m1 x1 R1 h1⟩
  · exact h1.elim
theorem lt_val (h : LE B t w) : LT B (tB t) (wB w) := lt_test h
theorem at_cmp {op : CmpOp} {g : G2} (ho : OA X (compareOp op) g) (ha : AE X B a ta wa) (hb : AE X B b tb wb) (hm : behindInMarks op b = false) : AT X B (.Compare a [op] [b] pos) (tTest (tOp (l2 g) ta tb)) (wB (wOp g wa wb)) := ⟨pt_cmpR ho ha.pe hb.pe hm, lt_test (le_op ha.le hb.le)⟩
theorem at_val (h : AE X B e t w) (he : ∀ whole, isTrue e X.env whole = (do let v ← whole; standAt e.pos; holding [v] (truthy v)) := by intro _; rfl) : AT X B e (tB t) (wB w) := ⟨pt_val h.pe he, lt_val h.le⟩
/-- a op b op' c -/
def wCh (g g' : G2) (wa wb wc : WE) : WE := fun ρ m P => wa ρ m fun d m1 => wb ρ m1 fun e m2 => g d e m2 fun z m3 => match z with
  | .im (.bool k) => if k = true then wc ρ m3 fun f m4 => g' e f m4 P else P (.im (.bool false)) m3
  | _ => False
theorem le_ch {g g' : G2} (ha : LE B ta wa) (hb : LE B tb wb) (hc : LE B tc wc) : LE B (tChain (l2 g) (l2 g') ta tb tc) (wCh g g' wa wb wc) := fun N M H σ ρ m P Q x0 S R h q =>
  ha N M H σ ρ m _ _ x0 S R h fun v d M1 H1 m1 x1 R1 r1 h1 => hb N M1 H1 σ ρ m1 _ _ (x0.trans x1) (S.ext x1) R1 h1 fun u e M2 H2 m2 x2 R2 r2 h2 =>
    ⟨N, M2, m2, d, e, _, R2, r1.extL x2, r2, h2, fun z f M3 H3 m3 x3 R3 r3 h3 => by
      split at h3
      · rename_i k
        cases r3
        refine ⟨k, rfl, ?_⟩
        cases k with
        | false => exact q _ (.im (.bool false)) M3 H3 m3 ((x1.trans x2).trans x3) R3 (.bl false) (by simpa using h3)
        | true =>
          simp only [if_true] at h3 ⊢
          exact hc N M3 H3 σ ρ m3 _ _ (((x0.trans x1).trans x2).trans x3) (((S.ext x1).ext x2).ext x3) R3 h3 fun z f M4 H4 m4 x4 R4 r4 h4 =>
            ⟨N, M4, m4, e, f, P, R4, (r2.extL x3).extL x4, r4, h4, fun z5 f5 M5 H5 m5 x5 R5 r5 h5 => q z5 f5 M5 H5 m5 ((((x1.trans x2).trans x3).trans x4).trans x5) R5 r5 h5⟩
      · exact h3.elim⟩
theorem ae_ch {op op' : CmpOp} {g g' : G2} (ho : OA X (compareOp op) g) (ho' : OA X (compareOp op') g') (ha : AE X B a ta wa) (hb : AE X B b tb wb) (hc : AE X B c tc wc)
    (hm : lastMarks [op, op'] [b, c] = false := by with_unfolding_all rfl) : AE X B (.Compare a [op, op'] [b, c] pos) (tChain (l2 g) (l2 g') ta tb tc) (wCh g g' wa wb wc) := ⟨pe_chain ho ho' ha.pe hb.pe hc.pe hm, le_ch ha.le hb.le hc.le⟩
theorem at_ch {op op' : CmpOp} {g g' : G2} (ho : OA X (compareOp op) g) (ho' : OA X (compareOp op') g') (ha : AE X B a ta wa) (hb : AE X B b tb wb) (hc : AE X B c tc wc)
    (hm : lastMarks [op, op'] [b, c] = false := by with_unfolding_all rfl) : AT X B (.Compare a [op, op'] [b, c] pos) (tTest (tChain (l2 g) (l2 g') ta tb tc)) (wB (wCh g g' wa wb wc)) := ⟨pt_chain ho ho' ha.pe hb.pe hc.pe hm, lt_test (le_ch ha.le hb.le hc.le)⟩
/-! ### truth -/
def tru (d : AV) (m : Store) (P : Bool → Prop) : Prop := match d with
  | .im .none => P false
  | .im (.bool b) => P b
  | .im (.int i) => P (i != 0)
  | .im (.str x) => x.length ≤ sizeLine ∧ P ((x.length : Int) != 0)
  | .im (.list xs) => P (!xs.isEmpty)
  | .im (.tuple xs) => P (!xs.isEmpty)
  | .im (.dict kvs) => P false
  | .mu i => (match m[i]? with | some (.lst xs) => P (!xs.isEmpty) | some (.dk kvs) => P (!kvs.isEmpty) | _ => False)
  | .pr _ _ => P true
  | .wl xs => P (!xs.isEmpty)
theorem emp_reps {M : List Addr} {H : Hp} {us : List V} {ds : List PyData} (r : Reps M H us ds) : (!us.isEmpty) = !ds.isEmpty := by cases r <;> rfl
theorem emp_pair {α β : Type} {F : α → β → Prop} {us : List α} {ds : List β} (r : Paired F us ds) : (!us.isEmpty) = !ds.isEmpty := by cases r <;> rfl
theorem tru_of {K : PySem.W.Frag} {N M : List Addr} {H : Hp} {m : Store} (R : Rel N M H m) {v : V} {d : AV} (r : RV M.length N M H v d) {P : Bool → Prop} (h : tru d m P) : ∃ k, TruV K v H k ∧ P k := by
  cases d with
  | im d =>
    have r : Rep (M ++ N) H v d := r
    cases r with
    | non => exact ⟨_, rfl, h⟩
    | bl b => exact ⟨_, rfl, h⟩
    | int i => exact ⟨_, rfl, h⟩
    | str x => exact ⟨_, ⟨h.1, rfl⟩, h.2⟩
    | tup n e z => exact ⟨_, .inr (.inl ⟨_, .inl (.inl e), rfl⟩), by rw [emp_reps z]; exact h⟩
    | lst n ne e z => exact ⟨_, .inl ⟨_, .inl (.inl e), rfl⟩, by rw [emp_reps z]; exact h⟩
    | emp n e => exact ⟨_, .inr (.inr ⟨_, e, rfl⟩), h⟩
  | mu i =>
    obtain ⟨_, a, h1, rfl⟩ := r
    unfold tru at h
    dsimp only at h
    split at h
    · rename_i xs e
      obtain ⟨a', h3, us, h4, h5⟩ := R.of e
      rw [h1] at h3; cases h3
      exact ⟨_, .inl ⟨_, .inl (.inl h4), rfl⟩, by rw [emp_pair h5]; exact h⟩
    · rename_i xs e
      obtain ⟨a', h3, us, h4, h5⟩ := R.of e
      rw [h1] at h3; cases h3
      exact ⟨_, .inr (.inr ⟨_, h4, rfl⟩), by rw [emp_pair h5]; exact h⟩
    · exact h.elim
  | pr x y =>
    obtain ⟨a, u, w, rfl, _, h3, _⟩ := r
    exact ⟨_, .inr (.inl ⟨_, .inl (.inl h3), rfl⟩), h⟩
  | wl xs =>
    obtain ⟨a, us, rfl, _, h3, r⟩ := r
    exact ⟨_, .inl ⟨_, .inl (.inl h3), rfl⟩, by rw [emp_reps r]; exact h⟩
def wTru (w : WE) : WT := fun ρ m P => w ρ m fun d m1 => tru d m1 fun k => P k m1
theorem at_tru {K : PySem.W.Frag} (hK : X.K = K) (h : AE X B e t w) (he : ∀ whole, isTrue e X.env whole = (do let v ← whole; standAt e.pos; holding [v] (truthy v)) := by intro _; rfl) : AT X B e (fun σ H Q => t σ H fun x H' => ∃ k, TruV K x H' k ∧ Q k H') (wTru w) :=
  ⟨hK ▸ pt_truth h.pe he, fun N M H σ ρ m P Q x0 S R hw q => h.le N M H σ ρ m _ _ x0 S R hw fun v d M1 H1 m1 x1 R1 r1 h1 => let ⟨k, a, b⟩ := tru_of R1 r1 h1; ⟨k, a, q k M1 H1 m1 x1 R1 b⟩⟩
def wNotT (w : WT) : WT := fun ρ m P => w ρ m fun k m1 => P (!k) m1
def wAndT (w u : WT) : WT := fun ρ m P => w ρ m fun k m1 => if k = true then u ρ m1 P else P false m1
def wOrT (w u : WT) : WT := fun ρ m P => w ρ m fun k m1 => if k = true then P true m1 else u ρ m1 P
section
variable {tt tu : TT} {wt wu : WT} {rest : List Expr}
theorem at_not (h : AT X B a tt wt) : AT X B (.UnaryOp .Not a pos) (tNot tt) (wNotT wt) := ⟨pt_not h.pt, fun N M H σ ρ m P Q x0 S R hw q => h.lt N M H σ ρ m _ _ x0 S R hw fun k M1 H1 m1 x1 R1 h1 => q _ M1 H1 m1 x1 R1 h1⟩
theorem lt_and (ha : LT B tt wt) (hb : LT B tu wu) : LT B (tAnd tt tu) (wAndT wt wu) := fun N M H σ ρ m P Q x0 S R hw q => ha N M H σ ρ m _ _ x0 S R hw fun k M1 H1 m1 x1 R1 h1 => by
  cases k with
  | false => exact q _ M1 H1 m1 x1 R1 h1
  | true => exact hb N M1 H1 σ ρ m1 _ _ (x0.trans x1) (S.ext x1) R1 h1 fun k M2 H2 m2 x2 R2 h2 => q k M2 H2 m2 (x1.trans x2) R2 h2
theorem lt_or (ha : LT B tt wt) (hb : LT B tu wu) : LT B (tOr tt tu) (wOrT wt wu) := fun N M H σ ρ m P Q x0 S R hw q => ha N M H σ ρ m _ _ x0 S R hw fun k M1 H1 m1 x1 R1 h1 => by
  cases k with
  | true => exact q _ M1 H1 m1 x1 R1 h1
  | false => exact hb N M1 H1 σ ρ m1 _ _ (x0.trans x1) (S.ext x1) R1 h1 fun k M2 H2 m2 x2 R2 h2 => q k M2 H2 m2 (x1.trans x2) R2 h2
theorem aw_and1 (ha : AT X B a tt wt) : AW X B (.BoolOp .And [a] pos) tt wt := ⟨pw_and1 ha.pt, ha.lt⟩
theorem aw_or1 (ha : AT X B a tt wt) : AW X B (.BoolOp .Or [a] pos) tt wt := ⟨pw_or1 ha.pt, ha.lt⟩
theorem aw_and (ha : AT X B a tt wt) (hb : AW X B (.BoolOp .And (b :: rest) pos) tu wu) : AW X B (.BoolOp .And (a :: b :: rest) pos) (tAnd tt tu) (wAndT wt wu) := ⟨pw_and ha.pt hb.pw, lt_and ha.lt hb.lt⟩
theorem aw_or (ha : AT X B a tt wt) (hb : AW X B (.BoolOp .Or (b :: rest) pos) tu wu) : AW X B (.BoolOp .Or (a :: b :: rest) pos) (tOr tt tu) (wOrT wt wu) := ⟨pw_or ha.pt hb.pw, lt_or ha.lt hb.lt⟩
theorem AW.at (h : AW X B e tt wt) : AT X B e tt wt := ⟨h.pw.pt, h.lt⟩
/-- .. as values -/
def wOr (wa wb : WE) : WE := fun ρ m P => wa ρ m fun d m1 => tru d m1 fun k => if k = true then P d m1 else wb ρ m1 P
def wAnd (wa wb : WE) : WE := fun ρ m P => wa ρ m fun d m1 => tru d m1 fun k => if k = true then wb ρ m1 P else P d m1
def wNot (wa : WE) : WE := fun ρ m P => wa ρ m fun d m1 => tru d m1 fun k => P (.im (.bool (!k))) m1
theorem ae_one {op : BoolOp} (h : AE X B a t w) : AE X B (.BoolOp op [a] pos) t w := ⟨pe_one h.pe, h.le⟩
theorem ae_or {K : PySem.W.Frag} (hK : X.K = K) (ha : AE X B a ta wa) (hb : AE X B (.BoolOp .Or (b :: rest) pos) tb wb) : AE X B (.BoolOp .Or (a :: b :: rest) pos) (tOrT K ta tb) (wOr wa wb) :=
  ⟨hK ▸ pe_orT ha.pe hb.pe, fun N M H σ ρ m P Q x0 S R hw q => ha.le N M H σ ρ m _ _ x0 S R hw fun v d M1 H1 m1 x1 R1 r1 h1 => by
    obtain ⟨k, e, h2⟩ := tru_of (K := K) R1 r1 h1
    refine ⟨k, e, ?_⟩
    cases k with
    | true => exact q _ d M1 H1 m1 x1 R1 r1 h2
    | false => exact hb.le N M1 H1 σ ρ m1 _ _ (x0.trans x1) (S.ext x1) R1 h2 fun z f M2 H2 m2 x2 R2 r2 h2 => q z f M2 H2 m2 (x1.trans x2) R2 r2 h2⟩
theorem ae_and {K : PySem.W.Frag} (hK : X.K = K) (ha : AE X B a ta wa) (hb : AE X B (.BoolOp .And (b :: rest) pos) tb wb) : AE X B (.BoolOp .And (a :: b :: rest) pos) (tAndT K ta tb) (wAnd wa wb) :=
  ⟨hK ▸ pe_andT ha.pe hb.pe, fun N M H σ ρ m P Q x0 S R hw q => ha.le N M H σ ρ m _ _ x0 S R hw fun v d M1 H1 m1 x1 R1 r1 h1 => by
    obtain ⟨k, e, h2⟩ := tru_of (K := K) R1 r1 h1
    refine ⟨k, e, ?_⟩
    cases k with
    | false => exact q _ d M1 H1 m1 x1 R1 r1 h2
    | true => exact hb.le N M1 H1 σ ρ m1 _ _ (x0.trans x1) (S.ext x1) R1 h2 fun z f M2 H2 m2 x2 R2 r2 h2 => q z f M2 H2 m2 (x1.trans x2) R2 r2 h2⟩
theorem ae_not {K : PySem.W.Frag} (hK : X.K = K) (ha : AE X B a ta wa) : AE X B (.UnaryOp .Not a pos) (tNotT K ta) (wNot wa) :=
  ⟨hK ▸ pe_notT ha.pe, fun N M H σ ρ m P Q x0 S R hw q => ha.le N M H σ ρ m _ _ x0 S R hw fun v d M1 H1 m1 x1 R1 r1 h1 => by
    obtain ⟨k, e, h2⟩ := tru_of (K := K) R1 r1 h1
    exact ⟨k, e, q _ (.im (.bool (!k))) M1 H1 m1 x1 R1 (.bl _) h2⟩⟩
def wIf (wt : WT) (wa wb : WE) : WE := fun ρ m P => wt ρ m fun k m1 => if k = true then wa ρ m1 P else wb ρ m1 P
theorem ae_if (hc : AT X B c tt wt) (ha : AE X B a ta wa) (hb : AE X B b tb wb) : AE X B (.IfExp c a b pos) (tIf tt ta tb) (wIf wt wa wb) :=
  ⟨pe_ifExp hc.pt ha.pe hb.pe, fun N M H σ ρ m P Q x0 S R hw q => hc.lt N M H σ ρ m _ _ x0 S R hw fun k M1 H1 m1 x1 R1 h1 => by
    cases k with
    | true => exact ha.le N M1 H1 σ ρ m1 _ _ (x0.trans x1) (S.ext x1) R1 h1 fun z f M2 H2 m2 x2 R2 r2 h2 => q z f M2 H2 m2 (x1.trans x2) R2 r2 h2
    | false => exact hb.le N M1 H1 σ ρ m1 _ _ (x0.trans x1) (S.ext x1) R1 h1 fun z f M2 H2 m2 x2 R2 r2 h2 => q z f M2 H2 m2 (x1.trans x2) R2 r2 h2⟩
end
/-! ### arguments, displays -/
def wNil : WL := fun _ m P => P [] m
def wCons (wa : WE) (wl : WL) : WL := fun ρ m P => wa ρ m fun d m1 => wl ρ m1 fun ds m2 => P (d :: ds) m2
section
variable {tl : TA} {wl : WL}
theorem al_nil : AL X B [] tNil wNil := ⟨pa_nil, fun N M H σ ρ m P Q x0 S R hw q => q [] [] M H m .refl R .nil hw⟩
theorem al_cons (ha : AE X B e t w) (hr : AL X B es tl wl) (hs : starEach (e :: es) X.env = (false, eval e X.env) :: starEach es X.env := by rfl) : AL X B (e :: es) (tCons t tl) (wCons w wl) :=
  ⟨pa_cons ha.pe hr.pa hs, fun N M H σ ρ m P Q x0 S R hw q => ha.le N M H σ ρ m _ _ x0 S R hw fun v d M1 H1 m1 x1 R1 r1 h1 => hr.la N M1 H1 σ ρ m1 _ _ (x0.trans x1) (S.ext x1) R1 h1 fun vs ds M2 H2 m2 x2 R2 r2 h2 =>
    q _ (d :: ds) M2 H2 m2 (x1.trans x2) R2 (.cons (r1.extL x2) r2) h2⟩
/-- all of them data -/
def ims : List AV → Option (List PyData)
  | [] => some []
  | .im d :: r => (ims r).map (d :: ·)
  | _ => none
theorem ims_of {N M : List Addr} {H : Hp} {n : Nat} : ∀ {vs : List V} {ds : List AV} {xs : List PyData}, RVs n N M H vs ds → ims ds = some xs → Reps (M ++ N) H vs xs
  | _, [], _, .nil, h => by cases h; exact .nil
  | _, .im d :: r, _, .cons r1 r2, h => by
    unfold ims at h
    obtain ⟨ys, h1, rfl⟩ := Option.map_eq_some_iff.mp h
    exact .cons r1 (ims_of r2 h1)
theorem to_ims {N M : List Addr} {H : Hp} {n : Nat} : ∀ {vs : List V} {xs : List PyData}, Reps (M ++ N) H vs xs → RVs n N M H vs (xs.map .im)
  | _, _, .nil => .nil
  | _, _, .cons r1 r2 => .cons r1 (to_ims r2)
theorem ims_map : ∀ xs : List PyData, ims (xs.map .im) = some xs
  | [] => rfl
  | x :: r => by simp [ims, ims_map r]
/-- a new tuple of data -/
def wTup (wl : WL) : WE := fun ρ m P => wl ρ m fun ds m1 => match ims ds with
  | some xs => xs.length ≤ sizeLine ∧ P (.im (.tuple xs)) m1
  | none => (match ds with | [x, y] => P (.pr x y) m1 | _ => False)
theorem le_tup (h : LA B tl wl) : LE B (tTup tl) (wTup wl) := fun N M H σ ρ m P Q x0 S R hw q => h N M H σ ρ m _ _ x0 S R hw fun vs ds M1 H1 m1 x1 R1 r1 h1 => by
  split at h1
  · rename_i xs e
    have r := ims_of r1 e
    refine ⟨by rw [r.length]; exact h1.1, fun p hp => q _ (.im (.tuple xs)) M1 _ m1 (x1.trans (.alloc hp)) (R1.alloc hp) (Rep.tup (R1.live.fresh hp) upd_same (r.keep (Kp.new hp))) h1.2⟩
  · split at h1
    · rename_i x y _
      cases r1 with
      | cons s1 rr => cases rr with
        | cons s2 rr =>
          cases rr
          refine ⟨by show 2 ≤ sizeLine; decide, fun p hp => q _ (.pr x y) M1 _ m1 (x1.trans (.alloc hp)) (R1.alloc hp) ⟨p, _, _, rfl, R1.live.fresh hp, upd_same, ?_, ?_⟩ h1⟩
          · exact s1.ext (.alloc hp)
          · exact s2.ext (.alloc hp)
    · exact h1.elim
theorem ae_tup {x1} (h : AL X B es tl wl) : AE X B (.Tuple es x1 pos) (tTup tl) (wTup wl) := ⟨pe_tup h.pa, le_tup h.la⟩
/-- a new list of data that stays as it is -/
def wLst (wl : WL) : WE := fun ρ m P => wl ρ m fun ds m1 => match ims ds with | some xs => xs.length ≤ sizeLine ∧ P (.im (.list xs)) m1 | none => False
theorem ae_lst (h : AL X B es tl wl) : AE X B (.List es pos) (tLstS tl) (wLst wl) := ⟨pe_lstS h.pa, fun N M H σ ρ m P Q x0 S R hw q => h.la N M H σ ρ m _ _ x0 S R hw fun vs ds M1 H1 m1 x1 R1 r1 h1 => by
  split at h1
  · rename_i xs e
    have r := ims_of r1 e
    refine ⟨by rw [r.length]; exact h1.1, fun p hp hs => q _ (.im (.list xs)) M1 _ m1 (x1.trans (.alloc hp)) (R1.alloc hp) (Rep.lst (R1.live.fresh hp) hs upd_same (r.keep (Kp.new hp))) h1.2⟩
  · exact h1.elim⟩
/-- a new list that may change -/
def wLstM (wl : WL) : WE := fun ρ m P => wl ρ m fun ds m1 => ds.length ≤ sizeLine ∧ P (.mu m1.length) (m1 ++ [.lst ds])
theorem RVs.grow {N M : List Addr} {H : Hp} {m : Store} (R : Rel N M H m) {p : Addr} {o : HO} (hp : H p = none) {vs : List V} {ds : List AV} (r : RVs M.length N M H vs ds) : RVs m.length N (M ++ [p]) (upd H p o) vs ds := by
  have np := R.liveM.fresh hp
  have e : Ext M H (M ++ [p]) (upd H p o) := ⟨List.prefix_append _ _, Kp.new hp, fun a h1 h2 => by
    rcases List.mem_append.mp h1 with z | z
    · exact absurd z h2
    · rw [List.mem_singleton.mp z]; exact hp⟩
  rw [← R.len]
  exact r.ext e
theorem last_mu {N M : List Addr} {H : Hp} {m : Store} (R : Rel N M H m) (p : Addr) : (M ++ [p])[m.length]? = some p := by rw [← R.len]; simp
theorem newL {N M : List Addr} {H : Hp} {m : Store} (R : Rel N M H m) {p : Addr} (hp : H p = none) {vs : List V} {ds : List AV} (r : RVs M.length N M H vs ds) :
    Rel N (M ++ [p]) (upd H p (.lst vs)) (m ++ [.lst ds]) ∧ Ext M H (M ++ [p]) (upd H p (.lst vs)) ∧ RV (M ++ [p]).length N (M ++ [p]) (upd H p (.lst vs)) (.ref p) (.mu m.length) := by
  obtain ⟨a, b⟩ := R.grow (c := .lst ds) hp ⟨vs, upd_same, r.grow R hp⟩
  exact ⟨a, b, by rw [← R.len]; simp, p, last_mu R p, rfl⟩
theorem ae_lstM (h : AL X B es tl wl) : AE X B (.List es pos) (tLstS tl) (wLstM wl) := ⟨pe_lstS h.pa, fun N M H σ ρ m P Q x0 S R hw q => h.la N M H σ ρ m _ _ x0 S R hw fun vs ds M1 H1 m1 x1 R1 r1 h1 => by
  refine ⟨by rw [pair_len r1]; exact h1.1, fun p hp hs => ?_⟩
  obtain ⟨a, b, c⟩ := newL R1 hp r1
  exact q _ (.mu m1.length) _ _ _ (x1.trans b) a c h1.2⟩
end
end
end Ab
end

section
set_option maxRecDepth 100000
set_option maxHeartbeats 2000000
/-! Readings over data: statements and loops. -/
namespace Ab
open PySem PySem.Spec PyProof.Rows L2 Gd
structure Fin where
  nx : Slots → Store → Prop
  rt : AV → Store → Prop
  bk : Slots → Store → Prop := fun _ _ => False
  ct : Slots → Store → Prop := fun _ _ => False
abbrev WS := Fin → Slots → Store → Prop
structure FinOk (N M : List Addr) (H : Hp) (F : Fin) (D : Ends) : Prop where
  nx : ∀ M' H' σ ρ m, Ext M H M' H' → SR N M' H' σ ρ → Rel N M' H' m → F.nx ρ m → D.nx σ H'
  rt : ∀ M' H' v d m, Ext M H M' H' → Rel N M' H' m → RV M'.length N M' H' v d → F.rt d m → D.rt v H'
  bk : ∀ M' H' σ ρ m, Ext M H M' H' → SR N M' H' σ ρ → Rel N M' H' m → F.bk ρ m → D.bk σ H'
  ct : ∀ M' H' σ ρ m, Ext M H M' H' → SR N M' H' σ ρ → Rel N M' H' m → F.ct ρ m → D.ct σ H'
theorem FinOk.trans {N M M1 : List Addr} {H H1 : Hp} {F : Fin} {D : Ends} (f : FinOk N M H F D) (x : Ext M H M1 H1) : FinOk N M1 H1 F D :=
  ⟨fun M' H' σ ρ m e => f.nx M' H' σ ρ m (x.trans e), fun M' H' v d m e => f.rt M' H' v d m (x.trans e), fun M' H' σ ρ m e => f.bk M' H' σ ρ m (x.trans e), fun M' H' σ ρ m e => f.ct M' H' σ ρ m (x.trans e)⟩
def LS (B : Bk) (t : TS) (w : WS) : Prop := ∀ N M H σ ρ m F D, B.Ok N M H → SR N M H σ ρ → Rel N M H m → w F ρ m → FinOk N M H F D → t D σ H
structure AS (X : Cx) (B : Bk) (st : Stmt) (t : TS) (w : WS) : Prop where
  ps : PS X st t
  ls : LS B t w
structure ASs (X : Cx) (B : Bk) (st : List Stmt) (t : TS) (w : WS) : Prop where
  ps : PSs X st t
  ls : LS B t w
/-! ### blocks -/
def wNext : WS := fun F ρ m => F.nx ρ m
def wSeq (w u : WS) : WS := fun F ρ m => w { F with nx := fun ρ' m' => u F ρ' m' } ρ m
def wRet (w : WE) : WS := fun F ρ m => w ρ m F.rt
def wRetN : WS := fun F _ m => F.rt (.im .none) m
def wDrop (w : WE) : WS := fun F ρ m => w ρ m fun _ m' => F.nx ρ m'
def wIfS (c : WT) (w u : WS) : WS := fun F ρ m => c ρ m fun k m' => if k = true then w F ρ m' else u F ρ m'
section
variable {X : Cx} {B : Bk} {st : Stmt} {rest : List Stmt} {t u : TS} {w v : WS} {e : Expr} {te : TE} {we : WE} {pos : Pos}
theorem ss_nil : ASs X B [] tNext wNext := ⟨pss_nil, fun N M H σ ρ m F D x0 S R h f => f.nx M H σ ρ m .refl S R h⟩
theorem ls_seq (h1 : LS B t w) (h2 : LS B u v) : LS B (tSeq t u) (wSeq w v) := fun N M H σ ρ m F D x0 S R h f =>
  h1 N M H σ ρ m _ _ x0 S R h ⟨fun M' H' σ' ρ' m' x S' R' q => h2 N M' H' σ' ρ' m' F D (x0.trans x) S' R' q (f.trans x), f.rt, f.bk, f.ct⟩
theorem ss_cons (h1 : AS X B st t w) (h2 : ASs X B rest u v) : ASs X B (st :: rest) (tSeq t u) (wSeq w v) := ⟨pss_cons h1.ps h2.ps, ls_seq h1.ls h2.ls⟩
theorem ss_one (h1 : AS X B st t w) : ASs X B [st] t w := ⟨pss_one h1.ps, h1.ls⟩
theorem s_ret (h : AE X B e te we) : AS X B (.Return (some e) pos) (tRet te) (wRet we) := ⟨ps_ret h.pe, fun N M H σ ρ m F D x0 S R hw f => h.le N M H σ ρ m _ _ x0 S R hw fun v d M1 H1 m1 x1 R1 r1 h1 => f.rt M1 H1 v d m1 x1 R1 r1 h1⟩
theorem s_retN : AS X B (.Return none pos) tRetN wRetN := ⟨ps_retN, fun N M H σ ρ m F D x0 S R hw f => f.rt M H .non (.im .none) m .refl R .non hw⟩
theorem s_expr (h : AE X B e te we) (hs : swapsWith e none pos.line X.env = pure false := by rfl) : AS X B (.Expr e pos) (tDrop te) (wDrop we) := ⟨ps_expr h.pe hs, fun N M H σ ρ m F D x0 S R hw f => h.le N M H σ ρ m _ _ x0 S R hw fun v d M1 H1 m1 x1 R1 r1 h1 => f.nx M1 H1 σ ρ m1 x1 (S.ext x1) R1 h1⟩
theorem s_pass : AS X B (.Pass pos) tNext wNext := ⟨ps_pass, fun N M H σ ρ m F D x0 S R h f => f.nx M H σ ρ m .refl S R h⟩
def wBrk : WS := fun F ρ m => F.bk ρ m
def wCnt : WS := fun F ρ m => F.ct ρ m
theorem s_brk : AS X B (.Break pos) tBreak wBrk := ⟨ps_break, fun N M H σ ρ m F D x0 S R h f => f.bk M H σ ρ m .refl S R h⟩
theorem s_cnt : AS X B (.Continue pos) tCont wCnt := ⟨ps_continue, fun N M H σ ρ m F D x0 S R h f => f.ct M H σ ρ m .refl S R h⟩
theorem ls_if {tc : TT} {wc : WT} (hc : LT B tc wc) (ha : LS B t w) (hb : LS B u v) : LS B (tIfS tc t u) (wIfS wc w v) := fun N M H σ ρ m F D x0 S R hw f => hc N M H σ ρ m _ _ x0 S R hw fun k M1 H1 m1 x1 R1 h1 => by
  cases k with
  | true => exact ha N M1 H1 σ ρ m1 F D (x0.trans x1) (S.ext x1) R1 h1 (f.trans x1)
  | false => exact hb N M1 H1 σ ρ m1 F D (x0.trans x1) (S.ext x1) R1 h1 (f.trans x1)
theorem s_if {c : Expr} {a b : List Stmt} {tc : TT} {wc : WT} (hc : AT X B c tc wc) (ha : ASs X B a t w) (hb : ASs X B b u v) : AS X B (.If c a b pos) (tIfS tc t u) (wIfS wc w v) := ⟨ps_if hc.pt ha.ps hb.ps, ls_if hc.lt ha.ls hb.ls⟩
end
/-! ### targets -/
abbrev WG := AV → Slots → Store → (Slots → Store → Prop) → Prop
abbrev WGs := List AV → Slots → Store → (Slots → Store → Prop) → Prop
def LG (B : Bk) (g : TG) (w : WG) : Prop := ∀ N M H σ ρ m v d P Q, B.Ok N M H → SR N M H σ ρ → Rel N M H m → RV M.length N M H v d → w d ρ m P → (∀ M' H' σ' ρ' m', Ext M H M' H' → SR N M' H' σ' ρ' → Rel N M' H' m' → P ρ' m' → Q σ' H') → g v σ H Q
def LGs (B : Bk) (g : TGs) (w : WGs) : Prop := ∀ N M H σ ρ m vs ds P Q, B.Ok N M H → SR N M H σ ρ → Rel N M H m → RVs M.length N M H vs ds → w ds ρ m P → (∀ M' H' σ' ρ' m', Ext M H M' H' → SR N M' H' σ' ρ' → Rel N M' H' m' → P ρ' m' → Q σ' H') → g vs σ H Q
structure AG (X : Cx) (B : Bk) (e : Expr) (g : TG) (w : WG) : Prop where
  pg : PG X e g
  lg : LG B g w
structure AGs (X : Cx) (B : Bk) (es : List Expr) (g : TGs) (w : WGs) : Prop where
  pg : PGs X es g
  lg : LGs B g w
def wgN (i : Nat) : WG := fun d ρ m P => P (ρ.set i (some d)) m
def wgNil : WGs := fun ds ρ m P => match ds with | [] => P ρ m | _ => False
def wgCons (w : WG) (u : WGs) : WGs := fun ds ρ m P => match ds with | d :: r => w d ρ m fun ρ' m' => u r ρ' m' P | _ => False
def wgTup (n : Nat) (u : WGs) : WG := fun d ρ m P => match d with
  | .im (.tuple xs) => xs.length = n ∧ u (xs.map .im) ρ m P
  | .pr x y => n = 2 ∧ u [x, y] ρ m P
  | _ => False
theorem SR.set {N M : List Addr} {H : Hp} {σ : L2.St} {ρ : Slots} (S : SR N M H σ ρ) (i : Nat) {v : V} {d : AV} (r : RV M.length N M H v d) : SR N M H (σ.set i (some v)) (ρ.set i (some d)) := by
  refine ⟨by simp [S.1], fun j e h => ?_⟩
  by_cases z : i = j
  · subst z
    have hl : i < ρ.length := by have := (List.getElem?_eq_some_iff.mp h).1; simpa using this
    rw [List.getElem?_set_self hl] at h
    cases h
    exact ⟨v, List.getElem?_set_self (by rw [S.1]; exact hl), r⟩
  · rw [List.getElem?_set_ne z] at h ⊢
    exact S.2 j e h
section
variable {X : Cx} {B : Bk} {pos : Pos} {e : Expr} {es : List Expr} {g : TG} {gs : TGs} {w : WG} {ws : WGs}
theorem lg_name (i : Nat) : LG B (gName i) (wgN i) := fun N M H σ ρ m v d P Q x0 S R r h q => q M H _ _ m .refl (S.set i r) R h
theorem g_name {i : Nat} (h : PG X e (gName i)) : AG X B e (gName i) (wgN i) := ⟨h, lg_name i⟩
theorem gs_nil : AGs X B [] gNil wgNil := ⟨pgs_nil, fun N M H σ ρ m vs ds P Q x0 S R r h q => by
  cases r with
  | nil => exact ⟨rfl, q M H σ ρ m .refl S R h⟩
  | cons _ _ => exact h.elim⟩
theorem gs_cons (h1 : AG X B e g w) (h2 : AGs X B es gs ws) (hs : (assignEach (e :: es) X.env).map (·.2) = assign e X.env :: (assignEach es X.env).map (·.2) := by rfl) : AGs X B (e :: es) (gCons g gs) (wgCons w ws) :=
  ⟨pgs_cons h1.pg h2.pg hs, fun N M H σ ρ m vs ds P Q x0 S R r h q => by
    cases r with
    | nil => exact h.elim
    | cons r1 r2 => exact ⟨_, _, rfl, h1.lg N M H σ ρ m _ _ _ _ x0 S R r1 h fun M' H' σ' ρ' m' x S' R' h' => h2.lg N M' H' σ' ρ' m' _ _ _ _ (x0.trans x) S' R' (RVs.extL x r2) h' fun M2 H2 σ2 ρ2 m2 x2 S2 R2 h2 => q M2 H2 σ2 ρ2 m2 (x.trans x2) S2 R2 h2⟩⟩
theorem lg_tup {K : PySem.W.Frag} {n : Nat} (h : LGs B gs ws) : LG B (gTup K n gs) (wgTup n ws) := fun N M H σ ρ m v d P Q x0 S R r hw q => by
  unfold wgTup at hw
  split at hw
  · rename_i xs
    cases r with
    | tup n1 e1 z => exact ⟨_, _, rfl, .inl (.inl e1), by rw [z.length]; exact hw.1, h N M H σ ρ m _ _ _ _ x0 S R (to_ims z) hw.2 q⟩
  · obtain ⟨a, u, w', rfl, h2, h3, r1, r2⟩ := r
    exact ⟨a, _, rfl, .inl (.inl h3), hw.1.symm, h N M H σ ρ m _ _ _ _ x0 S R (.cons r1 (.cons r2 .nil)) hw.2 q⟩
  · exact hw.elim
theorem g_tup {k : Nat} {n : Nat} {K : PySem.W.Frag} (hK : X.K = K) (hc : X.calm = true) (h : AGs X B es gs ws) (hn : (assignEach es X.env).length = n := by rfl) (hst : (assignEach es X.env).findIdx? (·.1) = none := by rfl) : AG X B (.Tuple es k pos) (gTup K n gs) (wgTup n ws) :=
  ⟨hK ▸ pg_tup hc h.pg hn hst, lg_tup h.lg⟩
def wAsg (we : WE) (wg : WG) : WS := fun F ρ m => we ρ m fun d m' => wg d ρ m' F.nx
variable {te : TE} {we : WE}
theorem ls_asg (he : LE B te we) (hg : LG B g w) : LS B (tAsg te g) (wAsg we w) := fun N M H σ ρ m F D x0 S R h f => he N M H σ ρ m _ _ x0 S R h fun v d M1 H1 m1 x1 R1 r1 h1 =>
  hg N M1 H1 σ ρ m1 v d _ _ (x0.trans x1) (S.ext x1) R1 r1 h1 fun M2 H2 σ2 ρ2 m2 x2 S2 R2 h2 => f.nx M2 H2 σ2 ρ2 m2 (x1.trans x2) S2 R2 h2
theorem s_asg {tg : Expr} (he : AE X B e te we) (hg : AG X B tg g w) (hs : swapsWithSole [tg] e pos.line X.env = pure false := by rfl) (hw : swappedStores [tg] e X.env = pure none := by rfl)
    (h1 : (assignEach [tg] X.env).map (·.2) = [assign tg X.env] := by rfl) : AS X B (.Assign [tg] e pos) (tAsg te g) (wAsg we w) := ⟨ps_asg he.pe hg.pg hs hw h1, ls_asg he.le hg.lg⟩
theorem s_set {i : Nat} {x : Str} {pos' : Pos} (hN : X.N.Nodup) (hi : X.N[i]? = some x) (hx : Loc X.env.scope x) (he : AE X B e te we) (hs : swapsWith e (some (.Name x pos')) pos.line X.env = pure false := by rfl) (hf : X.fn x = true ∨ X.env.scope.names.lookup x = some .local := by first | exact .inl rfl | exact .inr rfl | assumption) :
    AS X B (.Assign [.Name x pos'] e pos) (tAsg te (gName i)) (wAsg we (wgN i)) := ⟨ps_set hN hi hx he.pe hs hf, ls_asg he.le (lg_name i)⟩
/-- a, b = x, y with plain local names -/
def wPar (is : List Nat) (wl : WL) : WS := fun F ρ m => wl ρ m fun ds m' => ds.length = is.length ∧ F.nx ((is.zip ds).foldl (fun r p => r.set p.1 (some p.2)) ρ) m'
theorem ls_par2 {i j : Nat} {tl : TA} {wl : WL} (h : LA B tl wl) : LS B (tPar i j tl) (wPar [i, j] wl) := fun N M H σ ρ m F D x0 S R hw f => h N M H σ ρ m _ _ x0 S R hw fun vs ds M1 H1 m1 x1 R1 r1 h1 => by
  obtain ⟨hl, h1⟩ := h1
  cases r1 with
  | nil => cases hl
  | cons r1 rr =>
    cases rr with
    | nil => cases hl
    | cons r2 rr =>
      cases rr with
      | nil => exact ⟨_, _, rfl, f.nx M1 H1 _ _ m1 x1 (((S.ext x1).set i r1).set j r2) R1 h1⟩
      | cons _ _ => simp at hl
end
/-! ### what a loop walks -/
/-- later, where the hidden lists too may have changed -/
structure ExtN (N M : List Addr) (H : Hp) (M' : List Addr) (H' : Hp) : Prop where
  pre : M <+: M'
  kp : Kp (M ++ N) H H'
  new : ∀ a, a ∈ M' → a ∉ M → a ∉ N → H a = none
theorem Ext.toN {N M M' : List Addr} {H H' : Hp} (e : Ext M H M' H') : ExtN N M H M' H' := ⟨e.pre, e.kp.more fun b z => List.mem_append_left _ z, fun a h1 h2 _ => e.new a h1 h2⟩
theorem ExtN.get {N M M' : List Addr} {H H' : Hp} (e : ExtN N M H M' H') {i : Nat} {a : Addr} (h : M[i]? = some a) : M'[i]? = some a := by
  obtain ⟨t, rfl⟩ := e.pre
  rw [List.getElem?_append_left (List.getElem?_eq_some_iff.mp h).1]; exact h
structure Wk (J : It) (N M : List Addr) (H : Hp) (xs : List AV) (G : Store → Prop) : Prop where
  goes : ∀ i N2 M2 H2 m2, i < xs.length → ExtN N M H M2 H2 → Rel N2 M2 H2 m2 → G m2 → J.go i H2
  stops : ∀ N2 M2 H2 m2, ExtN N M H M2 H2 → Rel N2 M2 H2 m2 → G m2 → J.stop xs.length H2
  yields : ∀ i x d N2 M2 H2 H3 m2, xs[i]? = some d → (∀ b ∈ N, b ∈ N2) → ExtN N M H M2 H2 → (∀ b ∈ N2, b ∈ N ∨ H b = none) → Rel N2 M2 H2 m2 → G m2 → J.yld i H2 x H3 → (∀ b o, H2 b = some o → H3 b = some o) ∧ RV M2.length N2 M2 H3 x d
abbrev WI := Slots → Store → (List AV → (Store → Prop) → Store → Prop) → Prop
def LI (B : Bk) (wi : TI) (w : WI) : Prop := ∀ N M H σ ρ m P R, B.Ok N M H → SR N M H σ ρ → Rel N M H m → w ρ m P → (∀ J xs G M' H' m', Ext M H M' H' → Rel N M' H' m' → Wk J N M' H' xs G → P xs G m' → R J H') → wi σ H R
structure AI (X : Cx) (B : Bk) (tg e : Expr) (t : TI) (w : WI) : Prop where
  pi : PI X tg e t
  li : LI B t w
/-! ### for -/
def AV.und (n : Nat) : AV → Bool
  | .im _ => true
  | .mu i => decide (i < n)
  | .pr x y => x.und n && y.und n
  | .wl _ => true
/-- the slots whose lists are not forgotten -/
def keepS (n : Nat) (ρ : Slots) : Slots := ρ.map fun o => match o with
  | some d => if d.und n then some d else none
  | none => none
theorem RV.und {N M : List Addr} {H : Hp} {k n : Nat} (hn : n ≤ M.length) : ∀ {v : V} {d : AV}, d.und n = true → RV k N M H v d → RV n N (M.take n) H v d
  | _, .im _, _, r => Gd.Rep.less (fun b z => (List.mem_append.mp z).elim (fun z => List.mem_append_left _ (List.mem_of_mem_take z)) (List.mem_append_right _)) r
  | _, .mu i, h, ⟨h0, a, h1, h2⟩ => by
    have h : i < n := by simpa [AV.und] using h
    exact ⟨h, a, by rw [List.getElem?_take_of_lt h]; exact h1, h2⟩
  | _, .pr x y, h, ⟨a, u, w, h1, h2, h3, r1, r2⟩ => by
    have h : x.und n = true ∧ y.und n = true := by simpa [AV.und] using h
    exact ⟨a, u, w, h1, fun z => h2 ((List.mem_append.mp z).elim (fun z => List.mem_append_left _ (List.mem_of_mem_take z)) (List.mem_append_right _)), h3, r1.und hn h.1, r2.und hn h.2⟩
  | _, .wl _, _, ⟨a, us, h1, h2, h3, r⟩ => ⟨a, us, h1, fun z => h2 ((List.mem_append.mp z).elim (fun z => List.mem_append_left _ (List.mem_of_mem_take z)) (List.mem_append_right _)), h3, Gd.Reps.less (fun b z => (List.mem_append.mp z).elim (fun z => List.mem_append_left _ (List.mem_of_mem_take z)) (List.mem_append_right _)) r⟩
theorem SR.keepS {N M : List Addr} {H : Hp} {σ : L2.St} {ρ : Slots} {n : Nat} (hn : n ≤ M.length) (S : SR N M H σ ρ) : SR N (M.take n) H σ (keepS n ρ) := by
  refine ⟨by simp [Ab.keepS, S.1], fun i d h => ?_⟩
  unfold Ab.keepS at h
  rw [List.getElem?_map] at h
  obtain ⟨o, h1, h2⟩ := Option.map_eq_some_iff.mp h
  cases o with
  | none => cases h2
  | some e =>
    simp only at h2
    split at h2
    · rename_i c
      cases h2
      obtain ⟨v, a, b⟩ := S.2 i d h1
      refine ⟨v, a, ?_⟩
      rw [List.length_take, Nat.min_eq_left hn]
      exact b.und hn c
    · cases h2
def forL (n : Nat) (G : Store → Prop) (b : AV → WS) (F : Fin) : List AV → Slots → Store → Prop
  | [], ρ, m => G m ∧ F.nx ρ m
  | x :: r, ρ, m => G m ∧ b x { nx := fun ρ' m' => forL n G b F r (keepS n ρ') (m'.take n), rt := F.rt, bk := F.nx, ct := fun ρ' m' => forL n G b F r (keepS n ρ') (m'.take n) } ρ m
def wFor (wi : WI) (wg : WG) (wb : WS) : WS := fun F ρ m => wi ρ m fun xs G m1 => forL m1.length G (fun x F' ρ' m' => wg x ρ' m' fun ρ2 m2 => wb F' ρ2 m2) F xs ρ m1
section
variable {X : Cx} {B : Bk} {pos : Pos}
theorem ls_for {wi : TI} {g : TG} {tb : TS} {w : WI} {wg : WG} {wb : WS} (hi : LI B wi w) (hg : LG B g wg) (hb : LS B tb wb) : LS B (tFor wi g tb) (wFor w wg wb) := fun N M H σ ρ m F D x0 S R h f => by
  refine hi N M H σ ρ m _ _ x0 S R h fun J xs G M1 H1 m1 x1 R1 wk h1 => ?_
  refine ⟨fun i k σ' H' => k = xs.length - i ∧ i ≤ xs.length ∧ ∃ M' ρ' m', Ext M1 H1 M' H' ∧ M'.length = M1.length ∧ SR N M' H' σ' ρ' ∧ Rel N M' H' m' ∧ forL m1.length G (fun x F' ρ' m' => wg x ρ' m' fun ρ2 m2 => wb F' ρ2 m2) F (xs.drop i) ρ' m', ⟨_, rfl, Nat.zero_le _, M1, ρ, m1, .refl, rfl, S.ext x1, R1, by simpa using h1⟩, ?_⟩
  rintro i k σ' H' ⟨rfl, hi, M', ρ', m', x2, l2, S2, R2, h2⟩
  by_cases hlt : i < xs.length
  · rw [List.drop_eq_getElem_cons hlt] at h2
    obtain ⟨g0, h2⟩ := h2
    refine .inr ⟨wk.goes i N M' H' m' hlt x2.toN R2 g0, fun σ3 H3 => ∃ M3 ρ3 m3, Ext M' H' M3 H3 ∧ SR N M3 H3 σ3 ρ3 ∧ Rel N M3 H3 m3 ∧ forL m1.length G (fun x F' ρ' m' => wg x ρ' m' fun ρ2 m2 => wb F' ρ2 m2) F (xs.drop (i + 1)) (keepS m1.length ρ3) (m3.take m1.length), ?_, ?_⟩
    · rintro σ3 H3 ⟨M3, ρ3, m3, x3, S3, R3, h3⟩
      have hle : m1.length ≤ M3.length := by rw [← R1.len]; exact (x2.trans x3).len
      have c := (x2.trans x3).cut
      rw [R1.len] at c
      exact ⟨xs.length - (i + 1), by omega, rfl, hlt, M3.take m1.length, _, _, c, by rw [List.length_take, R1.len]; omega, S3.keepS hle, R3.cut _, h3⟩
    · intro x H3 y
      obtain ⟨k3, rx⟩ := wk.yields i x xs[i] N M' H' H3 m' (List.getElem?_eq_getElem hlt) (fun _ z => z) x2.toN (fun b z => .inl z) R2 g0 y
      obtain ⟨R3, x3⟩ := R2.kept k3
      refine hg N M' H3 σ' ρ' m' x _ _ _ (((x0.trans x1).trans x2).trans x3) (S2.ext x3) R3 rx h2 fun M4 H4 σ4 ρ4 m4 x4 S4 R4 h4 => ?_
      refine hb N M4 H4 σ4 ρ4 m4 _ _ ((((x0.trans x1).trans x2).trans x3).trans x4) S4 R4 h4 ?_
      have xx := x3.trans x4
      exact ⟨fun M5 H5 σ5 ρ5 m5 x5 S5 R5 h5 => ⟨M5, ρ5, m5, xx.trans x5, S5, R5, h5⟩, fun M5 H5 v d m5 x5 R5 r5 h5 => f.rt M5 H5 v d m5 (((x1.trans x2).trans xx).trans x5) R5 r5 h5,
        fun M5 H5 σ5 ρ5 m5 x5 S5 R5 h5 => f.nx M5 H5 σ5 ρ5 m5 (((x1.trans x2).trans xx).trans x5) S5 R5 h5, fun M5 H5 σ5 ρ5 m5 x5 S5 R5 h5 => ⟨M5, ρ5, m5, xx.trans x5, S5, R5, h5⟩⟩
  · have e : i = xs.length := by omega
    subst e
    rw [List.drop_length] at h2
    exact .inl ⟨wk.stops N M' H' m' x2.toN R2 h2.1, f.nx M' H' σ' ρ' m' (x1.trans x2) S2 R2 h2.2⟩
theorem s_for {tg iter : Expr} {body : List Stmt} {wi : TI} {g : TG} {tb : TS} {w : WI} {wg : WG} {wb : WS} (hp : PassesOwn (model X.prog X.w) X.A X.env X.xe) (hc : X.calm = true) (hi : AI X B tg iter wi w) (hg : AG X B tg g wg) (hb : ASs X B body tb wb)
    (hs : ∀ x, foldedSetIterable iter X.env x = pure x := by intro _; rfl) : AS X B (.For tg iter body [] pos) (tFor wi g tb) (wFor w wg wb) := ⟨ps_for hp hc hi.pi hg.pg hb.ps hs, ls_for hi.li hg.lg hb.ls⟩
/-! ### while -/
def wWhile (wc : WT) (wb : WS) : WS := fun F ρ m => ∃ W : Nat → Slots → Store → Prop, (∃ k, W k ρ m) ∧ ∀ k ρ m, W k ρ m → wc ρ m fun b m1 =>
  if b = true then ∃ N : Slots → Store → Prop, (∀ ρ' m', N ρ' m' → ∃ k', k' < k ∧ W k' ρ' m') ∧ wb { nx := N, rt := F.rt, bk := F.nx, ct := N } ρ m1 else F.nx ρ m1
theorem s_while {c : Expr} {body : List Stmt} {tc : TT} {tb : TS} {wc : WT} {wb : WS} (hp : PassesOwn (model X.prog X.w) X.A X.env X.xe) (hc : AT X B c tc wc) (hb : ASs X B body tb wb) : AS X B (.While c body [] pos) (tWhile tc tb) (wWhile wc wb) := by
  refine ⟨ps_while hp hc.pt hb.ps, fun N M H σ ρ m F D x0 S R h f => ?_⟩
  obtain ⟨W, ⟨k0, w0⟩, turn⟩ := h
  refine ⟨fun k σ' H' => ∃ M' ρ' m', Ext M H M' H' ∧ SR N M' H' σ' ρ' ∧ Rel N M' H' m' ∧ W k ρ' m', ⟨k0, M, ρ, m, .refl, S, R, w0⟩, ?_⟩
  rintro k σ' H' ⟨M', ρ', m', x1, S1, R1, w1⟩
  refine hc.lt N M' H' σ' ρ' m' _ _ (x0.trans x1) S1 R1 (turn k ρ' m' w1) fun b M2 H2 m2 x2 R2 h2 => ?_
  cases b with
  | false => exact f.nx M2 H2 σ' ρ' m2 (x1.trans x2) (S1.ext x2) R2 h2
  | true =>
    obtain ⟨Nn, hN, h2⟩ := h2
    refine ⟨fun σ3 H3 => ∃ M3 ρ3 m3, Ext M H M3 H3 ∧ SR N M3 H3 σ3 ρ3 ∧ Rel N M3 H3 m3 ∧ Nn ρ3 m3, ?_, ?_⟩
    · rintro σ3 H3 ⟨M3, ρ3, m3, x3, S3, R3, n3⟩
      obtain ⟨k', lt, w3⟩ := hN ρ3 m3 n3
      exact ⟨k', lt, M3, ρ3, m3, x3, S3, R3, w3⟩
    · refine hb.ls N M2 H2 σ' ρ' m2 _ _ ((x0.trans x1).trans x2) (S1.ext x2) R2 h2 ?_
      exact ⟨fun M5 H5 σ5 ρ5 m5 x5 S5 R5 h5 => ⟨M5, ρ5, m5, (x1.trans x2).trans x5, S5, R5, h5⟩, fun M5 H5 v d m5 x5 R5 r5 h5 => f.rt M5 H5 v d m5 ((x1.trans x2).trans x5) R5 r5 h5,
        fun M5 H5 σ5 ρ5 m5 x5 S5 R5 h5 => f.nx M5 H5 σ5 ρ5 m5 ((x1.trans x2).trans x5) S5 R5 h5, fun M5 H5 σ5 ρ5 m5 x5 S5 R5 h5 => ⟨M5, ρ5, m5, (x1.trans x2).trans x5, S5, R5, h5⟩⟩
end
end Ab
end

section
set_option maxRecDepth 100000
set_option maxHeartbeats 2000000
/-! Readings over data: what is walked; comprehensions. -/
namespace Ab
open PySem PySem.Spec PyProof.Rows L2 Gd RZ
abbrev yes : Store → Prop := fun _ => True
section
variable {J : It} {N M : List Addr} {H : Hp} {m : Store} {K : PySem.W.Frag} {a : Addr}
theorem mapIm {xs : List PyData} {i : Nat} {d : AV} (h : (xs.map AV.im)[i]? = some d) : ∃ e, xs[i]? = some e ∧ d = .im e := by
  rw [List.getElem?_map] at h
  obtain ⟨e, h1, h2⟩ := Option.map_eq_some_iff.mp h
  exact ⟨e, h1, h2.symm⟩
/-- data seen by those who hide more -/
theorem sees {N2 M2 : List Addr} {H2 : Hp} {b : Addr} {o : HO} (e : ExtN N M H M2 H2) (n2 : ∀ b ∈ N2, b ∈ N ∨ H b = none) (h2 : b ∉ M ++ N) (h3 : H b = some o) : b ∉ M2 ++ N2 := fun z => by
  rcases List.mem_append.mp z with z | z
  · have := e.new b z (fun q => h2 (List.mem_append_left _ q)) fun q => h2 (List.mem_append_right _ q)
    rw [this] at h3; cases h3
  · rcases n2 b z with q | q
    · exact h2 (List.mem_append_right _ q)
    · rw [q] at h3; cases h3
theorem seesK {N2 M2 : List Addr} {H2 : Hp} (e : ExtN N M H M2 H2) (nn : ∀ b ∈ N, b ∈ N2) : Kp (M2 ++ N2) H H2 := fun b o hb eb => e.kp b o (fun z => hb ((List.mem_append.mp z).elim (fun z => List.mem_append_left _ (e.pre.subset z)) fun z => List.mem_append_right _ (nn b z))) eb
theorem Rep.seen {N2 M2 : List Addr} {H2 : Hp} {v : V} {d : PyData} (e : ExtN N M H M2 H2) (nn : ∀ b ∈ N, b ∈ N2) (n2 : ∀ b ∈ N2, b ∈ N ∨ H b = none) (r : Rep (M ++ N) H v d) : Rep (M2 ++ N2) H2 v d :=
  Gd.Rep.keep (seesK e nn) (Gd.Rep.swap (fun b o hb nb => sees e n2 nb hb) r)
theorem Reps.seen {N2 M2 : List Addr} {H2 : Hp} {v : List V} {d : List PyData} (e : ExtN N M H M2 H2) (nn : ∀ b ∈ N, b ∈ N2) (n2 : ∀ b ∈ N2, b ∈ N ∨ H b = none) (r : Reps (M ++ N) H v d) : Reps (M2 ++ N2) H2 v d :=
  Gd.Reps.keep (seesK e nn) (Gd.Reps.swap (fun b o hb nb => sees e n2 nb hb) r)
theorem RV.seen {n : Nat} {N2 M2 : List Addr} {H2 : Hp} (e : ExtN N M H M2 H2) (nn : ∀ b ∈ N, b ∈ N2) (n2 : ∀ b ∈ N2, b ∈ N ∨ H b = none) : ∀ {v : V} {d : AV}, RV n N M H v d → RV n N2 M2 H2 v d
  | _, .im _, r => Rep.seen e nn n2 r
  | _, .mu _, ⟨h, a, h1, h2⟩ => ⟨h, a, e.get h1, h2⟩
  | _, .pr _ _, ⟨b, s, t, h1, h2, h3, r1, r2⟩ => ⟨b, s, t, h1, sees e n2 h2 h3, e.kp b _ h2 h3, RV.seen e nn n2 r1, RV.seen e nn n2 r2⟩
  | _, .wl _, ⟨b, us, h1, h2, h3, r⟩ => ⟨b, us, h1, sees e n2 h2 h3, e.kp b _ h2 h3, Reps.seen e nn n2 r⟩
theorem wk_tup {us : List V} {xs : List PyData} (na : a ∉ M ++ N) (ha : H a = some (.tup us)) (r : Reps (M ++ N) H us xs) : Wk (Itt K a) N M H (xs.map .im) yes := by
  have l := r.length
  refine ⟨fun i N2 M2 H2 m2 hi e _ _ => ?_, fun N2 M2 H2 m2 e _ _ => ⟨us, .inl (.inl (e.kp a _ na ha)), by simp [l]⟩, fun i x d N2 M2 H2 H3 m2 hd nn e n2 _ _ y => ?_⟩
  · have hi : i < us.length := by simpa [l] using hi
    exact ⟨us, us[i], .inl (.inl (e.kp a _ na ha)), by simp [hi]⟩
  · obtain ⟨rfl, y2⟩ := y
    obtain ⟨f, h1, rfl⟩ := mapIm hd
    obtain ⟨v, h2, h3⟩ := r.at' h1
    have := y2 us (.inl (.inl (e.kp a _ na ha)))
    rw [h2] at this
    cases this
    exact ⟨fun _ _ z => z, Rep.seen e nn n2 h3⟩
theorem wk_list {us : List V} {xs : List PyData} (na : a ∉ M ++ N) (ha : H a = some (.lst us)) (r : Reps (M ++ N) H us xs) : Wk (Itl K a) N M H (xs.map .im) yes := by
  have l := r.length
  refine ⟨fun i N2 M2 H2 m2 hi e _ _ => ?_, fun N2 M2 H2 m2 e _ _ => ⟨us, .inl (.inl (e.kp a _ na ha)), by simp [l]⟩, fun i x d N2 M2 H2 H3 m2 hd nn e n2 _ _ y => ?_⟩
  · have hi : i < us.length := by simpa [l] using hi
    exact ⟨us, us[i], .inl (.inl (e.kp a _ na ha)), by simp [hi]⟩
  · obtain ⟨rfl, y2⟩ := y
    obtain ⟨f, h1, rfl⟩ := mapIm hd
    obtain ⟨v, h2, h3⟩ := r.at' h1
    have := y2 us (.inl (.inl (e.kp a _ na ha)))
    rw [h2] at this
    cases this
    exact ⟨fun _ _ z => z, Rep.seen e nn n2 h3⟩
/-- a list that may change: as long as it does not -/
theorem wk_mu {i : Nat} {xs : List AV} (ha : M[i]? = some a) : Wk (Itl K a) N M H xs (fun m => m[i]? = some (.lst xs)) := by
  refine ⟨fun j N2 M2 H2 m2 hj e R g => ?_, fun N2 M2 H2 m2 e R g => ?_, fun j x d N2 M2 H2 H3 m2 hd _ e n2 R g y => ?_⟩
  · obtain ⟨us, h1, h2⟩ := R.cell i a _ (e.get ha) g
    have hj : j < us.length := by rw [pair_len h2]; exact hj
    exact ⟨us, us[j], .inl (.inl h1), by simp [hj]⟩
  · obtain ⟨us, h1, h2⟩ := R.cell i a _ (e.get ha) g
    exact ⟨us, .inl (.inl h1), Nat.le_of_eq (pair_len h2)⟩
  · obtain ⟨us, h1, h2⟩ := R.cell i a _ (e.get ha) g
    obtain ⟨rfl, y2⟩ := y
    obtain ⟨v, h3, h4⟩ := pair_at h2 hd
    have := y2 us (.inl (.inl h1))
    rw [h3] at this
    cases this
    have hi := (List.getElem?_eq_some_iff.mp (e.get ha)).1
    exact ⟨fun _ _ z => z, h4.up (by omega)⟩
theorem wk_pr {x y : AV} {u w : V} (na : a ∉ M ++ N) (ha : H a = some (.tup [u, w])) (r1 : RV M.length N M H u x) (r2 : RV M.length N M H w y) : Wk (Itt K a) N M H [x, y] yes := by
  refine ⟨fun i N2 M2 H2 m2 hi e _ _ => ⟨[u, w], [u, w][i]'hi, .inl (.inl (e.kp a _ na ha)), List.getElem?_eq_getElem (l := [u, w]) hi⟩, fun N2 M2 H2 m2 e _ _ => ⟨[u, w], .inl (.inl (e.kp a _ na ha)), Nat.le_refl _⟩, fun i v d N2 M2 H2 H3 m2 hd nn e n2 _ _ y' => ?_⟩
  obtain ⟨rfl, y2⟩ := y'
  have := y2 _ (.inl (.inl (e.kp a _ na ha)))
  have hide : ∀ {v : V} {d : AV}, RV M.length N M H v d → RV M2.length N2 M2 H3 v d := fun r => (RV.seen e nn n2 r).up e.pre.length_le
  match i, hd with
  | 0, hd => cases hd; cases this; exact ⟨fun _ _ z => z, hide r1⟩
  | 1, hd => cases hd; cases this; exact ⟨fun _ _ z => z, hide r2⟩
theorem wk_str {z : Str} : Wk (Its z) N M H (z.cps.toList.map fun c => .im (.str ⟨#[c]⟩)) yes := by
  refine ⟨fun i N2 M2 H2 m2 hi _ _ _ => by show i < z.cps.size; simpa using hi, fun N2 M2 H2 m2 _ _ _ => by show z.cps.size ≤ _; simp, fun i x d N2 M2 H2 H3 m2 hd nn e n2 _ _ y => ?_⟩
  obtain ⟨rfl, c, hc, rfl⟩ := y
  rw [List.getElem?_map, Array.getElem?_toList, hc] at hd
  cases hd
  exact ⟨fun _ _ z => z, .str _⟩
theorem wk_rng {lo : Int} {n : Nat} : Wk (Itr lo n) N M H ((List.range n).map fun i => .im (.int (lo + (i : Nat)))) yes := by
  refine ⟨fun i N2 M2 H2 m2 hi _ _ _ => by show i < n; simpa using hi, fun N2 M2 H2 m2 _ _ _ => by show n ≤ _; simp, fun i x d N2 M2 H2 H3 m2 hd nn e n2 _ _ y => ?_⟩
  obtain ⟨rfl, rfl⟩ := y
  have hi : i < n := by have := (List.getElem?_eq_some_iff.mp hd).1; simpa using this
  rw [List.getElem?_map, List.getElem?_range hi] at hd
  cases hd
  exact ⟨fun _ _ z => z, .int _⟩
end
section
variable {X : Cx} {B : Bk} {e tg : Expr} {t : TE} {w : WE} {K : PySem.W.Frag}
def wiTup (w : WE) : WI := fun ρ m P => w ρ m fun d m1 => match d with
  | .im (.tuple xs) => P (xs.map .im) yes m1
  | .pr x y => P [x, y] yes m1
  | _ => False
def wiList (w : WE) : WI := fun ρ m P => w ρ m fun d m1 => match d with
  | .im (.list xs) => P (xs.map .im) yes m1
  | .wl xs => P (xs.map .im) yes m1
  | .mu i => (match m1[i]? with | some (.lst xs) => P xs (fun m => m[i]? = some (.lst xs)) m1 | _ => False)
  | _ => False
def wiStr (w : WE) : WI := fun ρ m P => w ρ m fun d m1 => match d with
  | .im (.str z) => P (z.cps.toList.map fun c => .im (.str ⟨#[c]⟩)) yes m1
  | _ => False
theorem ai_tup (hK : X.K = K) (h : AE X B e t w) : AI X B tg e (iTup K t) (wiTup w) := ⟨hK ▸ pi_tup h.pe, fun N M H σ ρ m P R x0 S Rl hw q => h.le N M H σ ρ m _ _ x0 S Rl hw fun v d M1 H1 m1 x1 R1 r1 h1 => by
  split at h1
  · cases r1 with
    | tup n e z => exact ⟨_, rfl, ⟨_, .inl (.inl e)⟩, q _ _ yes M1 H1 m1 x1 R1 (wk_tup n e z) h1⟩
  · obtain ⟨a, u, w', rfl, n, e, s1, s2⟩ := r1
    exact ⟨_, rfl, ⟨_, .inl (.inl e)⟩, q _ _ yes M1 H1 m1 x1 R1 (wk_pr n e s1 s2) h1⟩
  · exact h1.elim⟩
theorem ai_list (hK : X.K = K) (h : AE X B e t w) : AI X B tg e (iList K t) (wiList w) := ⟨hK ▸ pi_list h.pe, fun N M H σ ρ m P R x0 S Rl hw q => h.le N M H σ ρ m _ _ x0 S Rl hw fun v d M1 H1 m1 x1 R1 r1 h1 => by
  split at h1
  · cases r1 with
    | lst n ne e z => exact ⟨_, rfl, ⟨_, .inl (.inl e)⟩, q _ _ yes M1 H1 m1 x1 R1 (wk_list n e z) h1⟩
  · obtain ⟨a, us, rfl, n, e, z⟩ := r1
    exact ⟨_, rfl, ⟨_, .inl (.inl e)⟩, q _ _ yes M1 H1 m1 x1 R1 (wk_list n e z) h1⟩
  · rename_i i
    obtain ⟨hi, a, ha, rfl⟩ := r1
    split at h1
    · rename_i xs ex
      obtain ⟨us, h3, h4⟩ := R1.cell i a _ ha ex
      exact ⟨a, rfl, ⟨_, .inl (.inl h3)⟩, q _ _ _ M1 H1 m1 x1 R1 (wk_mu ha) h1⟩
    · exact h1.elim
  · exact h1.elim⟩
theorem ai_str (h : AE X B e t w) : AI X B tg e (iStr t) (wiStr w) := ⟨pi_str h.pe, fun N M H σ ρ m P R x0 S Rl hw q => h.le N M H σ ρ m _ _ x0 S Rl hw fun v d M1 H1 m1 x1 R1 r1 h1 => by
  split at h1
  · cases r1
    exact ⟨_, rfl, q _ _ yes M1 H1 m1 x1 R1 wk_str h1⟩
  · exact h1.elim⟩
variable {ta : TA} {wa : WL} {a b : Expr} {p pos : Pos}
abbrev Lim (i : Int) : Prop := -(2 ^ 62) ≤ i ∧ i < 2 ^ 62
def rngL (lo : Int) (n : Nat) : List AV := (List.range n).map fun i => .im (.int (lo + (i : Nat)))
def wiR1 (wa : WL) : WI := fun ρ m P => wa ρ m fun ds m1 => match ds with
  | [.im (.int j)] => Lim j ∧ P (rngL 0 j.toNat) yes m1
  | _ => False
def wiR2 (wa : WL) : WI := fun ρ m P => wa ρ m fun ds m1 => match ds with
  | [.im (.int i), .im (.int j)] => Lim i ∧ Lim j ∧ P (rngL i (j - i).toNat) yes m1
  | _ => False
theorem ai_r1 (hg : Gl X "range") (hm : X.mg "range" = none) (ha : AL X B [a] ta wa) (hs : starEach [a] X.env = [(false, eval a X.env)] := by rfl) : AI X B tg (.Call (.Name "range" p) [a] [] pos) (iRng1 ta) (wiR1 wa) :=
  ⟨pi_range1 hg hm ha.pa hs, fun N M H σ ρ m P R x0 S Rl hw q => ha.la N M H σ ρ m _ _ x0 S Rl hw fun vs ds M1 H1 m1 x1 R1 r1 h1 => by
    split at h1
    · rename_i j
      cases r1 with
      | cons r1 rr =>
        cases rr
        cases r1
        exact ⟨j, rfl, h1.1.1, h1.1.2, q _ _ yes M1 H1 m1 x1 R1 wk_rng h1.2⟩
    · exact h1.elim⟩
theorem ai_r2 (hg : Gl X "range") (hm : X.mg "range" = none) (ha : AL X B [a, b] ta wa) (hs : starEach [a, b] X.env = [(false, eval a X.env), (false, eval b X.env)] := by rfl) (hs2 : starEach [b] X.env = [(false, eval b X.env)] := by rfl) : AI X B tg (.Call (.Name "range" p) [a, b] [] pos) (iRng2 ta) (wiR2 wa) :=
  ⟨pi_range2 hg hm ha.pa hs hs2, fun N M H σ ρ m P R x0 S Rl hw q => ha.la N M H σ ρ m _ _ x0 S Rl hw fun vs ds M1 H1 m1 x1 R1 r1 h1 => by
    split at h1
    · rename_i i j
      cases r1 with
      | cons r1 rr =>
        cases rr with
        | cons r2 rr =>
          cases rr
          cases r1
          cases r2
          exact ⟨i, j, rfl, ⟨h1.1.1, h1.1.2, h1.2.1.1, h1.2.1.2⟩, q _ _ yes M1 H1 m1 x1 R1 wk_rng h1.2.2⟩
    · exact h1.elim⟩
end
/-! ### comprehensions -/
theorem wipe_set (σ : L2.St) (i : Nat) (v : Option V) : ∀ vs : List Nat, i ∈ vs → wipe (σ.set i v) vs = wipe σ vs
  | [], h => nomatch h
  | j :: vs, h => by
    unfold wipe
    by_cases z : i = j
    · subst z
      by_cases y : i ∈ vs
      · rw [wipe_set σ i v vs y]
      · have c : ∀ ws : List Nat, i ∉ ws → wipe (σ.set i v) ws = (wipe σ ws).set i v := fun ws => by
          induction ws with
          | nil => intro _; rfl
          | cons k ws ih =>
            intro hk
            simp only [List.mem_cons, not_or] at hk
            unfold wipe
            rw [ih hk.2, List.set_comm _ _ (hk.1)]
        rw [c vs y, List.set_set]
    · rw [wipe_set σ i v vs ((List.mem_cons.mp h).resolve_left z)]
theorem set_none_none (σ : L2.St) (i : Nat) : (σ.set i none).set i none = σ.set i none := List.set_set ..
theorem wipe_comm (σ : L2.St) (i : Nat) : ∀ vs : List Nat, wipe (σ.set i none) vs = (wipe σ vs).set i none
  | [] => rfl
  | j :: vs => by
    unfold wipe
    rw [wipe_comm σ i vs]
    by_cases z : i = j
    · subst z; rfl
    · rw [List.set_comm _ _ z]
theorem wipe_wipe (σ : L2.St) : ∀ vs : List Nat, wipe (wipe σ vs) vs = wipe σ vs
  | [] => rfl
  | j :: vs => by
    show (wipe ((wipe σ vs).set j none) vs).set j none = (wipe σ vs).set j none
    rw [wipe_comm, wipe_wipe σ vs, List.set_set]
def wipeS (ρ : Slots) : List Nat → Slots
  | [] => ρ
  | v :: vs => (wipeS ρ vs).set v none
theorem SR.setN {N M : List Addr} {H : Hp} {σ : L2.St} {ρ : Slots} (S : SR N M H σ ρ) (i : Nat) : SR N M H (σ.set i none) (ρ.set i none) := by
  refine ⟨by simp [S.1], fun j e h => ?_⟩
  by_cases z : i = j
  · subst z
    have hl : i < ρ.length := by have := (List.getElem?_eq_some_iff.mp h).1; simpa using this
    rw [List.getElem?_set_self hl] at h
    cases h
  · rw [List.getElem?_set_ne z] at h ⊢
    exact S.2 j e h
theorem SR.wipe {N M : List Addr} {H : Hp} {σ : L2.St} {ρ : Slots} (S : SR N M H σ ρ) : ∀ vs : List Nat, SR N M H (L2.wipe σ vs) (wipeS ρ vs)
  | [] => S
  | v :: vs => (S.wipe vs).setN v
/-- a target that stores into the comprehension's own slots alone -/
def Own (g : TG) (vs : List Nat) : Prop := ∀ v σ H Q, g v σ H Q → g v σ H fun σ2 H2 => wipe σ2 vs = wipe σ vs ∧ Q σ2 H2
def Owns (g : TGs) (vs : List Nat) : Prop := ∀ xs σ H Q, g xs σ H Q → g xs σ H fun σ2 H2 => wipe σ2 vs = wipe σ vs ∧ Q σ2 H2
theorem own_name {i : Nat} {vs : List Nat} (h : i ∈ vs) : Own (gName i) vs := fun v σ H Q q => ⟨wipe_set σ i _ vs h, q⟩
theorem owns_nil {vs : List Nat} : Owns gNil vs := fun xs σ H Q ⟨a, q⟩ => ⟨a, rfl, q⟩
/-- a reading of targets can be weakened -/
def GMono (g : TG) : Prop := ∀ v σ H (Q Q' : L2.St → Hp → Prop), g v σ H Q → (∀ σ2 H2, Q σ2 H2 → Q' σ2 H2) → g v σ H Q'
def GsMono (g : TGs) : Prop := ∀ v σ H (Q Q' : L2.St → Hp → Prop), g v σ H Q → (∀ σ2 H2, Q σ2 H2 → Q' σ2 H2) → g v σ H Q'
theorem mono_name (i : Nat) : GMono (gName i) := fun v σ H Q Q' q h => h _ _ q
theorem mono_nil : GsMono gNil := fun v σ H Q Q' ⟨a, q⟩ h => ⟨a, h _ _ q⟩
theorem mono_cons {g : TG} {gs : TGs} (a : GMono g) (b : GsMono gs) : GsMono (gCons g gs) := fun v σ H Q Q' ⟨x, r, e, q⟩ h => ⟨x, r, e, a _ _ _ _ _ q fun _ _ q => b _ _ _ _ _ q h⟩
theorem mono_tup {K : PySem.W.Frag} {n : Nat} {gs : TGs} (b : GsMono gs) : GMono (gTup K n gs) := fun v σ H Q Q' ⟨a, xs, e, s, l, q⟩ h => ⟨a, xs, e, s, l, b _ _ _ _ _ q h⟩
theorem owns_cons {g : TG} {gs : TGs} {vs : List Nat} (m : GMono g) (mm : GsMono gs) (a : Own g vs) (b : Owns gs vs) : Owns (gCons g gs) vs := fun xs σ H Q ⟨x, r, e, q⟩ =>
  ⟨x, r, e, m _ _ _ _ _ (a _ _ _ _ q) fun σ2 H2 ⟨e2, q⟩ => mm _ _ _ _ _ (b _ _ _ _ q) fun σ3 H3 ⟨e3, q⟩ => ⟨e3.trans e2, q⟩⟩
theorem own_tup {K : PySem.W.Frag} {n : Nat} {gs : TGs} {vs : List Nat} (b : Owns gs vs) : Own (gTup K n gs) vs := fun v σ H Q ⟨a, xs, e, s, l, q⟩ => ⟨a, xs, e, s, l, b _ _ _ _ q⟩
abbrev WTs := Slots → Store → (Bool → Store → Prop) → Prop
def wYes : WT := fun _ m P => P true m
theorem lt_yes {B : Bk} : LT B tYes wYes := fun N M H σ ρ m P Q x0 S R h q => q true M H m .refl R h
structure ATs (X : Cx) (B : Bk) (ifs : List Expr) (t : TT) (w : WT) : Prop where
  pt : PTs X ifs t
  lt : LT B t w
section
variable {X : Cx} {B : Bk} {c : Expr} {t : TT} {w : WT}
theorem ts_nil : ATs X B [] tYes wYes := ⟨pts_nil, lt_yes⟩
theorem ts_one (h : AT X B c t w) : ATs X B [c] t w := ⟨pts_one h.pt, h.lt⟩
end
/-- the items found, one after another; what a turn made that may change is forgotten -/
def lcL (n : Nat) (G : Store → Prop) (f : AV → Store → (Option AV → Store → Prop) → Prop) : List AV → Store → (List AV → Store → Prop) → Prop
  | [], m, P => G m ∧ P [] m
  | x :: r, m, P => G m ∧ f x m fun y m1 => (∀ z, y = some z → z.und n = true) ∧ lcL n G f r (m1.take n) fun ys m2 => P (match y with | some z => z :: ys | none => ys) m2
def turnL (vs : List Nat) (wg : WG) (wt : WT) (we : WE) (ρ : Slots) : AV → Store → (Option AV → Store → Prop) → Prop := fun x m K => wg x (wipeS ρ vs) m fun ρ2 m2 => wt ρ2 m2 fun b m3 => if b = true then we ρ2 m3 fun y m4 => K (some y) m4 else K none m3
def wLcs (vs : List Nat) (wi : WI) (wg : WG) (wt : WT) (we : WE) (ρ : Slots) (m : Store) (P : List AV → Store → Prop) : Prop := wi ρ m fun xs G m1 => xs.length ≤ sizeLine ∧ lcL m1.length G (turnL vs wg wt we ρ) xs m1 P
theorem lcL_mono {n : Nat} {G : Store → Prop} {f : AV → Store → (Option AV → Store → Prop) → Prop} (fm : ∀ x m K K', f x m K → (∀ y m, K y m → K' y m) → f x m K') : ∀ {xs : List AV} {m : Store} {P Q : List AV → Store → Prop}, lcL n G f xs m P → (∀ ys m, P ys m → Q ys m) → lcL n G f xs m Q
  | [], _, _, _, h, q => ⟨h.1, q _ _ h.2⟩
  | x :: r, m, _, _, h, q => ⟨h.1, fm _ _ _ _ h.2 fun y m1 ⟨a, b⟩ => ⟨a, lcL_mono fm b fun ys m2 => q _ m2⟩⟩
/-- the list as it stands behind the walk: D, ys -/
theorem le_lcs {B : Bk} {wi : TI} {g : TG} {tt : TT} {te : TE} {vs : List Nat} {w : WI} {wg : WG} {wt : WT} {we : WE} (hi : LI B wi w) (hg : LG B g wg) (ho : Own g vs) (hgm : GMono g) (ht : LT B tt wt) (he : LE B te we)
    {N M : List Addr} {H : Hp} {σ : L2.St} {ρ : Slots} {m : Store} {P : List AV → Store → Prop} {Q : VK} (x0 : B.Ok N M H) (S : SR N M H σ ρ) (R : Rel N M H m) (h : wLcs vs w wg wt we ρ m P)
    (q : ∀ D us ys M' H' m', Ext M H M' H' → H D = none → D ∉ M' → D ∉ N → H' D = some (.lst us) → Rel (D :: N) M' H' m' → RVs M'.length (D :: N) M' H' us ys → us.length ≤ sizeLine → P ys m' → Q (.ref D) H') : tLc wi g tt te vs σ H Q := by
  refine hi N M H σ ρ m _ _ x0 S R h fun J xs G M1 H1 m1 x1 R1 wk ⟨hz, h1⟩ => fun D hD => ?_
  have nD : D ∉ M1 := R1.liveM.fresh hD
  have nDN : D ∉ N := fun z => by obtain ⟨o, e⟩ := R1.there D z; rw [hD] at e; cases e
  refine ⟨fun i k H' => k = xs.length - i ∧ i ≤ xs.length ∧ ∃ M' m' us acc, Ext M1 H1 M' H' ∧ M'.length = M1.length ∧ D ∉ M' ∧ H' D = some (.lst us) ∧ us.length ≤ i ∧ SR (D :: N) M' H' σ ρ ∧ Rel (D :: N) M' H' m' ∧ RVs M'.length (D :: N) M' H' us acc ∧
    lcL m1.length G (turnL vs wg wt we ρ) (xs.drop i) m' fun ys m'' => P (acc ++ ys) m'', ⟨_, rfl, Nat.zero_le _, M1, m1, [], [], .alloc hD, rfl, nD, upd_same, Nat.le_refl _, (S.ext x1).hide hD, R1.hide hD, .nil, by simpa using h1⟩, ?_⟩
  rintro i k H' ⟨rfl, hi, M', m', us, acc, x2, l2, nD2, eD, lu, S2, R2, ra, h2⟩
  have old : ∀ b ∈ D :: N, b ∈ N ∨ H1 b = none := fun b hb => (List.mem_cons.mp hb).elim (fun z => .inr (by rw [z]; exact hD)) .inl
  by_cases hlt : i < xs.length
  · rw [List.drop_eq_getElem_cons hlt] at h2
    obtain ⟨g0, h2⟩ := h2
    refine .inr ⟨wk.goes i (D :: N) M' H' m' hlt x2.toN R2 g0, fun H3 => ∃ M3 m3 us3 acc3, Ext M1 H1 M3 H3 ∧ D ∉ M3 ∧ H3 D = some (.lst us3) ∧ us3.length ≤ i + 1 ∧ SR (D :: N) M3 H3 σ ρ ∧ Rel (D :: N) M3 H3 m3 ∧ RVs M1.length (D :: N) (M3.take M1.length) H3 us3 acc3 ∧
      lcL m1.length G (turnL vs wg wt we ρ) (xs.drop (i + 1)) (m3.take m1.length) fun ys m'' => P (acc3 ++ ys) m'', ?_, ?_⟩
    · rintro H3 ⟨M3, m3, us3, acc3, x3, nD3, eD3, lu3, S3, R3, ra3, h3⟩
      have c := x3.take
      refine ⟨xs.length - (i + 1), by omega, rfl, hlt, M3.take M1.length, _, us3, acc3, x3.cut, by rw [c], fun z => nD3 (List.mem_of_mem_take z), eD3, lu3, ?_, ?_, ?_, h3⟩
      · rw [c]
        have e3 : Ext M1 H1 M1 H3 := by have := x3.cut; rwa [c] at this
        exact ⟨S3.1, fun j d hj => by
          obtain ⟨v, a1, a2⟩ := (S.ext x1).2 j d hj
          obtain ⟨v', b1, b2⟩ := S3.2 j d hj
          rw [a1] at b1; cases b1
          refine ⟨v, a1, ?_⟩
          exact RV.seen e3.toN (fun b z => List.mem_cons_of_mem _ z) old a2⟩
      · rw [← R1.len]; exact R3.cut _
      · rw [c] at ra3 ⊢; exact ra3
    · intro x H3 y
      obtain ⟨k3, rx⟩ := wk.yields i x xs[i] (D :: N) M' H' H3 m' (List.getElem?_eq_getElem hlt) (fun _ z => List.mem_cons_of_mem _ z) x2.toN old R2 g0 y
      obtain ⟨R3, x3⟩ := R2.kept k3
      have b0 : B.Ok (D :: N) M' H3 := (((x0.trans x1).trans x2).trans x3).hide D
      refine hgm _ _ _ _ _ (ho _ _ _ _ (hg (D :: N) M' H3 (wipe σ vs) (wipeS ρ vs) m' x _ _ (fun σ2 H2 => wipe σ2 vs = wipe (wipe σ vs) vs → tt σ2 H2 fun b H3 => if b = true then te σ2 H3 fun y H4 => ∃ acc, H4 D = some (.lst acc) ∧ acc.length < sizeLine ∧ (fun H3 => ∃ M3 m3 us3 acc3, Ext M1 H1 M3 H3 ∧ D ∉ M3 ∧ H3 D = some (.lst us3) ∧ us3.length ≤ i + 1 ∧ SR (D :: N) M3 H3 σ ρ ∧ Rel (D :: N) M3 H3 m3 ∧ RVs M1.length (D :: N) (M3.take M1.length) H3 us3 acc3 ∧
      lcL m1.length G (turnL vs wg wt we ρ) (xs.drop (i + 1)) (m3.take m1.length) fun ys m'' => P (acc3 ++ ys) m'') (upd H4 D (.lst (acc ++ [y]))) else (fun H3 => ∃ M3 m3 us3 acc3, Ext M1 H1 M3 H3 ∧ D ∉ M3 ∧ H3 D = some (.lst us3) ∧ us3.length ≤ i + 1 ∧ SR (D :: N) M3 H3 σ ρ ∧ Rel (D :: N) M3 H3 m3 ∧ RVs M1.length (D :: N) (M3.take M1.length) H3 us3 acc3 ∧
      lcL m1.length G (turnL vs wg wt we ρ) (xs.drop (i + 1)) (m3.take m1.length) fun ys m'' => P (acc3 ++ ys) m'') H3) b0 ((S2.ext x3).wipe vs) R3 rx h2 ?_)) fun σ2 H2 ⟨e2, q2⟩ => ⟨e2.trans (wipe_wipe σ vs), q2 e2⟩
      intro M4 H4 σ4 ρ4 m4 x4 S4 R4 h4 _
      refine ht (D :: N) M4 H4 σ4 ρ4 m4 _ _ (b0.trans x4) S4 R4 h4 fun b M5 H5 m5 x5 R5 h5 => ?_
      have nD5 : ∀ {M6 : List Addr} {H6 : Hp}, Ext M' H' M6 H6 → D ∉ M6 := fun e z => by have := e.new D z nD2; rw [eD] at this; cases this
      have hD5 : ∀ {M6 : List Addr} {H6 : Hp}, Ext M' H' M6 H6 → H6 D = some (.lst us) := fun e => e.kp D _ nD2 eD
      cases b with
      | true =>
        simp only [if_true] at h5 ⊢
        refine he (D :: N) M5 H5 σ4 ρ4 m5 _ _ ((b0.trans x4).trans x5) (S4.ext x5) R5 h5 fun v d M6 H6 m6 x6 R6 r6 h6 => ?_
        have xx := ((x3.trans x4).trans x5).trans x6
        have x16 := x2.trans xx
        have hin : D ∈ D :: N := List.mem_cons_self
        refine ⟨us, hD5 xx, by have := hz; omega, M6, m6, us ++ [v], acc ++ [d], ?_, nD5 xx, upd_same, by simp; omega, ((S2.ext xx).hid hin), R6.hid hin (nD5 xx), ?_, ?_⟩
        · refine ⟨x16.pre, fun b o nb hb => ?_, fun b h1 h2 => x16.new b h1 h2⟩
          rw [upd_ne (fun z : b = D => by rw [z, hD] at hb; cases hb)]
          exact x16.kp b o nb hb
        · have t6 := x16.take
          have ra6 := RVs.ext xx ra
          rw [l2] at ra6
          have hle : M1.length ≤ M6.length := x16.len
          refine pair_app (pair_imp (fun _ _ r => RV.cut (Nat.le_refl _) (r.hid hin)) ra6) (.cons ?_ .nil)
          have u := h6.1 d rfl
          rw [← R1.len] at u
          exact (r6.und hle u).hid hin
        · have := h6.2
          simpa [List.append_assoc] using this
      | false =>
        simp only [Bool.false_eq_true, if_false] at h5 ⊢
        have xx := (x3.trans x4).trans x5
        have x15 := x2.trans xx
        have hle : M1.length ≤ M5.length := x15.len
        have ra5 := RVs.ext xx ra
        rw [l2] at ra5
        exact ⟨M5, m5, us, acc, x15, nD5 xx, hD5 xx, by omega, S2.ext xx, R5, pair_imp (fun _ _ r => RV.cut (Nat.le_refl _) r) ra5, h5.2⟩
  · have e : i = xs.length := by omega
    subst e
    rw [List.drop_length] at h2
    refine .inl ⟨wk.stops (D :: N) M' H' m' x2.toN R2 h2.1, ?_⟩
    exact q D us acc M' H' m' (x1.trans x2) (x1.none (fun z => nD (x1.sub D z)) hD) nD2 nDN eD R2 ra (by omega) (by simpa using h2.2)
section
variable {X : Cx} {B : Bk} {elt tg iter : Expr} {ifs : List Expr} {scope : Scope} {own : List (Str × Nat)} {pos spos : Pos} {wi : TI} {g : TG} {tt : TT} {te : TE} {w : WI} {wg : WG} {wt : WT} {we : WE}
/-- [elt for tg in iter if ..] -/
def wLc (vs : List Nat) (wi : WI) (wg : WG) (wt : WT) (we : WE) : WE := fun ρ m P => wLcs vs wi wg wt we ρ m fun ys m1 => match ims ys with | some xs => P (.wl xs) m1 | none => False
/-- .. a list that may change -/
def wLcM (vs : List Nat) (wi : WI) (wg : WG) (wt : WT) (we : WE) : WE := fun ρ m P => wLcs vs wi wg wt we ρ m fun ys m1 => P (.mu m1.length) (m1 ++ [.lst ys])
theorem le_lc {vs : List Nat} (hi : LI B wi w) (hg : LG B g wg) (ho : Own g vs) (hgm : GMono g) (ht : LT B tt wt) (he : LE B te we) : LE B (tLc wi g tt te vs) (wLc vs w wg wt we) := fun N M H σ ρ m P Q x0 S R h q =>
  le_lcs hi hg ho hgm ht he x0 S R h fun D us ys M' H' m' x nD nM nN eD R' r z p => by
    split at p
    · rename_i xs e
      have rr := ims_of r e
      exact q _ (.wl xs) M' H' m' x R'.less ⟨D, us, rfl, fun z => (List.mem_append.mp z).elim nM nN, eD, rr.less fun b z => (List.mem_append.mp z).elim (List.mem_append_left _) fun z => List.mem_append_right _ (List.mem_cons_of_mem _ z)⟩ p
    · exact p.elim
theorem le_lcM {vs : List Nat} (hi : LI B wi w) (hg : LG B g wg) (ho : Own g vs) (hgm : GMono g) (ht : LT B tt wt) (he : LE B te we) : LE B (tLc wi g tt te vs) (wLcM vs w wg wt we) := fun N M H σ ρ m P Q x0 S R h q =>
  le_lcs hi hg ho hgm ht he x0 S R h fun D us ys M' H' m' x nD nM nN eD R' r z p => by
    have x2 : Ext M H (M' ++ [D]) H' := by
      refine ⟨x.pre.trans (List.prefix_append _ _), fun b o nb hb => x.kp b o nb hb, fun b h1 h2 => ?_⟩
      rcases List.mem_append.mp h1 with h1 | h1
      · exact x.new b h1 h2
      · rw [List.mem_singleton.mp h1]; exact nD
    have mv : ∀ {k : Nat} {v : V} {d : AV}, RV k (D :: N) M' H' v d → RV k N (M' ++ [D]) H' v d := fun {k v d} r => by
      have sub : ∀ b, b ∈ (M' ++ [D]) ++ N → b ∈ M' ++ D :: N := fun b z => by
        simp only [List.mem_append, List.mem_cons, List.mem_singleton, List.not_mem_nil, or_false] at z ⊢
        rcases z with (z | z) | z
        · exact .inl z
        · exact .inr (.inl z)
        · exact .inr (.inr z)
      induction d generalizing v with
      | im d => exact Gd.Rep.less sub r
      | mu i => obtain ⟨h, a, h1, h2⟩ := r; exact ⟨h, a, by rw [List.getElem?_append_left (List.getElem?_eq_some_iff.mp h1).1]; exact h1, h2⟩
      | pr p q i1 i2 => obtain ⟨b, s, t, h1, h2, h3, r1, r2⟩ := r; exact ⟨b, s, t, h1, fun z => h2 (sub b z), h3, i1 r1, i2 r2⟩
      | wl xs => obtain ⟨b, us, h1, h2, h3, r⟩ := r; exact ⟨b, us, h1, fun z => h2 (sub b z), h3, Gd.Reps.less sub r⟩
    refine q _ (.mu m'.length) (M' ++ [D]) H' (m' ++ [.lst ys]) x2 ⟨nodup_snoc R'.nd nM, by simp [R'.len], fun i a c h1 h2 => ?_, fun a ha => R'.there a (List.mem_cons_of_mem _ ha)⟩ ⟨by simp [R'.len], D, by rw [← R'.len]; simp, rfl⟩ p
    rcases getD_snoc h1 with g1 | ⟨g1, g2⟩
    · rcases getD_snoc h2 with g3 | ⟨g3, g4⟩
      · exact (R'.cell i a c g1 g3).map (a' := a) (fun _ _ r => mv r) fun _ z => z
      · have := (List.getElem?_eq_some_iff.mp g1).1
        rw [R'.len] at this; omega
    · rcases getD_snoc h2 with g3 | ⟨g3, g4⟩
      · have := (List.getElem?_eq_some_iff.mp g3).1
        rw [R'.len] at g1; omega
      · subst g2 g4
        exact ⟨us, eD, by rw [g1]; exact pair_imp (fun _ _ r => mv r) r⟩
theorem ae_lc (hc : X.calm = true) (hN : X.N.Nodup) (hi : AI X B tg iter wi w) (ok : BlkOk X.N X.env.scope scope own)
    (hg : ∀ (s : Shared) (H : Hp) (C : Addr) (cl : List (Str × Addr)) (fp : List Addr), AG (X.blk s H scope (compEnvC scope cl C X.env) fp) B tg g wg) (ho : Own g (own.map (·.2))) (hgm : GMono g)
    (ht : ∀ (s : Shared) (H : Hp) (C : Addr) (cl : List (Str × Addr)) (fp : List Addr), ATs (X.blk s H scope (compEnvC scope cl C X.env) fp) B ifs tt wt)
    (he : ∀ (s : Shared) (H : Hp) (C : Addr) (cl : List (Str × Addr)) (fp : List Addr), AE (X.blk s H scope (compEnvC scope cl C X.env) fp) B elt te we) (hs : ∀ x, foldedSetIterable iter X.env x = pure x := by intro _; rfl) :
    AE X B (.ListComp elt [⟨tg, iter, ifs, 0⟩] scope pos) (tLc wi g tt te (own.map (·.2))) (wLc (own.map (·.2)) w wg wt we) :=
  ⟨pe_lc hc hN hi.pi ok (fun s H C cl fp => (hg s H C cl fp).pg) (fun s H C cl fp => (ht s H C cl fp).pt) (fun s H C cl fp => (he s H C cl fp).pe) hs, le_lc hi.li (hg X.s_0 X.H_0 X.env.locals [] []).lg ho hgm (ht X.s_0 X.H_0 X.env.locals [] []).lt (he X.s_0 X.H_0 X.env.locals [] []).le⟩
theorem ae_lcM (hc : X.calm = true) (hN : X.N.Nodup) (hi : AI X B tg iter wi w) (ok : BlkOk X.N X.env.scope scope own)
    (hg : ∀ (s : Shared) (H : Hp) (C : Addr) (cl : List (Str × Addr)) (fp : List Addr), AG (X.blk s H scope (compEnvC scope cl C X.env) fp) B tg g wg) (ho : Own g (own.map (·.2))) (hgm : GMono g)
    (ht : ∀ (s : Shared) (H : Hp) (C : Addr) (cl : List (Str × Addr)) (fp : List Addr), ATs (X.blk s H scope (compEnvC scope cl C X.env) fp) B ifs tt wt)
    (he : ∀ (s : Shared) (H : Hp) (C : Addr) (cl : List (Str × Addr)) (fp : List Addr), AE (X.blk s H scope (compEnvC scope cl C X.env) fp) B elt te we) (hs : ∀ x, foldedSetIterable iter X.env x = pure x := by intro _; rfl) :
    AE X B (.ListComp elt [⟨tg, iter, ifs, 0⟩] scope pos) (tLc wi g tt te (own.map (·.2))) (wLcM (own.map (·.2)) w wg wt we) :=
  ⟨pe_lc hc hN hi.pi ok (fun s H C cl fp => (hg s H C cl fp).pg) (fun s H C cl fp => (ht s H C cl fp).pt) (fun s H C cl fp => (he s H C cl fp).pe) hs, le_lcM hi.li (hg X.s_0 X.H_0 X.env.locals [] []).lg ho hgm (ht X.s_0 X.H_0 X.env.locals [] []).lt (he X.s_0 X.H_0 X.env.locals [] []).le⟩
/-- name = [..] -/
theorem s_setLc {i : Nat} {y : Str} {py : Pos} (hc : X.calm = true) (hN : X.N.Nodup) (hy : X.N[i]? = some y) (hyl : X.env.scope.names.lookup y = some .local)
    (hsw : swapsWith (.ListComp elt [⟨tg, iter, ifs, 0⟩] scope pos) (some (.Name y py)) spos.line X.env = pure true) (hi : AI X B tg iter wi w) (ok : BlkOk X.N X.env.scope scope own)
    (hg : ∀ (s : Shared) (H : Hp) (C : Addr) (cl : List (Str × Addr)) (fp : List Addr), AG (X.blk s H scope (compEnvC scope cl C X.env) fp) B tg g wg) (ho : Own g (own.map (·.2))) (hgm : GMono g)
    (ht : ∀ (s : Shared) (H : Hp) (C : Addr) (cl : List (Str × Addr)) (fp : List Addr), ATs (X.blk s H scope (compEnvC scope cl C X.env) fp) B ifs tt wt)
    (he : ∀ (s : Shared) (H : Hp) (C : Addr) (cl : List (Str × Addr)) (fp : List Addr), AE (X.blk s H scope (compEnvC scope cl C X.env) fp) B elt te we) (hs : ∀ x, foldedSetIterable iter X.env x = pure x := by intro _; rfl) :
    AS X B (.Assign [.Name y py] (.ListComp elt [⟨tg, iter, ifs, 0⟩] scope pos) spos) (tAsg (tLc wi g tt te (own.map (·.2))) (gName i)) (wAsg (wLc (own.map (·.2)) w wg wt we) (wgN i)) :=
  ⟨ps_setLc hc hN hy hyl hsw hi.pi ok (fun s H C cl fp => (hg s H C cl fp).pg) (fun s H C cl fp => (ht s H C cl fp).pt) (fun s H C cl fp => (he s H C cl fp).pe) hs, ls_asg (le_lc hi.li (hg X.s_0 X.H_0 X.env.locals [] []).lg ho hgm (ht X.s_0 X.H_0 X.env.locals [] []).lt (he X.s_0 X.H_0 X.env.locals [] []).le) (lg_name i)⟩
theorem s_setLcM {i : Nat} {y : Str} {py : Pos} (hc : X.calm = true) (hN : X.N.Nodup) (hy : X.N[i]? = some y) (hyl : X.env.scope.names.lookup y = some .local)
    (hsw : swapsWith (.ListComp elt [⟨tg, iter, ifs, 0⟩] scope pos) (some (.Name y py)) spos.line X.env = pure true) (hi : AI X B tg iter wi w) (ok : BlkOk X.N X.env.scope scope own)
    (hg : ∀ (s : Shared) (H : Hp) (C : Addr) (cl : List (Str × Addr)) (fp : List Addr), AG (X.blk s H scope (compEnvC scope cl C X.env) fp) B tg g wg) (ho : Own g (own.map (·.2))) (hgm : GMono g)
    (ht : ∀ (s : Shared) (H : Hp) (C : Addr) (cl : List (Str × Addr)) (fp : List Addr), ATs (X.blk s H scope (compEnvC scope cl C X.env) fp) B ifs tt wt)
    (he : ∀ (s : Shared) (H : Hp) (C : Addr) (cl : List (Str × Addr)) (fp : List Addr), AE (X.blk s H scope (compEnvC scope cl C X.env) fp) B elt te we) (hs : ∀ x, foldedSetIterable iter X.env x = pure x := by intro _; rfl) :
    AS X B (.Assign [.Name y py] (.ListComp elt [⟨tg, iter, ifs, 0⟩] scope pos) spos) (tAsg (tLc wi g tt te (own.map (·.2))) (gName i)) (wAsg (wLcM (own.map (·.2)) w wg wt we) (wgN i)) :=
  ⟨ps_setLc hc hN hy hyl hsw hi.pi ok (fun s H C cl fp => (hg s H C cl fp).pg) (fun s H C cl fp => (ht s H C cl fp).pt) (fun s H C cl fp => (he s H C cl fp).pe) hs, ls_asg (le_lcM hi.li (hg X.s_0 X.H_0 X.env.locals [] []).lg ho hgm (ht X.s_0 X.H_0 X.env.locals [] []).lt (he X.s_0 X.H_0 X.env.locals [] []).le) (lg_name i)⟩
end
end Ab
end

section
set_option maxRecDepth 100000
set_option maxHeartbeats 4000000
/-! Readings over data: operators, subscripts, built-ins, one rule for each word of the language. -/
namespace Ab
open PySem PySem.Spec PyProof.Rows L2 Gd
section
variable {n : Nat} {N M : List Addr} {H : Hp}
theorem RV.int (i : Int) : RV n N M H (.int i) (.im (.int i)) := Gd.Rep.int i
theorem RV.str (x : Str) : RV n N M H (.str x) (.im (.str x)) := Gd.Rep.str x
theorem RV.bl (b : Bool) : RV n N M H (.bl b) (.im (.bool b)) := Gd.Rep.bl b
theorem RV.non : RV n N M H .non (.im .none) := Gd.Rep.non
theorem RV.of {v : V} {d : PyData} (r : Rep (M ++ N) H v d) : RV n N M H v (.im d) := r
end
/-- the items of a list, of a tuple, of either -/
def asL (d : AV) (m : Store) : Option (List PyData) := match d with
  | .im (.list xs) => some xs
  | .wl xs => some xs
  | .mu i => (match m[i]? with | some (.lst xs) => ims xs | _ => none)
  | _ => none
def asT (d : AV) : Option (List PyData) := match d with
  | .im (.tuple xs) => some xs
  | _ => none
section
variable {N M : List Addr} {H : Hp} {m : Store} {v : V} {d : AV} {xs : List PyData}
theorem asL_of (R : Rel N M H m) (r : RV M.length N M H v d) (h : asL d m = some xs) : ∃ a us, v = .ref a ∧ H a = some (.lst us) ∧ Reps (M ++ N) H us xs := by
  unfold asL at h
  split at h
  · cases h
    cases r with
    | lst n ne e z => exact ⟨_, _, rfl, e, z⟩
  · cases h
    obtain ⟨a, us, rfl, _, e, z⟩ := r
    exact ⟨a, us, rfl, e, z⟩
  · rename_i i
    split at h
    · rename_i ys e
      obtain ⟨_, a, ha, rfl⟩ := r
      obtain ⟨us, h1, h2⟩ := R.cell i a _ ha e
      exact ⟨a, us, rfl, h1, ims_of h2 h⟩
    · cases h
  · cases h
theorem asT_of (r : RV M.length N M H v d) (h : asT d = some xs) : ∃ a us, v = .ref a ∧ a ∉ M ++ N ∧ H a = some (.tup us) ∧ Reps (M ++ N) H us xs := by
  unfold asT at h
  split at h
  · cases h
    cases r with
    | tup n e z => exact ⟨_, _, rfl, n, e, z⟩
  · cases h
/-- what a value reads as -/
def dat (d : AV) (m : Store) : Option PyData := match d with
  | .im x => some x
  | .pr _ _ => none
  | d => (asL d m).map .list
theorem dat_of {X : Cx} {pins : List (Addr × Obj)} {σ : L2.St} {s : Shared} {u : Value} {x : PyData} (I : Inv X pins σ H s) (R : Rel N M H m) (r : RV M.length N M H v d) (h : dat d m = some x) (ru : RelV v u) (nd : (∀ y, d = .im y → False) → x.hasDict = false) :
    ∃ as, Reads s.heap u x as ∧ (x.hasDict = true → sysModules ∉ as) := by
  have main : ∀ xs, asL d m = some xs → ∃ as, Reads s.heap u (.list xs) as := fun xs e => by
    obtain ⟨a, us, rfl, e1, z⟩ := asL_of R r e
    cases ru
    obtain ⟨_, its, n, rv, h1⟩ := (show ObjOk X.prog X.w H s.heap _ (.lst _) from I.hok _ _ e1)
    obtain ⟨as, z, _⟩ := Reps.reads I z rv
    exact ⟨_, .list h1 rfl rfl z⟩
  unfold dat at h
  split at h
  · cases h
    obtain ⟨as, a, b⟩ := Gd.Rep.reads I r ru
    exact ⟨as, a, fun _ => b⟩
  · cases h
  · rename_i n1 n2
    obtain ⟨xs, h1, rfl⟩ := Option.map_eq_some_iff.mp h
    obtain ⟨as, h2⟩ := main xs h1
    exact ⟨as, h2, fun q => by rw [nd n1] at q; cases q⟩
end
theorem val1 {xs : List V} {d : AV} {n : Nat} {N M : List Addr} {H : Hp} (r : RVs n N M H xs [d]) : ∃ v, xs = [v] ∧ RV n N M H v d := by
  cases r with
  | cons a b => cases b; exact ⟨_, rfl, a⟩
theorem val2 {xs : List V} {d e : AV} {n : Nat} {N M : List Addr} {H : Hp} (r : RVs n N M H xs [d, e]) : ∃ v w, xs = [v, w] ∧ RV n N M H v d ∧ RV n N M H w e := by
  cases r with
  | cons a b => cases b with
    | cons a2 b => cases b; exact ⟨_, _, rfl, a, a2⟩
/-! ### arithmetic -/
def gInt (C : Int → Int → Prop) (f : Int → Int → Int) : G2 := fun d e m P => match d, e with
  | .im (.int i), .im (.int j) => C i j ∧ P (.im (.int (f i j))) m
  | _, _ => False
section
variable {X : Cx} {k : Nat}
theorem oa_int {op : Operator} {C : Int → Int → Prop} {f : Int → Int → Int} (h : OpR X (binaryOp op) (rI C fun i j => .int (f i j))) : OA X (binaryOp op) (gInt C f) := by
  rintro pins s σ H x y v u Q I rx ry ⟨N, M, m, d, e, P, R, r1, r2, hg, q⟩
  unfold gInt at hg
  split at hg
  · rename_i i j
    cases r1; cases r2
    exact h pins s σ H _ _ v u Q I rx ry ⟨i, j, rfl, rfl, hg.1, q _ _ M H m .refl R (.int _) hg.2⟩
  · exact hg.elim
theorem oa_mul : OA X (binaryOp .Mult) (gInt CMul (· * ·)) := oa_int op_mul
theorem oa_mod : OA X (binaryOp .Mod) (gInt (fun _ j => j ≠ 0) Int.fmod) := oa_int op_modN
theorem oa_fdiv : OA X (binaryOp .FloorDiv) (gInt CDivN Int.fdiv) := oa_int op_fdivN
theorem oa_pow : OA X (binaryOp .Pow) (gInt CPow fun i j => i ^ j.toNat) := oa_int op_pow
/-- + -/
def gAdd : G2 := fun d e m P => match d, e with
  | .im (.int i), .im (.int j) => P (.im (.int (i + j))) m
  | .im (.bool b), .im (.int j) => P (.im (.int ((if b = true then 1 else 0) + j))) m
  | .im (.str x), .im (.str y) => x.length + y.length ≤ sizeLine ∧ P (.im (.str (x ++ y))) m
  | .im (.tuple xs), .im (.tuple ys) => xs.length + ys.length ≤ 100000 ∧ P (.im (.tuple (xs ++ ys))) m
  | d, e => match asL d m, asL e m with
    | some xs, some ys => xs.length + ys.length ≤ sizeLine ∧ P (.wl (xs ++ ys)) m
    | _, _ => False
/-- a new list -/
theorem new_wl {N M : List Addr} {H : Hp} {m : Store} {us : List V} {xs : List PyData} {p : Addr} (R : Rel N M H m) (hp : H p = none) (r : Reps (M ++ N) H us xs) :
    Ext M H M (upd H p (.lst us)) ∧ Rel N M (upd H p (.lst us)) m ∧ RV M.length N M (upd H p (.lst us)) (.ref p) (.wl xs) :=
  ⟨.alloc hp, R.alloc hp, p, us, rfl, R.live.fresh hp, upd_same, r.keep (Kp.new hp)⟩
theorem oa_add : OA X (binaryOp .Add) gAdd := by
  rintro pins s σ H x y v u Q I rx ry ⟨N, M, m, d, e, P, R, r1, r2, hg, q⟩
  unfold gAdd at hg
  split at hg
  · rename_i i j
    cases r1; cases r2
    exact op_add pins s σ H _ _ v u Q I rx ry ⟨i, j, rfl, rfl, q _ _ M H m .refl R (.int _) hg⟩
  · rename_i b j
    cases r1; cases r2
    exact op_addN pins s σ H _ _ v u Q I rx ry ⟨_, j, .inr ⟨b, rfl, rfl⟩, rfl, q _ _ M H m .refl R (.int _) hg⟩
  · rename_i a b
    cases r1; cases r2
    exact op_add_str pins s σ H _ _ v u Q I rx ry ⟨a, b, rfl, rfl, hg.1, q _ _ M H m .refl R (.str _) hg.2⟩
  · refine op_catA pins s σ H _ _ v u Q I rx ry (cat_v R.live r1 r2 hg.1 fun z H' kp r => ?_)
    obtain ⟨R', x'⟩ := R.kept fun b o e => kp b o List.not_mem_nil e
    exact q z _ M H' m x' R' (.of r) hg.2
  · split at hg
    · rename_i xs ys e1 e2
      obtain ⟨a, us, rfl, h1, z1⟩ := asL_of R r1 e1
      obtain ⟨b, ws, rfl, h2, z2⟩ := asL_of R r2 e2
      refine op_cat pins s σ H _ _ v u Q I rx ry ⟨a, b, us, ws, rfl, rfl, h1, h2, by rw [z1.length, z2.length]; exact hg.1, fun p hp => ?_⟩
      obtain ⟨x', R', r'⟩ := new_wl R hp (z1.append z2)
      exact q _ _ M _ m x' R' r' hg.2
    · exact hg.elim
/-- - -/
def gMinus : G2 := fun d e m P => match d, e with
  | .im (.int i), .im (.int j) => P (.im (.int (i - j))) m
  | .im (.bool b), .im (.int j) => P (.im (.int ((if b = true then 1 else 0) - j))) m
  | _, _ => False
theorem oa_sub : OA X (binaryOp .Sub) gMinus := by
  rintro pins s σ H x y v u Q I rx ry ⟨N, M, m, d, e, P, R, r1, r2, hg, q⟩
  unfold gMinus at hg
  split at hg
  · rename_i i j
    cases r1; cases r2
    exact op_sub pins s σ H _ _ v u Q I rx ry ⟨i, j, rfl, rfl, q _ _ M H m .refl R (.int _) hg⟩
  · rename_i b j
    cases r1; cases r2
    exact op_subN pins s σ H _ _ v u Q I rx ry ⟨_, j, .inr ⟨b, rfl, rfl⟩, rfl, q _ _ M H m .refl R (.int _) hg⟩
  · exact hg.elim
def gNeg : G1 := fun d m P => match d with
  | .im (.int i) => P (.im (.int (-i))) m
  | _ => False
theorem ua_neg : UA X (unaryOp .USub) gNeg := by
  rintro pins s σ H x v Q I rx ⟨N, M, m, d, P, R, r1, hg, q⟩
  unfold gNeg at hg
  split at hg
  · rename_i i
    cases r1
    exact un_neg pins s σ H _ v Q I rx ⟨i, rfl, q _ _ M H m .refl R (.int _) hg⟩
  · exact hg.elim
/-! ### comparisons -/
/-- data that can be compared by their looks -/
abbrev Look (x : PyData) : Prop := x.canLay0 = true ∧ x.depth ≤ 60
def gEqv (f : Bool → Bool) : G2 := fun d e m P => match d, e with
  | .im (.int i), .im (.int j) => P (.im (.bool (f (decide (i = j))))) m
  | .im (.str x), .im (.str y) => P (.im (.bool (f (decide (x = y))))) m
  | .im (.bool x), .im (.bool y) => P (.im (.bool (f (decide (x = y))))) m
  | d, e => (∃ xs, asL d m = some xs ∧ e = .im (.list []) ∧ P (.im (.bool (f xs.isEmpty))) m) ∨
    (match dat d m, dat e m with
      | some x, some y => Look x ∧ Look y ∧ P (.im (.bool (f (PyData.eqv x y)))) m
      | _, _ => False)
theorem oa_eq (hr : Room k X.A) : OA X (compareOp .Eq) (gEqv id) := by
  rintro pins s σ H x y v u Q I rx ry ⟨N, M, m, d, e, P, R, r1, r2, hg, q⟩
  have un := hr.un
  unfold gEqv at hg
  split at hg
  · cases r1; cases r2
    exact op_eq pins s σ H _ _ v u Q I rx ry ⟨rfl, q _ _ M H m .refl R (.bl _) (by simpa using hg)⟩
  · cases r1; cases r2
    exact op_eq pins s σ H _ _ v u Q I rx ry ⟨rfl, q _ _ M H m .refl R (.bl _) (by simpa using hg)⟩
  · cases r1; cases r2
    exact op_eq pins s σ H _ _ v u Q I rx ry ⟨rfl, q _ _ M H m .refl R (.bl _) (by simpa using hg)⟩
  · rcases hg with ⟨xs, e1, rfl, hg⟩ | hg
    · obtain ⟨a, us, rfl, h1, z1⟩ := asL_of R r1 e1
      cases r2 with
      | lst n ne e2 z2 =>
        cases z2
        cases rx; cases ry
        obtain ⟨its, w1, p1, _⟩ := I.list (.inl (.inl h1))
        obtain ⟨its2, w2, p2, _⟩ := I.list (.inl (.inl e2))
        cases w2
        cases z1 with
        | nil => cases w1; exact SeqAt.RcAt.lists (e := fun _ => true) p1.isList p2.isList rfl (by omega) (fun j h1 _ => absurd h1 (by simp)) _ _ _ _ ⟨.bl _, H, I, rfl, q _ (.im (.bool _)) M H m .refl R (.bl _) hg⟩
        | cons _ _ => cases w1; exact SeqAt.RcAt.lists_lengths p1.isList p2.isList (by simp) (by omega) _ _ _ _ ⟨.bl _, H, I, rfl, q _ (.im (.bool _)) M H m .refl R (.bl _) hg⟩
    · split at hg
      · rename_i x y e1 e2
        obtain ⟨l1, l2, hg⟩ := hg
        obtain ⟨as, z1, _⟩ := dat_of I R r1 e1 rx fun _ => PyData.hasDict_of_canLay _ l1.1
        obtain ⟨bs, z2, _⟩ := dat_of I R r2 e2 ry fun _ => PyData.hasDict_of_canLay _ l2.1
        exact SeqAt.compareEq_reads z1 z2 l1.1 l2.1 (by have := l1.2; omega) ⟨.bl _, H, I, rfl, q _ (.im (.bool _)) M H m .refl R (.bl _) hg⟩
      · exact hg.elim
end
end Ab
end

section
set_option maxRecDepth 100000
set_option maxHeartbeats 4000000
/-! Readings over data: further operators, subscripts, slices. -/
namespace Ab
open PySem PySem.Spec PyProof.Rows L2 Gd
section
variable {X : Cx} {k : Nat}
theorem oa_ne (hr : Room k X.A) : OA X (compareOp .NotEq) (gEqv not) := by
  rintro pins s σ H x y v u Q I rx ry ⟨N, M, m, d, e, P, R, r1, r2, hg, q⟩
  have un := hr.un
  unfold gEqv at hg
  split at hg
  · cases r1; cases r2
    exact op_ne pins s σ H _ _ v u Q I rx ry ⟨rfl, q _ _ M H m .refl R (.bl _) (by simpa using hg)⟩
  · cases r1; cases r2
    exact op_ne pins s σ H _ _ v u Q I rx ry ⟨rfl, q _ _ M H m .refl R (.bl _) (by simpa using hg)⟩
  · cases r1; cases r2
    exact op_ne pins s σ H _ _ v u Q I rx ry ⟨rfl, q _ _ M H m .refl R (.bl _) (by simpa using hg)⟩
  · rcases hg with ⟨xs, e1, rfl, hg⟩ | hg
    · obtain ⟨a, us, rfl, h1, z1⟩ := asL_of R r1 e1
      cases r2 with
      | lst n ne e2 z2 =>
        cases z2
        exact op_neLE hr pins s σ H _ _ v u Q I rx ry ⟨a, _, us, rfl, rfl, h1, e2, q _ _ M H m .refl R (.bl _) (by rw [emp_reps z1]; exact hg)⟩
    · split at hg
      · rename_i x y e1 e2
        obtain ⟨l1, l2, hg⟩ := hg
        obtain ⟨as, z1, _⟩ := dat_of I R r1 e1 rx fun _ => PyData.hasDict_of_canLay _ l1.1
        obtain ⟨bs, z2, _⟩ := dat_of I R r2 e2 ry fun _ => PyData.hasDict_of_canLay _ l2.1
        exact SeqAt.compareNe_reads z1 z2 l1.1 l2.1 (by have := l1.2; omega) ⟨.bl _, H, I, rfl, q _ (.im (.bool _)) M H m .refl R (.bl _) hg⟩
      · exact hg.elim
/-- <, <=, >, >= of numbers and texts -/
def gOrd (f : Int → Int → Bool) (g : List Nat → List Nat → Bool) : G2 := fun d e m P => match d, e with
  | .im (.int i), .im (.int j) => P (.im (.bool (f i j))) m
  | .im (.str x), .im (.str y) => P (.im (.bool (g x.cps.toList y.cps.toList))) m
  | _, _ => False
theorem oa_ord {op : CmpOp} {f : Int → Int → Bool} {g : List Nat → List Nat → Bool} (h1 : OpR X (compareOp op) (rI0 fun i j => .bl (f i j))) (h2 : OpR X (compareOp op) (fun x y H Q => ∃ i j, x = .str i ∧ y = .str j ∧ Q (.bl (g i.cps.toList j.cps.toList)) H)) :
    OA X (compareOp op) (gOrd f g) := by
  rintro pins s σ H x y v u Q I rx ry ⟨N, M, m, d, e, P, R, r1, r2, hg, q⟩
  unfold gOrd at hg
  split at hg
  · cases r1; cases r2
    exact h1 pins s σ H _ _ v u Q I rx ry ⟨_, _, rfl, rfl, q _ _ M H m .refl R (.bl _) hg⟩
  · cases r1; cases r2
    exact h2 pins s σ H _ _ v u Q I rx ry ⟨_, _, rfl, rfl, q _ _ M H m .refl R (.bl _) hg⟩
  · exact hg.elim
abbrev gLe : G2 := gOrd (fun i j => decide (i ≤ j)) (fun x y => !decide (y < x))
abbrev gGt : G2 := gOrd (fun i j => decide (j < i)) (fun x y => decide (y < x))
abbrev gGe : G2 := gOrd (fun i j => decide (j ≤ i)) (fun x y => !decide (x < y))
theorem oa_le : OA X (compareOp .LtE) gLe := oa_ord op_le op_le_str
theorem oa_gt : OA X (compareOp .Gt) gGt := oa_ord op_gt op_gt_str
theorem oa_ge : OA X (compareOp .GtE) gGe := oa_ord op_ge op_ge_str
/-- < also of data of one shape -/
def gLt : G2 := fun d e m P => match d, e with
  | .im (.int i), .im (.int j) => P (.im (.bool (decide (i < j)))) m
  | .im (.str x), .im (.str y) => P (.im (.bool (decide (x.cps.toList < y.cps.toList)))) m
  | .im d, .im e => W.alike d e = true ∧ d ≠ .none ∧ d.depth ≤ 100 ∧ P (.im (.bool (W.dataLt d e))) m
  | _, _ => False
theorem oa_lt (hr : Room k X.A) : OA X (compareOp .Lt) gLt := by
  rintro pins s σ H x y v u Q I rx ry ⟨N, M, m, d, e, P, R, r1, r2, hg, q⟩
  unfold gLt at hg
  split at hg
  · cases r1; cases r2
    exact op_lt pins s σ H _ _ v u Q I rx ry ⟨_, _, rfl, rfl, q _ _ M H m .refl R (.bl _) hg⟩
  · cases r1; cases r2
    exact op_lt_str pins s σ H _ _ v u Q I rx ry ⟨_, _, rfl, rfl, q _ _ M H m .refl R (.bl _) hg⟩
  · obtain ⟨a, b, c, hg⟩ := hg
    exact op_ltD hr pins s σ H _ _ v u Q I rx ry ⟨M ++ N, _, _, r1, r2, a, b, c, q _ (.im (.bool _)) M H m .refl R (.bl _) hg⟩
  · exact hg.elim
/-! ### is -/
def isNon : AV → Bool
  | .im .none => true
  | _ => false
theorem non_of {N M : List Addr} {H : Hp} {n : Nat} {v : V} {d : AV} (r : RV n N M H v d) : decide (v = .non) = Ab.isNon d := by
  cases d with
  | im d =>
    have r : Rep (M ++ N) H v d := r
    cases r <;> simp [Ab.isNon]
  | mu i => obtain ⟨_, a, _, rfl⟩ := r; simp [Ab.isNon]
  | pr x y => obtain ⟨a, _, _, rfl, _⟩ := r; simp [Ab.isNon]
  | wl xs => obtain ⟨a, _, rfl, _⟩ := r; simp [Ab.isNon]
def gIs (f : Bool → Bool) : G2 := fun d e m P => match e with
  | .im .none => P (.im (.bool (f (Ab.isNon d)))) m
  | .im (.bool b) => (match d with | .im (.bool a) => P (.im (.bool (f (decide (a = b))))) m | _ => False)
  | _ => False
theorem oa_is : OA X (compareOp .Is) (gIs id) := by
  rintro pins s σ H x y v u Q I rx ry ⟨N, M, m, d, e, P, R, r1, r2, hg, q⟩
  unfold gIs at hg
  split at hg
  · cases r2
    exact op_isN pins s σ H _ _ v u Q I rx ry ⟨rfl, q _ (.im (.bool _)) M H m .refl R (.bl _) (by rw [non_of r1]; exact hg)⟩
  · split at hg
    · cases r1; cases r2
      exact op_isBl pins s σ H _ _ v u Q I rx ry ⟨_, _, rfl, rfl, q _ _ M H m .refl R (.bl _) hg⟩
    · exact hg.elim
  · exact hg.elim
theorem oa_isnot : OA X (compareOp .IsNot) (gIs not) := by
  rintro pins s σ H x y v u Q I rx ry ⟨N, M, m, d, e, P, R, r1, r2, hg, q⟩
  unfold gIs at hg
  split at hg
  · cases r2
    exact op_notN pins s σ H _ _ v u Q I rx ry ⟨rfl, q _ (.im (.bool _)) M H m .refl R (.bl _) (by rw [non_of r1]; exact hg)⟩
  · split at hg
    · cases r1; cases r2
      exact op_notBl pins s σ H _ _ v u Q I rx ry ⟨_, _, rfl, rfl, q _ _ M H m .refl R (.bl _) hg⟩
    · exact hg.elim
  · exact hg.elim
/-! ### in -/
def keyA : PyData → Option Key
  | .int i => some (.inl i)
  | .str x => some (.inr x)
  | _ => none
def keysA : List PyData → Option (List Key)
  | [] => some []
  | x :: r => (keyA x).bind fun k => (keysA r).map (k :: ·)
def lookA {κ : Type} [DecidableEq κ] {α : Type} (kvs : List (κ × α)) (k : κ) : Option α := (kvs.find? fun kv => decide (kv.1 = k)).map (·.2)
theorem key_rep {M : List Addr} {H : Hp} {v : V} {d : PyData} {k : Key} (r : Rep M H v d) (h : keyA d = some k) : v = kV k := by
  cases d <;> cases h <;> cases r <;> rfl
theorem keys_rep {M : List Addr} {H : Hp} : ∀ {vs : List V} {ds : List PyData} {ks : List Key}, Reps M H vs ds → keysA ds = some ks → vs = ks.map kV
  | _, [], _, .nil, h => by cases h; rfl
  | _, x :: r, _, .cons r1 r2, h => by
    unfold keysA at h
    obtain ⟨k, h1, h2⟩ := Option.bind_eq_some_iff.mp h
    obtain ⟨ks, h3, rfl⟩ := Option.map_eq_some_iff.mp h2
    rw [key_rep r1 h1, keys_rep r2 h3]; rfl
theorem look_of {κ : Type} [DecidableEq κ] {n : Nat} {N M : List Addr} {H : Hp} (k : κ) : ∀ {us : List (κ × V)} {kvs : List (κ × AV)}, RKs n N M H us kvs → (∃ v d, valV us k = some v ∧ lookA kvs k = some d ∧ RV n N M H v d) ∨ (valV us k = none ∧ lookA kvs k = none)
  | _, _, .nil => .inr ⟨rfl, rfl⟩
  | _, _, .cons (a := p) (b := q) r1 r2 => by
    by_cases z : q.1 = k
    · exact .inl ⟨p.2, q.2, by simp [valV, List.find?_cons, r1.1, z], by simp [lookA, List.find?_cons, z], r1.2⟩
    · rcases look_of k r2 with ⟨v, d, h1, h2, h3⟩ | ⟨h1, h2⟩
      · exact .inl ⟨v, d, by simpa [valV, List.find?_cons, r1.1, z] using h1, by simpa [lookA, List.find?_cons, z] using h2, h3⟩
      · exact .inr ⟨by simpa [valV, List.find?_cons, r1.1, z] using h1, by simpa [lookA, List.find?_cons, z] using h2⟩
/-- what a dict holds at a key -/
def atD (c : Cell) (e : AV) : Option (Option AV) := match c, e with
  | .dk kvs, .im x => (keyA x).map fun k => lookA kvs k
  | .fz _ _ kvs, .im x => (keyA x).map fun k => lookA kvs k
  | .dt kvs, .im (.tuple xs) => (keysA xs).map fun k => lookA kvs k
  | _, _ => none
theorem atD_of {N M : List Addr} {H : Hp} {n : Nat} {a : Addr} {c : Cell} {w : V} {e : AV} {o : Option AV} (rc : RC n N M H a c) (r : RV M.length N M H w e) (h : atD c e = some o) :
    ∃ ov, DGet H a w ov ∧ ((ov = none ∧ o = none) ∨ ∃ v d, ov = some v ∧ o = some d ∧ RV n N M H v d) := by
  unfold atD at h
  split at h
  · rename_i kvs x
    obtain ⟨k, h1, rfl⟩ := Option.map_eq_some_iff.mp h
    obtain ⟨us, h2, h3⟩ := rc
    refine ⟨valV us k, .inl ⟨us, k, .inl h2, key_rep r h1, rfl⟩, ?_⟩
    rcases look_of k h3 with ⟨v, d, a1, a2, a3⟩ | ⟨a1, a2⟩
    · exact .inr ⟨v, d, a1, a2, a3⟩
    · exact .inl ⟨a1, a2⟩
  · rename_i o1 us kvs x
    obtain ⟨k, h1, rfl⟩ := Option.map_eq_some_iff.mp h
    obtain ⟨h2, h3⟩ := rc
    refine ⟨valV us k, .inl ⟨us, k, .inr ⟨o1, h2⟩, key_rep r h1, rfl⟩, ?_⟩
    rcases look_of k h3 with ⟨v, d, a1, a2, a3⟩ | ⟨a1, a2⟩
    · exact .inr ⟨v, d, a1, a2, a3⟩
    · exact .inl ⟨a1, a2⟩
  · rename_i kvs xs
    obtain ⟨k, h1, rfl⟩ := Option.map_eq_some_iff.mp h
    obtain ⟨us, h2, h3⟩ := rc
    cases r with
    | tup n1 e1 z =>
      refine ⟨valV us k, .inr ⟨us, k, _, .inl h2, rfl, by rw [← keys_rep z h1]; exact e1, rfl⟩, ?_⟩
      rcases look_of k h3 with ⟨v, d, a1, a2, a3⟩ | ⟨a1, a2⟩
      · exact .inr ⟨v, d, a1, a2, a3⟩
      · exact .inl ⟨a1, a2⟩
  · cases h
def asQ (d : AV) (m : Store) : Option (List PyData) := match asT d with
  | some xs => some xs
  | none => asL d m
/-- any data in a tuple of texts -/
def gInS (f : Bool → Bool) : G2 := fun d e m P => match d with
  | .im x => ∃ ss : List Str, e = .im (.tuple (ss.map .str)) ∧ P (.im (.bool (f (inD x ss)))) m
  | _ => False
/-- x in c: a sign in a text; data in a list or a tuple; a key in a dict -/
def gIn (f : Bool → Bool) : G2 := fun d e m P => match e with
  | .im (.str z) => (match d with | .im (.str x) => (match x.cps.toList with | [c] => P (.im (.bool (f (decide (c ∈ z.cps.toList))))) m | _ => False) | _ => False)
  | e => match asQ e m with
    | some xs => (match d with
      | .im x => Look x ∧ PyData.canLayAll0 xs = true ∧ P (.im (.bool (f (xs.any fun y => PyData.eqv y x)))) m
      | _ => False)
    | none => (match e with
      | .mu i => (match m[i]? with
        | some c => (match atD c d with | some o => P (.im (.bool (f o.isSome))) m | none => False)
        | none => False)
      | _ => False)
theorem ltInT {pins : List (Addr × Obj)} {s : Shared} {σ : L2.St} {H : Hp} {M : List Addr} {x : V} {v : Value} {a : Addr} {d : PyData} {ss : List Str} (I : Inv X pins σ H s) (hr : Room k X.A) (rp : Rep M H x d) (rx : RelV x v) (ha : H a = some (.tup (ss.map V.str))) :
    ∃ (its : List Value) (e : Value → Bool), IsTup s.heap a its.toArray ∧ its.any e = inD d ss ∧ ∀ y, y ∈ its.toArray → SeqAt.EqAt X.A.in1 s y v (e y) := by
  obtain ⟨_, its, rv, ht⟩ := (show ObjOk X.prog X.w H s.heap a (.tup (ss.map V.str)) from I.hok _ _ ha)
  have un := hr.un
  have un1 : X.A.in1.units = X.A.units + 1 := rfl
  have no : (its.any fun _ => false) = false := by simp
  have txt : ∀ y ∈ its.toArray, ∃ z t, y = .str z t := fun y hy => let ⟨z, _, t, e⟩ := vals_strs rv y (by simpa using hy); ⟨z, t, e⟩
  cases rp with
  | non => cases rx; exact ⟨its, fun _ => false, ht, no, fun y hy => by obtain ⟨z, t, rfl⟩ := txt y hy; exact SeqAt.EqAt.str_none z t⟩
  | bl b => cases rx; exact ⟨its, fun _ => false, ht, no, fun y hy => by obtain ⟨z, t, rfl⟩ := txt y hy; exact SeqAt.EqAt.str_bool z t b⟩
  | int i => obtain ⟨t2, rfl⟩ := rx; exact ⟨its, fun _ => false, ht, no, fun y hy => by obtain ⟨z, t, rfl⟩ := txt y hy; exact SeqAt.EqAt.str_int z t i t2⟩
  | str x =>
    obtain ⟨t2, rfl⟩ := rx
    refine ⟨its, fun u => match u with | .str z _ => decide (z = x) | _ => false, ht, vals_any rv, fun y hy => ?_⟩
    obtain ⟨z, t, rfl⟩ := txt y hy
    have e := SeqAt.EqAt.str_str (A := X.A.in1) (s := s) z t x t2
    have e2 : (z == x) = decide (z = x) := by by_cases c : z = x <;> simp [c]
    rw [e2] at e
    exact e
  | tup n e z =>
    cases rx
    obtain ⟨_, i2, _, h2⟩ := (show ObjOk X.prog X.w H s.heap _ (.tup _) from I.hok _ _ e)
    exact ⟨its, fun _ => false, ht, no, fun y hy => by obtain ⟨z, t, rfl⟩ := txt y hy; exact SeqAt.EqAt.str_tuple z t h2 (by omega)⟩
  | lst n ne e z =>
    cases rx
    obtain ⟨_, i2, m, _, h2⟩ := (show ObjOk X.prog X.w H s.heap _ (.lst _) from I.hok _ _ e)
    exact ⟨its, fun _ => false, ht, no, fun y hy => by obtain ⟨z, t, rfl⟩ := txt y hy; exact SeqAt.EqAt.str_list z t ⟨_, h2, rfl, _, rfl⟩ (by omega)⟩
  | emp n e =>
    cases rx
    obtain ⟨_, hd, vs, kv, o, es, ep, h1, ex, h2, _⟩ := (show ObjOk X.prog X.w H s.heap _ (.dK []) from I.hok _ _ e)
    obtain ⟨oc, od, dt, sl⟩ := o
    obtain ⟨e1, e2, e3⟩ := ex
    simp only at e1 e2 e3 h2
    subst e1 e2 e3 h2
    exact ⟨its, fun _ => false, ht, no, fun y hy => by obtain ⟨z, t, rfl⟩ := txt y hy; exact SeqAt.gd_str_dict (prog := X.prog) (w := X.w) z t h1 (by omega)⟩
theorem inQ {pins : List (Addr × Obj)} {s : Shared} {σ : L2.St} {H : Hp} {N M : List Addr} {m : Store} {y : V} {u : Value} {e : AV} {xs : List PyData} (I : Inv X pins σ H s) (R : Rel N M H m) (r : RV M.length N M H y e) (ry : RelV y u) (h : asQ e m = some xs) :
    (∃ as, Reads s.heap u (.list xs) as) ∨ ∃ as, Reads s.heap u (.tuple xs) as := by
  unfold asQ at h
  split at h
  · rename_i ys e1
    cases h
    obtain ⟨a, us, rfl, n, h1, z⟩ := asT_of r e1
    obtain ⟨as, h2, _⟩ := Gd.Rep.reads I (Rep.tup n h1 z) ry
    exact .inr ⟨as, h2⟩
  · obtain ⟨a, us, rfl, h1, z⟩ := asL_of R r h
    cases ry
    obtain ⟨_, its, n, rv, h2⟩ := (show ObjOk X.prog X.w H s.heap _ (.lst _) from I.hok _ _ h1)
    obtain ⟨as, z, _⟩ := Reps.reads I z rv
    exact .inl ⟨_, .list h2 rfl rfl z⟩
theorem oa_in (hr : Room k X.A) : OA X (compareOp .In) (gIn id) := by
  rintro pins s σ H x y v u Q I rx ry ⟨N, M, m, d, e, P, R, r1, r2, hg, q⟩
  have un := hr.un
  unfold gIn at hg
  split at hg
  · rename_i z
    split at hg
    · rename_i x
      split at hg
      · rename_i c e1
        have ex : x = ⟨#[c]⟩ := by
          cases x with
          | mk l => simp only at e1; rw [show l = #[c] from by rw [← Array.toList_inj, e1]]
        subst ex
        cases r1; cases r2
        exact op_in_sign pins s σ H _ _ v u Q I rx ry ⟨c, z, rfl, rfl, q _ _ M H m .refl R (.bl _) hg⟩
      · exact hg.elim
    · exact hg.elim
  · split at hg
    · rename_i xs eq
      split at hg
      · rename_i x
        obtain ⟨l1, l2, hg⟩ := hg
        obtain ⟨as, z1, _⟩ := Gd.Rep.reads I r1 rx
        have fin : EP X pins σ Q (.bool (xs.any fun y => PyData.eqv y x)) s := ⟨.bl _, H, I, rfl, q _ (.im (.bool _)) M H m .refl R (.bl _) hg⟩
        have dp : min (PyData.depthAll xs) x.depth ≤ 60 := Nat.le_trans (Nat.min_le_right _ _) l1.2
        rcases inQ I R r2 ry eq with ⟨bs, z2⟩ | ⟨bs, z2⟩
        · exact SeqAt.in_list_reads z2 z1 l2 l1.1 (by omega) fin
        · exact SeqAt.in_tuple_reads z2 z1 l2 l1.1 (by omega) fin
      · exact hg.elim
    · split at hg
      · rename_i i _ _
        split at hg
        · rename_i c ec
          split at hg
          · rename_i o eo
            obtain ⟨_, a, ha, rfl⟩ := r2
            obtain ⟨ov, dg, ho⟩ := atD_of (R.cell i a c ha ec) r1 eo
            cases ry
            have e : ov.isSome = o.isSome := by rcases ho with ⟨a, b⟩ | ⟨_, _, a, b, _⟩ <;> rw [a, b] <;> rfl
            exact d_in (by omega) I dg rx fun s3 I3 => ⟨.bl _, H, I3, rfl, q _ (.im (.bool _)) M H m .refl R (.bl _) (by rw [e]; exact hg)⟩
          · exact hg.elim
        · exact hg.elim
      · exact hg.elim
theorem oa_notin (hr : Room k X.A) : OA X (compareOp .NotIn) (gIn not) := by
  rintro pins s σ H x y v u Q I rx ry ⟨N, M, m, d, e, P, R, r1, r2, hg, q⟩
  have un := hr.un
  unfold gIn at hg
  split at hg
  · rename_i z
    split at hg
    · rename_i x
      split at hg
      · rename_i c e1
        have ex : x = ⟨#[c]⟩ := by
          cases x with
          | mk l => simp only at e1; rw [show l = #[c] from by rw [← Array.toList_inj, e1]]
        subst ex
        cases r1; cases r2
        exact op_notIn_sign pins s σ H _ _ v u Q I rx ry ⟨c, z, rfl, rfl, q _ _ M H m .refl R (.bl _) hg⟩
      · exact hg.elim
    · exact hg.elim
  · split at hg
    · rename_i xs eq
      split at hg
      · rename_i x
        obtain ⟨l1, l2, hg⟩ := hg
        obtain ⟨as, z1, _⟩ := Gd.Rep.reads I r1 rx
        have fin : EP X pins σ Q (.bool (!xs.any fun y => PyData.eqv y x)) s := ⟨.bl _, H, I, rfl, q _ (.im (.bool _)) M H m .refl R (.bl _) hg⟩
        have dp : min (PyData.depthAll xs) x.depth ≤ 60 := Nat.le_trans (Nat.min_le_right _ _) l1.2
        rcases inQ I R r2 ry eq with ⟨bs, z2⟩ | ⟨bs, z2⟩
        · exact SeqAt.notIn_list_reads z2 z1 l2 l1.1 (by omega) fin
        · exact SeqAt.notIn_tuple_reads z2 z1 l2 l1.1 (by omega) fin
      · exact hg.elim
    · split at hg
      · rename_i i _ _
        split at hg
        · rename_i c ec
          split at hg
          · rename_i o eo
            obtain ⟨_, a, ha, rfl⟩ := r2
            obtain ⟨ov, dg, ho⟩ := atD_of (R.cell i a c ha ec) r1 eo
            cases ry
            have e : ov.isSome = o.isSome := by rcases ho with ⟨a, b⟩ | ⟨_, _, a, b, _⟩ <;> rw [a, b] <;> rfl
            exact d_notIn (by omega) I dg rx fun s3 I3 => ⟨.bl _, H, I3, rfl, q _ (.im (.bool _)) M H m .refl R (.bl _) (by rw [e]; exact hg)⟩
          · exact hg.elim
        · exact hg.elim
      · exact hg.elim
theorem oa_inS (hr : Room k X.A) : OA X (compareOp .In) (gInS id) := by
  rintro pins s σ H x y v u Q I rx ry ⟨N, M, m, d, e, P, R, r1, r2, hg, q⟩
  unfold gInS at hg
  split at hg
  · obtain ⟨ss, rfl, hg⟩ := hg
    cases r2 with
    | tup n e1 z =>
      have := z.strs
      subst this
      cases ry
      obtain ⟨its, e, ht, he, hy⟩ := ltInT I hr r1 rx e1
      exact SeqAt.in_tupleAt e ht hy ⟨.bl _, H, I, rfl, by rw [List.any_toArray, he]; exact q _ (.im (.bool _)) M H m .refl R (.bl _) hg⟩
  · exact hg.elim
theorem oa_notinS (hr : Room k X.A) : OA X (compareOp .NotIn) (gInS not) := by
  rintro pins s σ H x y v u Q I rx ry ⟨N, M, m, d, e, P, R, r1, r2, hg, q⟩
  unfold gInS at hg
  split at hg
  · obtain ⟨ss, rfl, hg⟩ := hg
    cases r2 with
    | tup n e1 z =>
      have := z.strs
      subst this
      cases ry
      obtain ⟨its, e, ht, he, hy⟩ := ltInT I hr r1 rx e1
      exact SeqAt.notIn_tupleAt e ht hy ⟨.bl _, H, I, rfl, by rw [List.any_toArray, he]; exact q _ (.im (.bool _)) M H m .refl R (.bl _) hg⟩
  · exact hg.elim
end
/-- items at written places -/
theorem at0 {α : Type} (x : α) (r : List α) : L2.atI (x :: r) 0 = some x := atI_nat (j := 0) rfl
theorem at1 {α : Type} (x y : α) (r : List α) : L2.atI (x :: y :: r) 1 = some y := atI_nat (j := 1) rfl
theorem at2 {α : Type} (x y z : α) (r : List α) : L2.atI (x :: y :: z :: r) 2 = some z := atI_nat (j := 2) rfl
end Ab
end

section
set_option maxRecDepth 100000
set_option maxHeartbeats 4000000
/-! Readings over data: subscripts, slices, stores, built-ins. -/
namespace Ab
open PySem PySem.Spec PyProof.Rows L2 Gd
theorem pair_ixs {α β : Type} {F : α → β → Prop} {us : List α} {xs : List β} {i : Int} {d : β} (r : Paired F us xs) (e : L2.atI xs i = some d) : ∃ v, L2.atI us i = some v ∧ F v d := by
  have l := pair_len r
  unfold L2.atI at e ⊢
  rw [l]
  obtain ⟨j, ej, e⟩ := Option.bind_eq_some_iff.mp e
  rw [ej]
  exact pair_at r e
section
variable {X : Cx} {k : Nat}
/-- a[b] -/
def gIx : G2 := fun d e m P => match d with
  | .im (.str z) => (match e with | .im (.int i) => (match L2.atI z.cps.toList i with | some c => z.length ≤ sizeLine ∧ P (.im (.str ⟨#[c]⟩)) m | none => False) | _ => False)
  | .pr x y => (match e with | .im (.int i) => (match L2.atI [x, y] i with | some d => P d m | none => False) | _ => False)
  | .mu j => (match m[j]? with
    | some (.lst xs) => (match e with | .im (.int i) => (match L2.atI xs i with | some d => P d m | none => False) | _ => False)
    | some c => (match atD c e with | some (some d) => P d m | _ => False)
    | none => False)
  | d => (match asQ d m with
    | some xs => (match e with | .im (.int i) => (match L2.atI xs i with | some x => P (.im x) m | none => False) | _ => False)
    | none => False)
theorem xa_ix (hr : Room k X.A) : IxR X (l2 gIx) := by
  rintro value slice pins s σ H x y v u Q I rx ry ⟨N, M, m, d, e, P, R, r1, r2, hg, q⟩ hs
  have un := hr.un
  unfold gIx at hg
  split at hg
  · rename_i z
    split at hg
    · rename_i i
      split at hg
      · rename_i c ec
        cases r1; cases r2
        exact ix_str value slice pins s σ H _ _ v u Q I rx ry ⟨z, i, c, rfl, rfl, hg.1, ec, q _ _ M H m .refl R (.str _) hg.2⟩ hs
      · exact hg.elim
    · exact hg.elim
  · rename_i x y
    split at hg
    · rename_i i
      split at hg
      · rename_i d ed
        obtain ⟨a, w1, w2, rfl, _, h3, s1, s2⟩ := r1
        cases r2
        obtain ⟨w, ew, rw'⟩ := pair_ixs (.cons s1 (.cons s2 .nil)) ed
        exact ix_tup value slice pins s σ H _ _ v u Q I rx ry ⟨a, _, i, w, rfl, rfl, .inl (.inl h3), ew, q _ _ M H m .refl R rw' hg⟩ hs
      · exact hg.elim
    · exact hg.elim
  · rename_i j
    obtain ⟨hj, a, ha, rfl⟩ := r1
    split at hg
    · rename_i xs ex
      split at hg
      · rename_i i
        split at hg
        · rename_i d ed
          cases r2
          obtain ⟨us, h3, h4⟩ := R.cell j a _ ha ex
          obtain ⟨w, ew, rw'⟩ := pair_ixs h4 ed
          exact ix_list value slice pins s σ H _ _ v u Q I rx ry ⟨a, _, i, w, rfl, rfl, .inl (.inl h3), ew, q _ _ M H m .refl R (rw'.up (by omega)) hg⟩ hs
        · exact hg.elim
      · exact hg.elim
    · rename_i c _ ex
      split at hg
      · rename_i d ed
        obtain ⟨ov, dg, ho⟩ := atD_of (R.cell j a c ha ex) r2 ed
        rcases ho with ⟨_, b⟩ | ⟨w, d', rfl, b, rw'⟩
        · cases b
        · cases b
          cases rx
          have ty := dict_typeIs I dg
          obtain ⟨u0, hu0⟩ : ∃ u0 : Value, True := ⟨.none, trivial⟩
          exact tail_any ty PySem.F.slot_dict_getitem.lookup (d_getItem (by omega) I dg ry fun w' s' I' rw2 => ⟨w, H, I', rw2, q w d M H m .refl R (rw'.up (by omega)) hg⟩) hs
      · exact hg.elim
    · exact hg.elim
  · split at hg
    · rename_i xs eq
      split at hg
      · rename_i i
        split at hg
        · rename_i x ex
          cases r2
          unfold asQ at eq
          split at eq
          · rename_i ys e1
            cases eq
            obtain ⟨a, us, rfl, n, h1, z⟩ := asT_of r1 e1
            obtain ⟨w, ew, rw'⟩ := z.atI ex
            exact ix_tup value slice pins s σ H _ _ v u Q I rx ry ⟨a, _, i, w, rfl, rfl, .inl (.inl h1), ew, q _ _ M H m .refl R (.of rw') hg⟩ hs
          · obtain ⟨a, us, rfl, h1, z⟩ := asL_of R r1 eq
            obtain ⟨w, ew, rw'⟩ := z.atI ex
            exact ix_list value slice pins s σ H _ _ v u Q I rx ry ⟨a, _, i, w, rfl, rfl, .inl (.inl h1), ew, q _ _ M H m .refl R (.of rw') hg⟩ hs
        · exact hg.elim
      · exact hg.elim
    · exact hg.elim
variable {B : Bk} {a b e : Expr} {ta tb te : TE} {wa wb we : WE} {pos : Pos}
theorem ae_ix (hr : Room k X.A) (ha : AE X B a ta wa) (hb : AE X B b tb wb) (hs : PlainIx b) : AE X B (.Subscript a b pos) (tOp (l2 gIx) ta tb) (wOp gIx wa wb) := ⟨pe_ix (xa_ix hr) ha.pe hb.pe hs, le_op ha.le hb.le⟩
/-! ### slices -/
def cutD {α : Type} (xs : List α) (lo hi : Option Int) : List α := (xs.drop (HT.sIx xs.length 0 lo)).take (HT.sIx xs.length xs.length hi - HT.sIx xs.length 0 lo)
abbrev WO := Slots → Store → (Option Int → Store → Prop) → Prop
def LO (B : Bk) (t : TO) (w : WO) : Prop := ∀ N M H σ ρ m P Q, B.Ok N M H → SR N M H σ ρ → Rel N M H m → w ρ m P → (∀ o M' H' m', Ext M H M' H' → Rel N M' H' m' → P o m' → Q o H') → t σ H Q
structure AO (X : Cx) (B : Bk) (e : Option Expr) (t : TO) (w : WO) : Prop where
  po : PO X e t
  lo : LO B t w
def wNo : WO := fun _ m P => P none m
def wSome (w : WE) : WO := fun ρ m P => w ρ m fun d m1 => match d with | .im (.int i) => P (some i) m1 | _ => False
theorem ao_none : AO X B none tNoPart wNo := ⟨po_none, fun N M H σ ρ m P Q x0 S R h q => q none M H m .refl R h⟩
theorem ao_some (h : AE X B e te we) : AO X B (some e) (tPart te) (wSome we) := ⟨po_some h.pe, fun N M H σ ρ m P Q x0 S R hw q => h.le N M H σ ρ m _ _ x0 S R hw fun v d M1 H1 m1 x1 R1 r1 h1 => by
  split at h1
  · cases r1; exact ⟨_, rfl, q _ M1 H1 m1 x1 R1 h1⟩
  · exact h1.elim⟩
def gSl (d : AV) (lo hi : Option Int) (m : Store) (P : AV → Store → Prop) : Prop := match d with
  | .im (.str z) => z.length ≤ sizeLine ∧ P (.im (.str (cutS z lo hi))) m
  | d => match asT d with
    | some xs => P (.im (.tuple (cutD xs lo hi))) m
    | none => match asL d m with
      | some xs => P (.wl (cutD xs lo hi)) m
      | none => False
def lSl : V → Option Int → Option Int → Hp → VK → Prop := fun x lo hi H Q => ∃ N M m d P, Rel N M H m ∧ RV M.length N M H x d ∧ gSl d lo hi m P ∧ ∀ v d' M' H' m', Ext M H M' H' → Rel N M' H' m' → RV M'.length N M' H' v d' → P d' m' → Q v H'
theorem SlR.imp {r r' : V → Option Int → Option Int → Hp → VK → Prop} (h : SlR X r) (i : ∀ x lo hi H Q, r' x lo hi H Q → r x lo hi H Q) : SlR X r' := fun pins s σ H x v vl vu lo hi sl Q I rx hs pl pu q => h pins s σ H x v vl vu lo hi sl Q I rx hs pl pu (i _ _ _ _ _ q)
theorem sl_data : SlR X lSl := by
  refine SlR.imp (SlR.or sl_str (SlR.or sl_tupA sl_list)) fun x lo hi H Q ⟨N, M, m, d, P, R, r1, hg, q⟩ => ?_
  unfold gSl at hg
  split at hg
  · rename_i z
    cases r1
    exact .inl ⟨z, rfl, hg.1, q _ _ M H m .refl R (.str _) hg.2⟩
  · split at hg
    · rename_i xs e1
      obtain ⟨a, us, rfl, n, h1, z⟩ := asT_of r1 e1
      have l := z.length
      refine .inr (.inl ⟨a, us, rfl, .inl (.inl h1), fun w => ?_, fun _ p hp => ?_⟩)
      · have e : cutD xs lo hi = xs := by unfold cutD; rw [← l, w.1, w.2]; simp [l]
        rw [e] at hg
        exact q _ (.im (.tuple xs)) M H m .refl R (Rep.tup n h1 z) hg
      · have e : Reps (M ++ N) H (cutV us lo hi) (cutD xs lo hi) := by unfold cutV cutD; rw [l]; exact (z.drop _).take _
        exact q _ (.im (.tuple _)) M _ m (.alloc hp) (R.alloc hp) (Rep.tup (R.live.fresh hp) upd_same (e.keep (Kp.new hp))) hg
    · split at hg
      · rename_i xs e1
        obtain ⟨a, us, rfl, h1, z⟩ := asL_of R r1 e1
        have l := z.length
        refine .inr (.inr ⟨a, us, rfl, .inl (.inl h1), fun p hp => ?_⟩)
        have e : Reps (M ++ N) H (cutV us lo hi) (cutD xs lo hi) := by unfold cutV cutD; rw [l]; exact (z.drop _).take _
        obtain ⟨x', R', r'⟩ := new_wl R hp e
        exact q _ _ M _ m x' R' r' hg
      · exact hg.elim
variable {lo hi : Option Expr} {tl th : TO} {wl wh : WO} {p2 : Pos}
def wSl (wa : WE) (wl wh : WO) : WE := fun ρ m P => wa ρ m fun d m1 => wl ρ m1 fun lo m2 => wh ρ m2 fun hi m3 => gSl d lo hi m3 P
theorem ae_slice (ha : AE X B a ta wa) (hl : AO X B lo tl wl) (hh : AO X B hi th wh) : AE X B (.Subscript a (.Slice lo hi none p2) pos) (tSl lSl ta tl th) (wSl wa wl wh) :=
  ⟨pe_slice sl_data ha.pe hl.po hh.po, fun N M H σ ρ m P Q x0 S R h q => ha.le N M H σ ρ m _ _ x0 S R h fun v d M1 H1 m1 x1 R1 r1 h1 => hl.lo N M1 H1 σ ρ m1 _ _ (x0.trans x1) (S.ext x1) R1 h1 fun l M2 H2 m2 x2 R2 h2 =>
    hh.lo N M2 H2 σ ρ m2 _ _ ((x0.trans x1).trans x2) ((S.ext x1).ext x2) R2 h2 fun u M3 H3 m3 x3 R3 h3 => ⟨N, M3, m3, d, P, R3, (r1.extL x2).extL x3, h3, fun z f M4 H4 m4 x4 R4 r4 h4 => q z f M4 H4 m4 (((x1.trans x2).trans x3).trans x4) R4 r4 h4⟩⟩
/-! ### o[i] = v -/
def putA {κ : Type} [DecidableEq κ] {α : Type} (kvs : List (κ × α)) (k : κ) (v : α) : List (κ × α) := if (kvs.any fun kv => decide (kv.1 = k)) = true then kvs.map (fun kv => if kv.1 = k then (kv.1, v) else kv) else kvs ++ [(k, v)]
theorem put_of {κ : Type} [DecidableEq κ] {n : Nat} {N M : List Addr} {H : Hp} {us : List (κ × V)} {kvs : List (κ × AV)} {v : V} {d : AV} (k : κ) (r : RKs n N M H us kvs) (rv : RV n N M H v d) : RKs n N M H (putK us k v) (putA kvs k d) := by
  have same : (us.any fun kv => decide (kv.1 = k)) = (kvs.any fun kv => decide (kv.1 = k)) := by
    induction r with
    | nil => rfl
    | cons a b ih => rw [List.any_cons, List.any_cons, ih, a.1]
  have mp : RKs n N M H (us.map fun kv => if kv.1 = k then (kv.1, v) else kv) (kvs.map fun kv => if kv.1 = k then (kv.1, d) else kv) := by
    clear same
    induction r with
    | nil => exact .nil
    | cons a b ih =>
      refine .cons ?_ ih
      dsimp only
      rw [a.1]
      split
      · exact ⟨rfl, rv⟩
      · exact ⟨a.1, a.2⟩
  unfold putK putA
  rw [same]
  split
  · exact mp
  · exact pair_app r (.cons ⟨rfl, rv⟩ .nil)
/-- o, i, v -/
def gSt (o i d : AV) (m : Store) (P : Store → Prop) : Prop := match o with
  | .mu j => d.und j = true ∧ (match m[j]? with
    | some (.lst xs) => (match i with | .im (.int z) => (match L2.ixN xs.length z with | some n => P (m.set j (.lst (xs.set n d))) | none => False) | _ => False)
    | some (.dk kvs) => kvs.length < sizeLine ∧ (match i with | .im x => (match keyA x with | some k => P (m.set j (.dk (putA kvs k d))) | none => False) | _ => False)
    | some (.dt kvs) => kvs.length < sizeLine ∧ (match i with | .im (.tuple xs) => (match keysA xs with | some k => P (m.set j (.dt (putA kvs k d))) | none => False) | _ => False)
    | _ => False)
  | _ => False
def lSt : V → V → V → Hp → (Hp → Prop) → Prop := fun o i v H Q => ∃ N M m a b d P, Rel N M H m ∧ RV M.length N M H o a ∧ RV M.length N M H i b ∧ RV M.length N M H v d ∧ gSt a b d m P ∧ ∀ M' H' m', Ext M H M' H' → Rel N M' H' m' → P m' → Q H'
theorem RV.und2 {N M : List Addr} {H : Hp} {k n : Nat} : ∀ {v : V} {d : AV}, d.und n = true → RV k N M H v d → RV n N M H v d
  | _, .im _, _, r => r
  | _, .mu i, h, ⟨_, a, h1, h2⟩ => ⟨by simpa [AV.und] using h, a, h1, h2⟩
  | _, .pr x y, h, ⟨a, u, w, h1, h2, h3, r1, r2⟩ => by
    have h : x.und n = true ∧ y.und n = true := by simpa [AV.und] using h
    exact ⟨a, u, w, h1, h2, h3, r1.und2 h.1, r2.und2 h.2⟩
  | _, .wl _, _, r => r
theorem RV.put {N M : List Addr} {H : Hp} {n : Nat} {a : Addr} {o : HO} (ha : a ∈ M) : ∀ {v : V} {d : AV}, RV n N M H v d → RV n N M (upd H a o) v d
  | _, .im _, r => Gd.Rep.keep (Kp.put (List.mem_append_left _ ha)) r
  | _, .mu _, r => r
  | _, .pr x y, ⟨b, u, w, h1, h2, h3, r1, r2⟩ => ⟨b, u, w, h1, h2, by rw [upd_ne (fun z : b = a => h2 (List.mem_append_left _ (by rw [z]; exact ha)))]; exact h3, r1.put ha, r2.put ha⟩
  | _, .wl _, ⟨b, us, h1, h2, h3, r⟩ => ⟨b, us, h1, h2, by rw [upd_ne (fun z : b = a => h2 (List.mem_append_left _ (by rw [z]; exact ha)))]; exact h3, Gd.Reps.keep (Kp.put (List.mem_append_left _ ha)) r⟩
theorem pair_set {α β : Type} {F : α → β → Prop} {x : α} {y : β} (h : F x y) : ∀ {xs : List α} {ys : List β} (i : Nat), Paired F xs ys → Paired F (xs.set i x) (ys.set i y)
  | _, _, _, .nil => .nil
  | _, _, 0, .cons _ t => .cons h t
  | _, _, i + 1, .cons r t => .cons r (pair_set h i t)
theorem set_data (hr : Room k X.A) : PSet X lSt := by
  rintro pins s σ H o i v ov iv u Q I ro ri rv ⟨N, M, m, a, b, d, P, R, r1, r2, r3, hg, q⟩
  have un := hr.un
  unfold gSt at hg
  split at hg
  · rename_i j
    obtain ⟨hd, hg⟩ := hg
    obtain ⟨hj, p, hp, rfl⟩ := r1
    have mp : p ∈ M := List.mem_of_getElem? hp
    have r3 := r3.und2 hd
    split at hg
    · rename_i xs ex
      split at hg
      · rename_i z
        split at hg
        · rename_i n en
          cases r2
          obtain ⟨us, h3, h4⟩ := R.cell j p _ hp ex
          obtain ⟨R', x'⟩ := R.put (c := .lst (xs.set n d)) (o := .lst (us.set n v)) hp ⟨_, upd_same, pair_imp (fun _ _ r => r.put mp) (pair_set r3 n h4)⟩
          exact set_list pins s σ H _ _ v ov iv u Q I ro ri rv ⟨p, us, z, n, rfl, rfl, h3, by rw [pair_len h4]; exact en, q M _ _ x' R' hg⟩
        · exact hg.elim
      · exact hg.elim
    · rename_i kvs ex
      obtain ⟨hl, hg⟩ := hg
      split at hg
      · rename_i x
        split at hg
        · rename_i k ek
          obtain ⟨us, h3, h4⟩ := R.cell j p _ hp ex
          cases ro
          obtain ⟨R', x'⟩ := R.put (c := .dk (putA kvs k d)) (o := .dK (putK us k v)) hp ⟨_, upd_same, pair_imp (fun _ _ r => ⟨r.1, r.2.put mp⟩) (put_of k h4 r3)⟩
          exact d_setItem (by omega) I (.inl ⟨us, k, h3, key_rep r2 ek, by rw [pair_len h4]; exact hl, rfl⟩) ri rv fun s' I' => ⟨_, I', q M _ _ x' R' hg⟩
        · exact hg.elim
      · exact hg.elim
    · rename_i kvs ex
      obtain ⟨hl, hg⟩ := hg
      split at hg
      · rename_i xs
        split at hg
        · rename_i k ek
          obtain ⟨us, h3, h4⟩ := R.cell j p _ hp ex
          cases ro
          cases r2 with
          | tup n1 e1 z =>
            obtain ⟨R', x'⟩ := R.put (c := .dt (putA kvs k d)) (o := .dT (putK us k v)) hp ⟨_, upd_same, pair_imp (fun _ _ r => ⟨r.1, r.2.put mp⟩) (put_of k h4 r3)⟩
            exact d_setItem (by omega) I (.inr ⟨us, k, _, h3, rfl, by rw [← keys_rep z ek]; exact e1, by rw [pair_len h4]; exact hl, rfl⟩) ri rv fun s' I' => ⟨_, I', q M _ _ x' R' hg⟩
        · exact hg.elim
      · exact hg.elim
    · exact hg.elim
  · exact hg.elim
def wgSub (wo wi : WE) : WG := fun d ρ m P => wo ρ m fun o m1 => wi ρ m1 fun i m2 => gSt o i d m2 fun m3 => P ρ m3
theorem g_sub {o i : Expr} {to ti : TE} {wo wi : WE} (hr : Room k X.A) (ho : AE X B o to wo) (hi : AE X B i ti wi)
    (ha : ∀ v, assign (.Subscript o i pos) X.env v = (do
      let ov ← holding [v] (eval o X.env)
      let iv ← holding [v, ov] (eval i X.env)
      standAt pos
      holding [v, ov, iv] (setItem ov iv v)
      release [v, ov, iv] []) := by intro _; rfl) : AG X B (.Subscript o i pos) (gSub to ti lSt) (wgSub wo wi) :=
  ⟨pg_sub ho.pe hi.pe (set_data hr) ha, fun N M H σ ρ m v d P Q x0 S R r h q => ho.le N M H σ ρ m _ _ x0 S R h fun ov o M1 H1 m1 x1 R1 r1 h1 => hi.le N M1 H1 σ ρ m1 _ _ (x0.trans x1) (S.ext x1) R1 h1 fun iv i M2 H2 m2 x2 R2 r2 h2 =>
    ⟨N, M2, m2, o, i, d, _, R2, r1.extL x2, r2, (r.extL x1).extL x2, h2, fun M3 H3 m3 x3 R3 h3 => q M3 H3 σ ρ m3 ((x1.trans x2).trans x3) (((S.ext x1).ext x2).ext x3) R3 h3⟩⟩
end
end Ab
end

section
set_option maxRecDepth 100000
set_option maxHeartbeats 4000000
/-! Readings over data: built-in functions and methods. -/
namespace Ab
open PySem PySem.Spec PyProof.Rows L2 Gd
section
variable {X : Cx} {k : Nat}
/-- len(x) -/
def gLen : GL := fun ds m P => match ds with
  | [.im (.str z)] => z.length ≤ sizeLine ∧ P (.im (.int z.length)) m
  | [.pr _ _] => P (.im (.int 2)) m
  | [.mu j] => (match m[j]? with
    | some (.lst xs) => P (.im (.int xs.length)) m
    | some (.dk kvs) => P (.im (.int kvs.length)) m
    | _ => False)
  | [d] => (match asQ d m with | some xs => P (.im (.int xs.length)) m | none => False)
  | _ => False
theorem ca_len : CA X (.builtin "len") gLen := by
  rintro pins s σ H vs us Q I r ⟨N, M, m, ds, P, R, r1, hg, q⟩
  unfold gLen at hg
  split at hg
  · obtain ⟨v, rfl, rv⟩ := val1 r1
    cases rv
    exact call_len pins s σ H _ us Q I r ⟨_, _, rfl, ⟨hg.1, rfl⟩, q _ _ M H m .refl R (.int _) hg.2⟩
  · obtain ⟨v, rfl, a, u, w, rfl, _, h3, _⟩ := val1 r1
    exact call_len pins s σ H _ us Q I r ⟨_, _, rfl, .inr ⟨_, .inl (.inl h3), rfl⟩, q _ _ M H m .refl R (.int _) hg⟩
  · rename_i j
    obtain ⟨v, rfl, _, a, ha, rfl⟩ := val1 r1
    split at hg
    · rename_i xs ex
      obtain ⟨us', h3, h4⟩ := R.cell j a _ ha ex
      exact call_len pins s σ H _ us Q I r ⟨_, _, rfl, .inl ⟨_, .inl (.inl h3), rfl⟩, q _ _ M H m .refl R (.int _) (by rw [pair_len h4]; exact hg)⟩
    · rename_i xs ex
      obtain ⟨us', h3, h4⟩ := R.cell j a _ ha ex
      exact call_lenD pins s σ H _ us Q I r ⟨_, _, rfl, h3, q _ _ M H m .refl R (.int _) (by rw [pair_len h4]; exact hg)⟩
    · exact hg.elim
  · rename_i d _ _ _
    obtain ⟨v, rfl, rv⟩ := val1 r1
    split at hg
    · rename_i xs eq
      unfold asQ at eq
      split at eq
      · rename_i ys e1
        cases eq
        obtain ⟨a, us', rfl, n, h1, z⟩ := asT_of rv e1
        exact call_len pins s σ H _ us Q I r ⟨_, _, rfl, .inr ⟨_, .inl (.inl h1), rfl⟩, q _ _ M H m .refl R (.int _) (by rw [z.length]; exact hg)⟩
      · obtain ⟨a, us', rfl, h1, z⟩ := asL_of R rv eq
        exact call_len pins s σ H _ us Q I r ⟨_, _, rfl, .inl ⟨_, .inl (.inl h1), rfl⟩, q _ _ M H m .refl R (.int _) (by rw [z.length]; exact hg)⟩
    · exact hg.elim
  · exact hg.elim
/-- abs(i) -/
def gAbs : GL := fun ds m P => match ds with
  | [.im (.int i)] => P (.im (.int (if i < 0 then -i else i))) m
  | _ => False
theorem ca_abs : CA X (.builtin "abs") gAbs := by
  rintro pins s σ H vs us Q I r ⟨N, M, m, ds, P, R, r1, hg, q⟩
  unfold gAbs at hg
  split at hg
  · obtain ⟨v, rfl, rv⟩ := val1 r1
    cases rv
    exact call_abs pins s σ H _ us Q I r ⟨_, rfl, q _ _ M H m .refl R (.int _) hg⟩
  · exact hg.elim
/-- min(i, j), max(i, j) -/
def gTwo (f : Int → Int → Int) : GL := fun ds m P => match ds with
  | [.im (.int i), .im (.int j)] => P (.im (.int (f i j))) m
  | _ => False
theorem ca_min2 (hc : X.calm = true) : CA X (.builtin "min") (gTwo fun i j => if j < i then j else i) := by
  rintro pins s σ H vs us Q I r ⟨N, M, m, ds, P, R, r1, hg, q⟩
  unfold gTwo at hg
  split at hg
  · obtain ⟨v, w, rfl, rv, rw'⟩ := val2 r1
    cases rv; cases rw'
    exact call_min2 hc pins s σ H _ us Q I r ⟨_, _, rfl, q _ _ M H m .refl R (.int _) hg⟩
  · exact hg.elim
theorem ca_max2 (hc : X.calm = true) : CA X (.builtin "max") (gTwo fun i j => if j > i then j else i) := by
  rintro pins s σ H vs us Q I r ⟨N, M, m, ds, P, R, r1, hg, q⟩
  unfold gTwo at hg
  split at hg
  · obtain ⟨v, w, rfl, rv, rw'⟩ := val2 r1
    cases rv; cases rw'
    exact call_max2 hc pins s σ H _ us Q I r ⟨_, _, rfl, q _ _ M H m .refl R (.int _) hg⟩
  · exact hg.elim
/-- all(..), any(..) of a list of booleans -/
def bools : List PyData → Option (List Bool)
  | [] => some []
  | .bool b :: r => (bools r).map (b :: ·)
  | _ => none
theorem bools_of {M : List Addr} {H : Hp} : ∀ {us : List V} {xs : List PyData} {bs : List Bool}, Reps M H us xs → bools xs = some bs → us = bs.map V.bl
  | _, [], _, .nil, h => by cases h; rfl
  | _, .bool b :: r, _, .cons r1 r2, h => by
    unfold bools at h
    obtain ⟨cs, h1, rfl⟩ := Option.map_eq_some_iff.mp h
    cases r1
    rw [bools_of r2 h1]; rfl
theorem bools_map : ∀ bs : List Bool, bools (bs.map PyData.bool) = some bs
  | [] => rfl
  | b :: r => by simp [bools, bools_map r]
def gAll (f : List Bool → Bool) : GL := fun ds m P => match ds with
  | [d] => (match asL d m with | some xs => (match bools xs with | some bs => P (.im (.bool (f bs))) m | none => False) | none => False)
  | _ => False
theorem ca_all (hc : X.calm = true) : CA X (.builtin "all") (gAll fun bs => bs.all id) := by
  rintro pins s σ H vs us Q I r ⟨N, M, m, ds, P, R, r1, hg, q⟩
  unfold gAll at hg
  split at hg
  · obtain ⟨v, rfl, rv⟩ := val1 r1
    split at hg
    · rename_i xs e1
      split at hg
      · rename_i bs e2
        obtain ⟨a, us', rfl, h1, z⟩ := asL_of R rv e1
        have := bools_of z e2
        subst this
        exact cr_all hc pins s σ H _ us Q I r ⟨a, bs, rfl, .inl (.inl h1), q _ (.im (.bool _)) M H m .refl R (.bl _) hg⟩
      · exact hg.elim
    · exact hg.elim
  · exact hg.elim
theorem ca_any (hc : X.calm = true) : CA X (.builtin "any") (gAll fun bs => bs.any id) := by
  rintro pins s σ H vs us Q I r ⟨N, M, m, ds, P, R, r1, hg, q⟩
  unfold gAll at hg
  split at hg
  · obtain ⟨v, rfl, rv⟩ := val1 r1
    split at hg
    · rename_i xs e1
      split at hg
      · rename_i bs e2
        obtain ⟨a, us', rfl, h1, z⟩ := asL_of R rv e1
        have := bools_of z e2
        subst this
        exact cr_any hc pins s σ H _ us Q I r ⟨a, bs, rfl, .inl (.inl h1), q _ (.im (.bool _)) M H m .refl R (.bl _) hg⟩
      · exact hg.elim
    · exact hg.elim
  · exact hg.elim
/-- repr(x) -/
def gRepr : GL := fun ds m P => match ds with
  | [d] => (match dat d m with | some x => x.showable = true ∧ x.depth ≤ 100 ∧ x.shown.length ≤ sizeLine ∧ (x.hasDict = false ∨ ∃ y, d = .im y) ∧ P (.im (.str x.shown)) m | none => False)
  | _ => False
theorem ca_repr (hgu : X.A.guards = some []) (hr : Room k X.A) : CA X (.builtin "repr") gRepr := by
  rintro pins s σ H vs us Q I r ⟨N, M, m, ds, P, R, r1, hg, q⟩
  unfold gRepr at hg
  split at hg
  · rename_i d
    obtain ⟨v, rfl, rv⟩ := val1 r1
    split at hg
    · rename_i x e1
      obtain ⟨sh, dp, sz, hd, hg⟩ := hg
      have un := hr.un
      by_cases c : ∃ y, d = .im y
      · obtain ⟨y, rfl⟩ := c
        cases e1
        exact call_repr hgu hr pins s σ H _ us Q I r ⟨M ++ N, v, x, rfl, rv, sh, dp, sz, q _ _ M H m .refl R (.str _) hg⟩
      · have nd := hd.resolve_right c
        obtain ⟨u, rfl, ru⟩ := vals1 r
        obtain ⟨as, rd, no⟩ := dat_of I R rv e1 ru fun _ => nd
        have isref : ∃ a, v = .ref a := by
          unfold dat at e1
          split at e1
          · exact absurd ⟨_, rfl⟩ c
          · cases e1
          · obtain ⟨xs, h1, _⟩ := Option.map_eq_some_iff.mp e1
            obtain ⟨a, us', rfl, _⟩ := asL_of R rv h1
            exact ⟨a, rfl⟩
        obtain ⟨a, rfl⟩ := isref
        cases ru
        exact PySem.repr_of_reads' rd sh no hgu (by omega) (fun _ _ e => e) (fun h' u tk kp => ⟨.str _, H, I.kept kp, ⟨_, rfl⟩, q _ _ M H m .refl R (.str _) hg⟩) sz
    · exact hg.elim
  · exact hg.elim
/-- int(x) of a number or a boolean; str(i) -/
def gI1 : GL := fun ds m P => match ds with
  | [.im (.int i)] => P (.im (.int i)) m
  | [.im (.bool b)] => P (.im (.int (if b = true then 1 else 0))) m
  | _ => False
theorem ca_int : CA X (.type "int") gI1 := by
  rintro pins s σ H vs us Q I r ⟨N, M, m, ds, P, R, r1, hg, q⟩
  unfold gI1 at hg
  split at hg
  · obtain ⟨v, rfl, rv⟩ := val1 r1
    cases rv
    exact call_int1 pins s σ H _ us Q I r (.inl ⟨_, rfl, q _ _ M H m .refl R (.int _) hg⟩)
  · obtain ⟨v, rfl, rv⟩ := val1 r1
    cases rv
    exact call_int1 pins s σ H _ us Q I r (.inr ⟨_, rfl, q _ (.im (.int _)) M H m .refl R (.int _) hg⟩)
  · exact hg.elim
def gStr : GL := fun ds m P => match ds with
  | [.im (.int i)] => i.natAbs.log2 < 1920 ∧ P (.im (.str (toString i))) m
  | [.im (.bool b)] => P (.im (.str (if b then "True" else "False"))) m
  | _ => False
theorem ca_str : CA X (.type "str") gStr := by
  rintro pins s σ H vs us Q I r ⟨N, M, m, ds, P, R, r1, hg, q⟩
  unfold gStr at hg
  split at hg
  · obtain ⟨v, rfl, rv⟩ := val1 r1
    cases rv
    exact call_strN pins s σ H _ us Q I r (.inl ⟨_, rfl, hg.1, q _ _ M H m .refl R (.str _) hg.2⟩)
  · obtain ⟨v, rfl, rv⟩ := val1 r1
    cases rv
    exact call_strN pins s σ H _ us Q I r (.inr ⟨_, rfl, q _ (.im (.str _)) M H m .refl R (.str _) hg⟩)
  · exact hg.elim
/-- tuple(x), list(x) -/
def gTupOf : GL := fun ds m P => match ds with
  | [.im (.str z)] => z.length ≤ sizeLine ∧ P (.im (.tuple (z.cps.toList.map fun c => .str ⟨#[c]⟩))) m
  | [d] => (match asQ d m with | some xs => P (.im (.tuple xs)) m | none => False)
  | _ => False
theorem ca_tuple (hc : X.calm = true) : CA X (.type "tuple") gTupOf := by
  rintro pins s σ H vs us Q I r ⟨N, M, m, ds, P, R, r1, hg, q⟩
  unfold gTupOf at hg
  split at hg
  · rename_i z
    obtain ⟨v, rfl, rv⟩ := val1 r1
    cases rv
    refine Gd.call_tuple_str hc pins s σ H _ us Q I r ⟨z, rfl, hg.1, fun p hp => ?_⟩
    have rr : Reps (M ++ N) (upd H p (.tup (z.cps.toList.map fun c => V.str ⟨#[c]⟩))) (z.cps.toList.map fun c => V.str ⟨#[c]⟩) (z.cps.toList.map fun c => .str ⟨#[c]⟩) := by
      generalize z.cps.toList = l
      generalize upd H p _ = H'
      induction l with
      | nil => exact .nil
      | cons a b ih => exact .cons (.str _) ih
    exact q _ (.im (.tuple _)) M _ m (.alloc hp) (R.alloc hp) (Rep.tup (R.live.fresh hp) upd_same rr) hg.2
  · rename_i d _
    obtain ⟨v, rfl, rv⟩ := val1 r1
    split at hg
    · rename_i xs eq
      unfold asQ at eq
      split at eq
      · rename_i ys e1
        cases eq
        obtain ⟨a, us', rfl, n, h1, z⟩ := asT_of rv e1
        exact call_tuple_of pins s σ H _ us Q I r ⟨a, us', rfl, .inr ⟨.inl (.inl h1), q _ (.im (.tuple _)) M H m .refl R (Rep.tup n h1 z) hg⟩⟩
      · obtain ⟨a, us', rfl, h1, z⟩ := asL_of R rv eq
        exact call_tuple_of pins s σ H _ us Q I r ⟨a, us', rfl, .inl ⟨.inl (.inl h1), fun p hp => q _ (.im (.tuple _)) M _ m (.alloc hp) (R.alloc hp) (Rep.tup (R.live.fresh hp) upd_same (z.keep (Kp.new hp))) hg⟩⟩
    · exact hg.elim
  · exact hg.elim
def gListOf : GL := fun ds m P => match ds with
  | [d] => (match asQ d m with | some xs => P (.wl xs) m | none => False)
  | _ => False
/-- .. a list that may change -/
def gListM : GL := fun ds m P => match ds with
  | [d] => (match asQ d m with | some xs => P (.mu m.length) (m ++ [.lst (xs.map .im)]) | none => False)
  | _ => False
theorem list_of {pins : List (Addr × Obj)} {s : Shared} {σ : L2.St} {H : Hp} {N M : List Addr} {m : Store} {vs : List V} {us : List Value} {d : AV} {xs : List PyData} {Q : VK} (I : Inv X pins σ H s) (R : Rel N M H m) (r : Vals vs us) (r1 : RVs M.length N M H vs [d]) (e : asQ d m = some xs)
    (q : ∀ ws p, H p = none → Reps (M ++ N) H ws xs → Q (.ref p) (upd H p (.lst ws))) : wpAny (model X.prog X.w) X.A (call (.type "list") us) (EP X pins σ Q) X.xe s := by
  obtain ⟨v, rfl, rv⟩ := val1 r1
  unfold asQ at e
  split at e
  · rename_i ys e1
    cases e
    obtain ⟨a, us', rfl, n, h1, z⟩ := asT_of rv e1
    exact call_list_of pins s σ H _ us Q I r ⟨a, us', rfl, .inr (.inl (.inl h1)), fun p hp => q us' p hp z⟩
  · obtain ⟨a, us', rfl, h1, z⟩ := asL_of R rv e
    exact call_list_of pins s σ H _ us Q I r ⟨a, us', rfl, .inl (.inl (.inl h1)), fun p hp => q us' p hp z⟩
theorem ca_list : CA X (.type "list") gListOf := by
  rintro pins s σ H vs us Q I r ⟨N, M, m, ds, P, R, r1, hg, q⟩
  unfold gListOf at hg
  split at hg
  · split at hg
    · rename_i xs e
      exact list_of I R r r1 e fun ws p hp z => by
        obtain ⟨x', R', r'⟩ := new_wl R hp z
        exact q _ _ M _ m x' R' r' hg
    · exact hg.elim
  · exact hg.elim
theorem ca_listM : CA X (.type "list") gListM := by
  rintro pins s σ H vs us Q I r ⟨N, M, m, ds, P, R, r1, hg, q⟩
  unfold gListM at hg
  split at hg
  · split at hg
    · rename_i xs e
      exact list_of I R r r1 e fun ws p hp z => by
        obtain ⟨a, b, c⟩ := newL R hp (to_ims (n := M.length) z)
        exact q _ (.mu m.length) _ _ _ b a c hg
    · exact hg.elim
  · exact hg.elim
/-- sorted(list) of data of one shape -/
def gSorted : GL := fun ds m P => match ds with
  | [d] => (match asL d m with | some xs => W.AllAlike xs ∧ W.Sortable xs ∧ (∀ x ∈ xs, x.depth ≤ 60) ∧ P (.wl (sortD xs)) m | none => False)
  | _ => False
theorem ca_sorted (hr : Room k X.A) : CA X (.builtin "sorted") gSorted := by
  rintro pins s σ H vs us Q I r ⟨N, M, m, ds, P, R, r1, hg, q⟩
  unfold gSorted at hg
  split at hg
  · obtain ⟨v, rfl, rv⟩ := val1 r1
    split at hg
    · rename_i xs e
      obtain ⟨a1, a2, a3, hg⟩ := hg
      obtain ⟨a, us', rfl, h1, z⟩ := asL_of R rv e
      refine cr_sortedD (K := X.K) rfl hr pins s σ H _ us Q I r ⟨M ++ N, a, us', xs, rfl, .inl (.inl h1), z, a1, a2, a3, fun p ws _ rw' hp => ?_⟩
      obtain ⟨x', R', r'⟩ := new_wl R hp rw'
      exact q _ _ M _ m x' R' r' hg
    · exact hg.elim
  · exact hg.elim
variable {B : Bk} {e o : Expr} {es : List Expr} {t te to : TE} {tl : TA} {we wo : WE} {wl : WL} {p pos : Pos} {x : Str} {id T : String}
theorem ae_callB {g : GL} (hc : CA X (.builtin id) g) (hg : Gl X x) (hm : X.mg x = none) (hv : bootBuiltins x = some (.builtin id)) (ha : AL X B (e :: es) tl wl) (hn : x ≠ "__name__" := by decide) (hdb : (x == ("__debug__" : Str)) = false := by decide)
    (he : starEach (e :: es) X.env = (false, eval e X.env) :: starEach es X.env := by rfl) (hpl : (backTo pos (starEach es X.env)).any (·.1) = false := by rfl) : AE X B (.Call (.Name x p) (e :: es) [] pos) (tCB (lL g) tl) (wCB g wl) := ⟨pe_callB hc hg hm hv ha.pa hn hdb he hpl, le_cb ha.la⟩
theorem ae_callTy {g : GL} (hc : CA X (.type T) g) (hg : Gl X x) (hm : X.mg x = none) (hv : bootBuiltins x = some (.type T)) (ha : AL X B (e :: es) tl wl) (hn : x ≠ "__name__" := by decide) (hdb : (x == ("__debug__" : Str)) = false := by decide)
    (he : starEach (e :: es) X.env = (false, eval e X.env) :: starEach es X.env := by rfl) (hpl : (backTo pos (starEach es X.env)).any (·.1) = false := by rfl) : AE X B (.Call (.Name x p) (e :: es) [] pos) (tCB (lL g) tl) (wCB g wl) := ⟨pe_callTy hc hg hm hv ha.pa hn hdb he hpl, le_cb ha.la⟩
/-- isinstance(e, T) -/
def wIsI (f : PyData → Bool) (w : WE) : WE := fun ρ m P => w ρ m fun d m1 => match d with | .im y => P (.im (.bool (f y))) m1 | _ => False
theorem ae_isI {f : PyData → Bool} {n : Expr} (hc : CallR X (.builtin "isinstance") (rIs f T)) (hg : Gl X "isinstance") (hm : X.mg "isinstance" = none) (hv : bootBuiltins "isinstance" = some (.builtin "isinstance")) (ha : AE X B e t we) (hT : PE X n (tC (.ty T)))
    (hs1 : starEach (e :: [n]) X.env = (false, eval e X.env) :: starEach [n] X.env := by rfl) (hs2 : starEach (n :: []) X.env = (false, eval n X.env) :: starEach [] X.env := by rfl)
    (hpl : (backTo pos (starEach [n] X.env)).any (·.1) = false := by rfl) : AE X B (.Call (.Name "isinstance" p) [e, n] [] pos) (tCB (rIs f T) (tCons t (tCons (tC (.ty T)) tNil))) (wIsI f we) :=
  ⟨pe_callB hc hg hm hv (pa_cons ha.pe (pa_cons hT pa_nil hs2) hs1) (by decide) (by decide) hs1 hpl, fun N M H σ ρ m P Q x0 S R hw q => ha.le N M H σ ρ m _ _ x0 S R hw fun v d M1 H1 m1 x1 R1 r1 h1 => by
    split at h1
    · exact ⟨M1 ++ N, v, _, rfl, r1, q _ (.im (.bool _)) M1 H1 m1 x1 R1 (.bl _) h1⟩
    · exact h1.elim⟩
/-! ### methods of lists -/
def isList (d : AV) (m : Store) : Prop := match d with
  | .mu j => (match m[j]? with | some (.lst _) => True | _ => False)
  | d => (match asL d m with | some _ => True | none => False)
theorem isList_of {N M : List Addr} {H : Hp} {m : Store} {v : V} {d : AV} {K : PySem.W.Frag} (R : Rel N M H m) (r : RV M.length N M H v d) (h : isList d m) : tyV K "list" v H := by
  unfold isList at h
  split at h
  · rename_i j
    obtain ⟨_, a, ha, rfl⟩ := r
    split at h
    · rename_i xs ex
      obtain ⟨us, h3, _⟩ := R.cell j a _ ha ex
      exact .inl ⟨rfl, _, .inl (.inl h3)⟩
    · exact h.elim
  · split at h
    · rename_i e
      obtain ⟨a, us, rfl, h1, _⟩ := asL_of R r e
      exact .inl ⟨rfl, _, .inl (.inl h1)⟩
    · exact h.elim
abbrev GM := AV → List AV → Store → (AV → Store → Prop) → Prop
abbrev MA (X : Cx) (id : String) (g : GM) : Prop := MtR X id (lM g)
def wML (g : GM) (wo : WE) (wl : WL) : WE := fun ρ m P => wo ρ m fun d m1 => isList d m1 ∧ wl ρ m1 fun ds m2 => g d ds m2 P
theorem ae_ml {g : GM} {name : Str} {apos : Pos} (pa : PlainAttrs "list") (slot : Slot "list" name id) (hty : typeOf (.builtin id) = pure (.type "method_descriptor")) (hm : MA X id g) (ho : AE X B o to wo) (ha : AL X B (e :: es) tl wl)
    (hbase : attributeBase o name X.env (eval o X.env) = eval o X.env := by rfl)
    (hfew : ((backTo pos (starEach (e :: es) X.env)).all (fun x => !x.1) && (backToKw pos (keywordEach [] X.env)).all (fun x => x.1.isSome) && decide ((e :: es).length + ([] : List Keyword).length + (if ([] : List Keyword).isEmpty then 0 else 1) < 30)) = true := by rfl)
    (hline : (apos.endLine == pos.line) = true := by rfl) (hs : starEach (e :: es) X.env = (false, eval e X.env) :: starEach es X.env := by rfl) (hplain : (backTo pos (starEach es X.env)).any (·.1) = false := by rfl) {K : PySem.W.Frag} (hK : X.K = K := by rfl) :
    AE X B (.Call (.Attribute o name apos) (e :: es) [] pos) (tBM K "list" (lM g) to tl) (wML g wo wl) :=
  ⟨hK ▸ pe_bm pa slot hty hm ho.pe ha.pa hbase hfew hline hs hplain, fun N M H σ ρ m P Q x0 S R hw q => ho.le N M H σ ρ m _ _ x0 S R hw fun v d M1 H1 m1 x1 R1 r1 h1 => ⟨isList_of R1 r1 h1.1, ha.la N M1 H1 σ ρ m1 _ _ (x0.trans x1) (S.ext x1) R1 h1.2 fun vs ds M2 H2 m2 x2 R2 r2 h2 =>
    ⟨N, M2, m2, d, ds, P, R2, r1.extL x2, r2, h2, fun z f M3 H3 m3 x3 R3 r3 h3 => q z f M3 H3 m3 ((x1.trans x2).trans x3) R3 r3 h3⟩⟩⟩
def gApp : GM := fun d ds m P => match d, ds with
  | .mu j, [y] => y.und j = true ∧ (match m[j]? with | some (.lst xs) => xs.length < sizeLine ∧ P (.im .none) (m.set j (.lst (xs ++ [y]))) | _ => False)
  | _, _ => False
theorem ma_append : MA X "list.append" gApp := by
  rintro pins s σ H x vs v us Q I rx rs ⟨N, M, m, d, ds, P, R, r1, r2, hg, q⟩
  unfold gApp at hg
  split at hg
  · rename_i j y
    obtain ⟨hu, hg⟩ := hg
    split at hg
    · rename_i xs ex
      obtain ⟨_, a, ha, rfl⟩ := r1
      obtain ⟨w, rfl, rw'⟩ := val1 r2
      obtain ⟨us', h3, h4⟩ := R.cell j a _ ha ex
      have ma : a ∈ M := List.mem_of_getElem? ha
      obtain ⟨R', x'⟩ := R.put (c := .lst (xs ++ [y])) (o := .lst (us' ++ [w])) ha ⟨_, upd_same, pair_imp (fun _ _ r => r.put ma) (pair_app h4 (.cons (rw'.und2 hu) .nil))⟩
      exact mt_append pins s σ H _ _ v us Q I rx rs ⟨a, us', w, rfl, rfl, h3, by rw [pair_len h4]; exact hg.1, q _ (.im .none) M _ _ x' R' .non hg.2⟩
    · exact hg.elim
  · exact hg.elim
def gExt : GM := fun d ds m P => match d, ds with
  | .mu j, [e] => (match m[j]?, asL e m with | some (.lst xs), some ys => xs.length + ys.length ≤ sizeLine ∧ P (.im .none) (m.set j (.lst (xs ++ ys.map .im))) | _, _ => False)
  | _, _ => False
theorem ma_extend : MA X "list.extend" gExt := by
  rintro pins s σ H x vs v us Q I rx rs ⟨N, M, m, d, ds, P, R, r1, r2, hg, q⟩
  unfold gExt at hg
  split at hg
  · rename_i j e
    split at hg
    · rename_i xs ys ex ey
      obtain ⟨_, a, ha, rfl⟩ := r1
      obtain ⟨w, rfl, rw'⟩ := val1 r2
      obtain ⟨us', h3, h4⟩ := R.cell j a _ ha ex
      obtain ⟨b, ws, rfl, h5, h6⟩ := asL_of R rw' ey
      have ma : a ∈ M := List.mem_of_getElem? ha
      obtain ⟨R', x'⟩ := R.put (c := .lst (xs ++ ys.map .im)) (o := .lst (us' ++ ws)) ha ⟨_, upd_same, pair_imp (fun _ _ r => r.put ma) (pair_app h4 (to_ims h6))⟩
      exact mt_extend pins s σ H _ _ v us Q I rx rs ⟨a, b, us', ws, rfl, rfl, h3, h5, by rw [pair_len h4, h6.length]; exact hg.1, q _ (.im .none) M _ _ x' R' .non hg.2⟩
    · exact hg.elim
  · exact hg.elim
end
end Ab
end

section
set_option maxRecDepth 100000
set_option maxHeartbeats 4000000
/-! Readings over data: what a def promises. -/
namespace Ab
open PySem PySem.Spec PyProof.Rows L2 Gd
abbrev ASp := List AV → Store → (AV → Store → Prop) → (Er → Store → Prop) → Prop
def lift (sp : ASp) : Sp := fun vs H Q E => ∃ N M m ds P EA, Rel N M H m ∧ RVs M.length N M H vs ds ∧ sp ds m P EA ∧ EOk N M H E EA ∧ ∀ v d M' H' m', Ext M H M' H' → Rel N M' H' m' → RV M'.length N M' H' v d → P d m' → Q v H'
abbrev noE : Er → Store → Prop := fun _ _ => False
theorem EOk.no {N M : List Addr} {H : Hp} {E : XK} : EOk N M H E noE := fun _ _ _ _ _ _ _ _ _ _ _ _ z => z.elim
theorem Rel.sub {N N' M : List Addr} {H : Hp} {m : Store} (h : ∀ b ∈ N', b ∈ N) (R : Rel N M H m) : Rel N' M H m := ⟨R.nd, R.len, fun i a c h1 h2 => (R.cell i a c h1 h2).map (a' := a) (fun _ _ r => r.less h) (fun _ z => z), fun a ha => R.there a (h a ha)⟩
theorem EOk.at {B : Bk} (e : EOk B.N0 B.M0 B.H0 B.E B.EA) {N M : List Addr} {H : Hp} (x0 : B.Ok N M H) : EOk N M H B.E B.EA := fun M' H' m' C fs d us x R hd nd r z =>
  e M' H' m' C fs d us (x0.ext.trans x) (R.sub x0.sub) hd (fun q => nd ((List.mem_append.mp q).elim (List.mem_append_left _) fun q => List.mem_append_right _ (x0.sub _ q))) (pair_imp (fun _ _ r => ⟨r.1, r.2.less x0.sub⟩) r) z
/-! ### behind a return -/
def Cell.und (n : Nat) : Cell → Bool
  | .lst xs => xs.all (AV.und n)
  | .dk kvs => kvs.all fun kv => kv.2.und n
  | .dt kvs => kvs.all fun kv => kv.2.und n
  | .fz _ _ kvs => kvs.all fun kv => kv.2.und n
/-- what the def made that may change is forgotten, but for what it returns -/
def retA (n : Nat) (P : AV → Store → Prop) : AV → Store → Prop := fun d m => match d with
  | .mu i => if i < n then P (.mu i) (m.take n) else (match m[i]? with | some c => c.und n = true ∧ P (.mu n) (m.take n ++ [c]) | none => False)
  | d => d.und n = true ∧ P d (m.take n)
theorem RV.sub2 {N M M2 : List Addr} {H : Hp} {k n : Nat} (hn : n ≤ M.length) (hs : ∀ b ∈ M2, b ∈ M) (hp : ∀ i, i < n → M2[i]? = M[i]?) : ∀ {v : V} {d : AV}, d.und n = true → RV k N M H v d → RV n N M2 H v d
  | _, .im _, _, r => Gd.Rep.less (fun b z => (List.mem_append.mp z).elim (fun z => List.mem_append_left _ (hs b z)) (List.mem_append_right _)) r
  | _, .mu i, h, ⟨_, a, h1, h2⟩ => by
    have h : i < n := by simpa [AV.und] using h
    exact ⟨h, a, by rw [hp i h]; exact h1, h2⟩
  | _, .pr x y, h, ⟨a, u, w, h1, h2, h3, r1, r2⟩ => by
    have h : x.und n = true ∧ y.und n = true := by simpa [AV.und] using h
    exact ⟨a, u, w, h1, fun z => h2 ((List.mem_append.mp z).elim (fun z => List.mem_append_left _ (hs a z)) (List.mem_append_right _)), h3, r1.sub2 hn hs hp h.1, r2.sub2 hn hs hp h.2⟩
  | _, .wl _, _, ⟨a, us, h1, h2, h3, r⟩ => ⟨a, us, h1, fun z => h2 ((List.mem_append.mp z).elim (fun z => List.mem_append_left _ (hs a z)) (List.mem_append_right _)), h3, Gd.Reps.less (fun b z => (List.mem_append.mp z).elim (fun z => List.mem_append_left _ (hs b z)) (List.mem_append_right _)) r⟩
theorem pair_all {α β : Type} {F G : α → β → Prop} {p : β → Bool} (h : ∀ a b, p b = true → F a b → G a b) : ∀ {xs : List α} {ys : List β}, ys.all p = true → Paired F xs ys → Paired G xs ys
  | _, _, _, .nil => .nil
  | _, _, z, .cons r t => by
    rw [List.all_cons, Bool.and_eq_true] at z
    exact .cons (h _ _ z.1 r) (pair_all h z.2 t)
theorem RC.sub2 {N M M2 : List Addr} {H : Hp} {k n : Nat} {a : Addr} (hn : n ≤ M.length) (hs : ∀ b ∈ M2, b ∈ M) (hp : ∀ i, i < n → M2[i]? = M[i]?) : ∀ {c : Cell}, c.und n = true → RC k N M H a c → RC n N M2 H a c
  | .lst _, h, ⟨us, h1, h2⟩ => ⟨us, h1, pair_all (fun _ _ z r => r.sub2 hn hs hp z) h h2⟩
  | .dk _, h, ⟨us, h1, h2⟩ => ⟨us, h1, pair_all (fun _ _ z r => ⟨r.1, r.2.sub2 hn hs hp z⟩) h h2⟩
  | .dt _, h, ⟨us, h1, h2⟩ => ⟨us, h1, pair_all (fun _ _ z r => ⟨r.1, r.2.sub2 hn hs hp z⟩) h h2⟩
  | .fz _ _ _, h, ⟨h1, h2⟩ => ⟨h1, pair_all (fun _ _ z r => ⟨r.1, r.2.sub2 hn hs hp z⟩) h h2⟩
theorem ret_ok {N M : List Addr} {H : Hp} {m : Store} {P : AV → Store → Prop} {Q : VK} (R : Rel N M H m) (q : ∀ v d M' H' m', Ext M H M' H' → Rel N M' H' m' → RV M'.length N M' H' v d → P d m' → Q v H') {M' : List Addr} {H' : Hp} {v : V} {d : AV} {m' : Store}
    (x : Ext M H M' H') (R' : Rel N M' H' m') (r : RV M'.length N M' H' v d) (h : retA m.length P d m') : Q v H' := by
  have hle : m.length ≤ M'.length := by rw [← R.len]; exact x.len
  have xc := x.cut
  have Rc := R'.cut M.length
  rw [R.len] at xc Rc
  have lt : (M'.take m.length).length = m.length := by rw [List.length_take]; omega
  unfold retA at h
  split at h
  · rename_i i
    split at h
    · rename_i hi
      obtain ⟨_, a, ha, rfl⟩ := r
      exact q _ (.mu i) _ _ _ xc Rc ⟨by rw [lt]; exact hi, a, by rw [List.getElem?_take_of_lt hi]; exact ha, rfl⟩ h
    · rename_i hi
      split at h
      · rename_i c ec
        obtain ⟨hu, h⟩ := h
        obtain ⟨_, a, ha, rfl⟩ := r
        have rc := R'.cell i a c ha ec
        have am : a ∈ M' := List.mem_of_getElem? ha
        have na : a ∉ M'.take m.length := fun z => by
          obtain ⟨j, hj, e⟩ := List.mem_iff_getElem.mp z
          rw [lt] at hj
          rw [List.getElem_take] at e
          have h2 : M'[j]? = some a := by rw [← e]; exact List.getElem?_eq_getElem _
          have := (List.getElem?_inj (List.getElem?_eq_some_iff.mp h2).1 R'.nd).mp (h2.trans ha.symm)
          omega
        have sub : ∀ b ∈ M'.take m.length ++ [a], b ∈ M' := fun b hb => by
          rcases List.mem_append.mp hb with hb | hb
          · exact List.mem_of_mem_take hb
          · rw [List.mem_singleton.mp hb]; exact am
        have pre : ∀ j, j < m.length → (M'.take m.length ++ [a])[j]? = M'[j]? := fun j hj => by
          rw [List.getElem?_append_left (by rw [lt]; exact hj), List.getElem?_take_of_lt hj]
        have x2 : Ext M H (M'.take m.length ++ [a]) H' := by
          refine ⟨xc.pre.trans (List.prefix_append _ _), x.kp, fun b h1 h2 => x.new b (sub b h1) h2⟩
        refine q _ (.mu m.length) _ H' _ x2 ⟨nodup_snoc Rc.nd na, by rw [List.length_append, List.length_append, Rc.len]; rfl, fun j b c' h1 h2 => ?_, R'.there⟩ ⟨by rw [List.length_append, lt]; simp, a, by rw [List.getElem?_append_right (by rw [lt]; exact Nat.le_refl _), lt]; simp, rfl⟩ h
        rcases getD_snoc h1 with g1 | ⟨g1, g2⟩
        · rcases getD_snoc h2 with g3 | ⟨g3, g4⟩
          · have hj := (List.getElem?_eq_some_iff.mp g1).1
            rw [lt] at hj
            rw [List.getElem?_take_of_lt hj] at g1
            have hj2 := (List.getElem?_eq_some_iff.mp g3).1
            rw [List.length_take] at hj2
            rw [List.getElem?_take_of_lt (by omega)] at g3
            have rcj := R'.cell j b c' g1 g3
            refine rcj.map (a' := b) (fun v d r => ?_) (fun _ z => z)
            have mv : ∀ {v : V} {d : AV}, RV j N M' H' v d → RV j N (M'.take m.length ++ [a]) H' v d := fun {v d} r => by
              induction d generalizing v with
              | im d => exact Gd.Rep.less (fun b z => (List.mem_append.mp z).elim (fun z => List.mem_append_left _ (sub b z)) (List.mem_append_right _)) r
              | mu i => obtain ⟨h0, b2, h1, h2⟩ := r; exact ⟨h0, b2, by rw [pre i (by omega)]; exact h1, h2⟩
              | pr p q i1 i2 => obtain ⟨b2, s, t, h1, h2, h3, r1, r2⟩ := r; exact ⟨b2, s, t, h1, fun z => h2 ((List.mem_append.mp z).elim (fun z => List.mem_append_left _ (sub b2 z)) (List.mem_append_right _)), h3, i1 r1, i2 r2⟩
              | wl xs => obtain ⟨b2, us, h1, h2, h3, r⟩ := r; exact ⟨b2, us, h1, fun z => h2 ((List.mem_append.mp z).elim (fun z => List.mem_append_left _ (sub b2 z)) (List.mem_append_right _)), h3, Gd.Reps.less (fun b z => (List.mem_append.mp z).elim (fun z => List.mem_append_left _ (sub b z)) (List.mem_append_right _)) r⟩
            exact mv r
          · have hj := (List.getElem?_eq_some_iff.mp g1).1
            rw [Rc.len] at hj
            omega
        · rcases getD_snoc h2 with g3 | ⟨g3, g4⟩
          · have hj := (List.getElem?_eq_some_iff.mp g3).1
            rw [← Rc.len] at hj
            omega
          · subst g2 g4
            rw [g1, lt]
            exact rc.sub2 hle sub pre hu
      · exact h.elim
  · obtain ⟨hu, h⟩ := h
    exact q _ _ _ _ _ xc Rc (by rw [lt]; exact r.und hle hu) h
/-! ### a def by its body -/
def startA (N : List Str) (ds : List AV) : Slots := ds.map some ++ List.replicate (N.length - ds.length) none
theorem SR.start {N M : List Addr} {H : Hp} {Ns : List Str} {vs : List V} {ds : List AV} (r : RVs M.length N M H vs ds) : SR N M H (start Ns vs) (startA Ns ds) := by
  have l := pair_len r
  refine ⟨by simp [L2.start, startA, l], fun i d h => ?_⟩
  unfold startA at h
  unfold L2.start
  by_cases hi : i < ds.length
  · rw [List.getElem?_append_left (by simpa using hi), List.getElem?_map] at h
    obtain ⟨e, h1, h2⟩ := Option.map_eq_some_iff.mp h
    cases h2
    obtain ⟨v, h3, h4⟩ := pair_at r h1
    exact ⟨v, by rw [List.getElem?_append_left (by simp [l]; exact hi), List.getElem?_map, h3]; rfl, h4⟩
  · rw [List.getElem?_append_right (by simp; omega)] at h
    have := List.mem_of_getElem? h
    rw [List.mem_replicate] at this
    cases this.2
section
variable {P : Program} {w : World} {K : PySem.W.Frag} {mg : Str → Option Value} {base : Heap} {k : Nat} {x : Str} {N ps : List Str} {sp : ASp} {st : Stmt}
/-- a def that lets no exception out -/
theorem okA (D : Defd K mg x st) (S : FnScope N ps (defScope st)) (hb : ∀ (kV doc pm : Value) (an : Option Addr) (cdv ct : Value) (us : List Value), us.length = ps.length →
      bindArgs (PySem.W.fnOf x x (defArgs st) (defBody st) (defScope st) .none kV doc pm an cdv ct) ⟨us, []⟩ = pure (ps.zip us)) (len : ∀ ds m Q EA, sp ds m Q EA → ds.length = ps.length)
    (hbody : ∀ (f : Addr) (cdv : Value) (A : Around) (outer : List Env) (s : Shared) (H : Hp) (E : XK) (B : Bk), A.guards = some [] → Room k (A.deeper (envOfC x (defScope st) s.heap.objs.size f cdv)) →
      ∃ t wd, ASs (cxOf CX0 P w K mg base N x (defScope st) f cdv A outer s H E).nox B (defBody st) t wd ∧ ∀ ds m Q, sp ds m Q B.EA → wd { nx := fun _ m' => retA m.length Q (.im .none) m', rt := retA m.length Q } (startA N ds) m) :
    Callee P w K mg base CX0 (k + 1) x ps (lift sp) := by
  refine D.ok S hb (fun vs H Q E ⟨Nn, M, m, ds, Pd, EA, R, r, h, _⟩ => by rw [pair_len r]; exact len ds m Pd EA h) fun f cdv A outer s H vs Q E hgu hr h => ?_
  obtain ⟨Nn, M, m, ds, Pd, EA, R, r, h, eo, q⟩ := h
  obtain ⟨t, wd, as, hw⟩ := hbody f cdv A outer s H E ⟨Nn, M, H, E, EA⟩ hgu hr
  refine ⟨t, as.ps, as.ls Nn M H _ _ m _ _ ⟨.refl, fun _ z => z⟩ (SR.start r) R (hw ds m Pd h) ?_⟩
  exact ⟨fun M' H' σ ρ m' x R1 R2 h' => ret_ok R q x R2 .non h', fun M' H' v d m' x R2 rv h' => ret_ok R q x R2 rv h', fun _ _ _ _ _ _ _ _ z => z.elim, fun _ _ _ _ _ _ _ _ z => z.elim⟩
/-- a def that may raise -/
theorem okAX (D : Defd K mg x st) (S : FnScope N ps (defScope st)) (hb : ∀ (kV doc pm : Value) (an : Option Addr) (cdv ct : Value) (us : List Value), us.length = ps.length →
      bindArgs (PySem.W.fnOf x x (defArgs st) (defBody st) (defScope st) .none kV doc pm an cdv ct) ⟨us, []⟩ = pure (ps.zip us)) (len : ∀ ds m Q EA, sp ds m Q EA → ds.length = ps.length)
    (hbody : ∀ (f : Addr) (cdv : Value) (A : Around) (outer : List Env) (s : Shared) (H : Hp) (E : XK) (B : Bk), A.guards = some [] → Room k (A.deeper (envOfC x (defScope st) s.heap.objs.size f cdv)) → B.E = E → EOk B.N0 B.M0 B.H0 B.E B.EA →
      ∃ t wd, ASs (cxOf (L2.CX P w) P w K mg base N x (defScope st) f cdv A outer s H E) B (defBody st) t wd ∧ ∀ ds m Q, sp ds m Q B.EA → wd { nx := fun _ m' => retA m.length Q (.im .none) m', rt := retA m.length Q } (startA N ds) m) :
    Callee P w K mg base (L2.CX P w) (k + 1) x ps (lift sp) := by
  refine D.okX S hb (fun vs H Q E ⟨Nn, M, m, ds, Pd, EA, R, r, h, _⟩ => by rw [pair_len r]; exact len ds m Pd EA h) fun f cdv A outer s H vs Q E hgu hr h => ?_
  obtain ⟨Nn, M, m, ds, Pd, EA, R, r, h, eo, q⟩ := h
  obtain ⟨t, wd, as, hw⟩ := hbody f cdv A outer s H E ⟨Nn, M, H, E, EA⟩ hgu hr rfl eo
  refine ⟨t, as.ps, as.ls Nn M H _ _ m _ _ ⟨.refl, fun _ z => z⟩ (SR.start r) R (hw ds m Pd h) ?_⟩
  exact ⟨fun M' H' σ ρ m' x R1 R2 h' => ret_ok R q x R2 .non h', fun M' H' v d m' x R2 rv h' => ret_ok R q x R2 rv h', fun _ _ _ _ _ _ _ _ z => z.elim, fun _ _ _ _ _ _ _ _ z => z.elim⟩
end
/-! ### calls -/
section
variable {X : Cx} {B : Bk} {CX : CXT} {k : Nat} {ps : List Str} {sp : ASp} {x : Str} {p pos : Pos} {e : Expr} {es : List Expr} {tl : TA} {wl : WL}
def wCall (sp : ASp) (EA : Er → Store → Prop) (wl : WL) : WE := fun ρ m P => wl ρ m fun ds m1 => sp ds m1 P EA
theorem le_call {E : XK} {EA : Er → Store → Prop} (h : LA B tl wl) (hE : ∀ N M H, B.Ok N M H → EOk N M H E EA) : LE B (tCall (lift sp) [] E tl) (wCall sp EA wl) := fun N M H σ ρ m P Q x0 S R hw q => h N M H σ ρ m _ _ x0 S R hw fun vs ds M1 H1 m1 x1 R1 r1 h1 =>
  ⟨N, M1, m1, ds, P, EA, R1, by rw [List.append_nil]; exact r1, h1, hE N M1 H1 (x0.trans x1), fun z f M3 H3 m3 x3 R3 r3 h3 => q z f M3 H3 m3 (x1.trans x3) R3 r3 h3⟩
/-- f(e, ..), f raises nothing -/
theorem ae_call (C : Callee X.prog X.w X.K X.mg X.base CX k x ps (lift sp)) (hgu : X.A.guards = some []) (hr : Room k X.A) (hg : Gl X x) (hx : Passes CX X E0) (ha : AL X B (e :: es) tl wl) (hdb : (x == ("__debug__" : Str)) = false := by decide)
    (he : starEach (e :: es) X.env = (false, eval e X.env) :: starEach es X.env := by rfl) (hpl : (backTo pos (starEach es X.env)).any (·.1) = false := by rfl) : AE X B (.Call (.Name x p) (e :: es) [] pos) (tCall (lift sp) [] E0 tl) (wCall sp noE wl) :=
  ⟨pown C hgu hr hg hx ha.pa hdb he hpl, le_call ha.la fun _ _ _ _ => .no⟩
/-- .. what it raises leaves this def -/
theorem ae_callX (C : Callee X.prog X.w X.K X.mg X.base CX k x ps (lift sp)) (hgu : X.A.guards = some []) (hr : Room k X.A) (hg : Gl X x) (hx : Passes CX X B.E) (hE : EOk B.N0 B.M0 B.H0 B.E B.EA) (ha : AL X B (e :: es) tl wl) (hdb : (x == ("__debug__" : Str)) = false := by decide)
    (he : starEach (e :: es) X.env = (false, eval e X.env) :: starEach es X.env := by rfl) (hpl : (backTo pos (starEach es X.env)).any (·.1) = false := by rfl) : AE X B (.Call (.Name x p) (e :: es) [] pos) (tCall (lift sp) [] B.E tl) (wCall sp B.EA wl) :=
  ⟨pown C hgu hr hg hx ha.pa hdb he hpl, le_call ha.la fun _ _ _ x0 => hE.at x0⟩
end
end Ab
end

section
set_option maxRecDepth 100000
set_option maxHeartbeats 4000000
/-! Readings over data: anything that is walked; two and three names at once; two-clause and dict comprehensions. -/
namespace Ab
open PySem PySem.Spec PyProof.Rows L2 Gd
def iAny (K : PySem.W.Frag) (te : TE) : TI := fun σ H R => te σ H fun x H1 => (∃ a xs, x = .ref a ∧ SqT K H1 a xs ∧ R (Itt K a) H1) ∨ (∃ a xs, x = .ref a ∧ SqL K H1 a xs ∧ R (Itl K a) H1) ∨ ∃ z, x = .str z ∧ R (Its z) H1
theorem pi_any {X : Cx} {tg e : Expr} {te : TE} (he : PE X e te) : PI X tg e (iAny X.K te) := by
  refine ⟨fun pins s σ H R I h => thn (he.run pins s σ H _ I h) fun v s1 ⟨x, H1, I1, r1, q⟩ => ?_⟩
  rcases q with ⟨a, xs, rfl, hq, q⟩ | ⟨a, xs, rfl, hq, q⟩ | ⟨z, rfl, q⟩
  · cases r1
    obtain ⟨its, _, p, _⟩ := I1.tuple hq
    exact wpAny_pyIter_tuple p (pi_one (tk := s1.toks) I1 _ (turn_tuple a _) ⟨_, Heap.get?_push_size _ rfl, rfl, rfl⟩ q)
  · cases r1
    obtain ⟨its, _, p, _⟩ := I1.list hq
    exact wpAny_pyIter_list p.isList (pi_one (tk := s1.toks) I1 _ (turn_list a _) ⟨_, Heap.get?_push_size _ rfl, rfl, rfl⟩ q)
  · obtain ⟨t, rfl⟩ := r1
    by_cases c : z.cps.all (· < 128) = true
    · exact wpAny_pyIter_ascii c (pi_one (tk := s1.toks) I1 _ (turn_str _ z t "str_ascii_iterator" (.inl rfl)) ⟨_, Heap.get?_push_size _ rfl, rfl, rfl⟩ q)
    · exact wpAny_pyIter_wide (by simpa using c) (pi_one (tk := s1.toks) I1 _ (turn_str _ z t "str_iterator" (.inr rfl)) ⟨_, Heap.get?_push_size _ rfl, rfl, rfl⟩ q)
def wiAny (w : WE) : WI := fun ρ m P => w ρ m fun d m1 => match d with
  | .im (.tuple xs) => P (xs.map .im) yes m1
  | .im (.list xs) => P (xs.map .im) yes m1
  | .im (.str z) => P (z.cps.toList.map fun c => .im (.str ⟨#[c]⟩)) yes m1
  | .wl xs => P (xs.map .im) yes m1
  | .pr x y => P [x, y] yes m1
  | .mu i => (match m1[i]? with | some (.lst xs) => P xs (fun m => m[i]? = some (.lst xs)) m1 | _ => False)
  | _ => False
section
variable {X : Cx} {B : Bk} {e tg : Expr} {t : TE} {w : WE} {K : PySem.W.Frag}
theorem ai_any (hK : X.K = K) (h : AE X B e t w) : AI X B tg e (iAny K t) (wiAny w) := ⟨hK ▸ pi_any h.pe, fun N M H σ ρ m P R x0 S Rl hw q => h.le N M H σ ρ m _ _ x0 S Rl hw fun v d M1 H1 m1 x1 R1 r1 h1 => by
  split at h1
  · cases r1 with
    | tup n e z => exact .inl ⟨_, _, rfl, .inl (.inl e), q _ _ yes M1 H1 m1 x1 R1 (wk_tup n e z) h1⟩
  · cases r1 with
    | lst n ne e z => exact .inr (.inl ⟨_, _, rfl, .inl (.inl e), q _ _ yes M1 H1 m1 x1 R1 (wk_list n e z) h1⟩)
  · cases r1
    exact .inr (.inr ⟨_, rfl, q _ _ yes M1 H1 m1 x1 R1 wk_str h1⟩)
  · obtain ⟨a, us, rfl, n, e, z⟩ := r1
    exact .inr (.inl ⟨_, _, rfl, .inl (.inl e), q _ _ yes M1 H1 m1 x1 R1 (wk_list n e z) h1⟩)
  · obtain ⟨a, u, w', rfl, n, e, s1, s2⟩ := r1
    exact .inl ⟨_, _, rfl, .inl (.inl e), q _ _ yes M1 H1 m1 x1 R1 (wk_pr n e s1 s2) h1⟩
  · rename_i i
    obtain ⟨hi, a, ha, rfl⟩ := r1
    split at h1
    · rename_i xs ex
      obtain ⟨us, h3, h4⟩ := R1.cell i a _ ha ex
      exact .inr (.inl ⟨a, _, rfl, .inl (.inl h3), q _ _ _ M1 H1 m1 x1 R1 (wk_mu ha) h1⟩)
    · exact h1.elim
  · exact h1.elim⟩
end
section
variable {X : Cx} {B : Bk} {pos : Pos}
theorem s_par2 {i j : Nat} {st : Stmt} {es : List Expr} {ta : TA} {wl : WL} (ps : PA X es ta → PS X st (tPar i j ta)) (ha : AL X B es ta wl) : AS X B st (tPar i j ta) (wPar [i, j] wl) := ⟨ps ha.pa, ls_par2 ha.la⟩
theorem s_par3 {i j l : Nat} {st : Stmt} {es : List Expr} {ta : TA} {wl : WL} (ps : PA X es ta → PS X st (tPar3 i j l ta)) (ha : AL X B es ta wl) : AS X B st (tPar3 i j l ta) (wPar [i, j, l] wl) := ⟨ps ha.pa, fun N M H σ ρ m F D x0 S R hw f => ha.la N M H σ ρ m _ _ x0 S R hw fun vs ds M1 H1 m1 x1 R1 r1 h1 => by
  obtain ⟨hl, h1⟩ := h1
  cases r1 with
  | nil => cases hl
  | cons r1 rr =>
    cases rr with
    | nil => cases hl
    | cons r2 rr =>
      cases rr with
      | nil => cases hl
      | cons r3 rr =>
        cases rr with
        | nil => exact ⟨_, _, _, rfl, f.nx M1 H1 _ _ m1 x1 ((((S.ext x1).set i r1).set j r2).set l r3) R1 h1⟩
        | cons _ _ => simp at hl⟩
end
end Ab
end

section
set_option maxRecDepth 100000
set_option maxHeartbeats 4000000
/-! Readings over data: comprehensions of two clauses, dict comprehensions. -/
namespace Ab
open PySem PySem.Spec PyProof.Rows L2 Gd
theorem ExtN.trans {N M M1 M2 : List Addr} {H H1 H2 : Hp} (e : ExtN N M H M1 H1) (f : Ext M1 H1 M2 H2) : ExtN N M H M2 H2 := by
  refine ⟨e.pre.trans f.pre, fun b o nb hb => ?_, fun a h1 h2 h3 => ?_⟩
  · refine f.kp b o (fun z => ?_) (e.kp b o nb hb)
    have := e.new b z (fun q => nb (List.mem_append_left _ q)) fun q => nb (List.mem_append_right _ q)
    rw [this] at hb; cases hb
  · by_cases c : a ∈ M1
    · exact e.new a c h2 h3
    · have := f.new a h1 c
      cases q : H a with
      | none => rfl
      | some o =>
        have := e.kp a o (fun y => (List.mem_append.mp y).elim h2 h3) q
        rw [f.new a h1 c] at this; cases this
theorem ExtN.hid {N M M1 : List Addr} {H H1 : Hp} {D : Addr} {o : HO} (hD : D ∈ N) (e : ExtN N M H M1 H1) : ExtN N M H M1 (upd H1 D o) :=
  ⟨e.pre, fun b x nb hb => by rw [upd_ne (fun z : b = D => nb (List.mem_append_right _ (by rw [z]; exact hD)))]; exact e.kp b x nb hb, e.new⟩
theorem ExtN.refl {N M : List Addr} {H : Hp} : ExtN N M H M H := Ext.refl.toN
/-- items added one after another -/
def accI (G : Store → Prop) (f : AV → List AV → Store → (List AV → Store → Prop) → Prop) : List AV → List AV → Store → (List AV → Store → Prop) → Prop
  | [], acc, m, P => G m ∧ P acc m
  | x :: r, acc, m, P => G m ∧ f x acc m fun acc' m' => accI G f r acc' m' P
def accL (n : Nat) (G : Store → Prop) (f : AV → List AV → Store → (List AV → Store → Prop) → Prop) : List AV → List AV → Store → (List AV → Store → Prop) → Prop
  | [], acc, m, P => G m ∧ P acc m
  | x :: r, acc, m, P => G m ∧ f x acc m fun acc' m' => accL n G f r acc' (m'.take n) P
def turnI (n : Nat) (vs1 : List Nat) (wg1 : WG) (wt1 : WT) (we : WE) (ρ2 : Slots) : AV → List AV → Store → (List AV → Store → Prop) → Prop := fun y acc m K => wg1 y (wipeS ρ2 vs1) m fun ρ3 m5 => wt1 ρ3 m5 fun b m6 =>
  if b = true then we ρ3 m6 fun z m7 => z.und n = true ∧ acc.length < sizeLine ∧ K (acc ++ [z]) m7 else K acc m6
def turnO (n : Nat) (vs vs1 : List Nat) (wg : WG) (wt : WT) (wi1 : WI) (wg1 : WG) (wt1 : WT) (we : WE) (ρ : Slots) : AV → List AV → Store → (List AV → Store → Prop) → Prop := fun x acc m K => wg x (wipeS ρ vs) m fun ρ2 m2 => wt ρ2 m2 fun b m3 =>
  if b = true then wi1 ρ2 m3 fun ys G1 m4 => accI G1 (turnI n vs1 wg1 wt1 we ρ2) ys acc m4 K else K acc m3
def wLc2s (vs vs1 : List Nat) (wi : WI) (wg : WG) (wt : WT) (wi1 : WI) (wg1 : WG) (wt1 : WT) (we : WE) (ρ : Slots) (m : Store) (P : List AV → Store → Prop) : Prop := wi ρ m fun xs G m1 => accL m1.length G (turnO m1.length vs vs1 wg wt wi1 wg1 wt1 we ρ) xs [] m1 P
/-- what holds amid such a comprehension: D the list, acc its items -/
structure Mid (N M1 : List Addr) (H1 : Hp) (D : Addr) (σ : L2.St) (ρ : Slots) (M : List Addr) (H : Hp) (m : Store) (acc : List AV) : Prop where
  x : Ext M1 H1 M H
  nD : D ∉ M
  us : ∃ us, H D = some (.lst us) ∧ RVs M1.length (D :: N) M H us acc
  sr : SR (D :: N) M H σ ρ
  rel : Rel (D :: N) M H m
theorem Mid.later {N M1 : List Addr} {H1 : Hp} {D : Addr} {σ σ' : L2.St} {ρ ρ' : Slots} {M M' : List Addr} {H H' : Hp} {m m' : Store} {acc : List AV} (q : Mid N M1 H1 D σ ρ M H m acc) (e : Ext M H M' H') (S : SR (D :: N) M' H' σ' ρ') (R : Rel (D :: N) M' H' m') : Mid N M1 H1 D σ' ρ' M' H' m' acc := by
  obtain ⟨us, h1, h2⟩ := q.us
  have nn : D ∉ M' := fun z => by have := e.new D z q.nD; rw [h1] at this; cases this
  exact ⟨q.x.trans e, nn, ⟨us, e.kp D _ q.nD h1, RVs.ext e h2⟩, S, R⟩
/-- an item more -/
theorem Mid.push {N M1 : List Addr} {H1 : Hp} {D : Addr} {σ : L2.St} {ρ : Slots} {M : List Addr} {H : Hp} {m : Store} {acc : List AV} (q : Mid N M1 H1 D σ ρ M H m acc) (hD : H1 D = none) {v : V} {d : AV} {k : Nat} (r : RV k (D :: N) M H v d) (hu : d.und M1.length = true) {us : List V} (hd : H D = some (.lst us)) :
    Mid N M1 H1 D σ ρ M (upd H D (.lst (us ++ [v]))) m (acc ++ [d]) := by
  obtain ⟨us', h1, h2⟩ := q.us
  rw [hd] at h1
  cases h1
  have hin : D ∈ D :: N := List.mem_cons_self
  refine ⟨⟨q.x.pre, fun b o nb hb => ?_, q.x.new⟩, q.nD, ⟨_, upd_same, pair_app (pair_imp (fun _ _ r => r.hid hin) h2) (.cons ((r.und2 hu).hid hin) .nil)⟩, q.sr.hid hin, q.rel.hid hin q.nD⟩
  rw [upd_ne (fun z : b = D => by rw [z, hD] at hb; cases hb)]
  exact q.x.kp b o nb hb
theorem SR.back {N M1 M : List Addr} {H1 H : Hp} {D : Addr} {σ : L2.St} {ρ : Slots} (S : SR N M1 H1 σ ρ) (e : Ext M1 H1 M1 H) (hD : H1 D = none) : SR (D :: N) M1 H σ ρ :=
  ⟨S.1, fun j d hj => let ⟨v, a1, a2⟩ := S.2 j d hj; ⟨v, a1, RV.seen e.toN (fun b z => List.mem_cons_of_mem _ z) (fun b hb => (List.mem_cons.mp hb).elim (fun z => .inr (by rw [z]; exact hD)) .inl) a2⟩⟩
theorem Mid.cut {N M1 : List Addr} {H1 : Hp} {D : Addr} {σ σ' : L2.St} {ρ ρ' : Slots} {M : List Addr} {H : Hp} {m : Store} {acc : List AV} (q : Mid N M1 H1 D σ' ρ' M H m acc) (hD : H1 D = none) (S : SR N M1 H1 σ ρ) : Mid N M1 H1 D σ ρ M1 H (m.take M1.length) acc := by
  have c := q.x.cut
  have ct := q.x.take
  rw [ct] at c
  obtain ⟨us, h1, h2⟩ := q.us
  refine ⟨c, fun z => q.nD (q.x.sub D z), ⟨us, h1, ?_⟩, S.back (M := M) c hD, ?_⟩
  · have := pair_imp (fun _ _ r => RV.cut (k := M1.length) (Nat.le_refl _) r) h2
    rwa [ct] at this
  · have := q.rel.cut M1.length
    rwa [ct] at this
theorem le_lc2s {B : Bk} {wi wi1 : TI} {g g1 : TG} {tt tt1 : TT} {te : TE} {vs vs1 : List Nat} {w w1 : WI} {wg wg1 : WG} {wt wt1 : WT} {we : WE} (hi : LI B wi w) (hg : LG B g wg) (ho : Own g vs) (hgm : GMono g) (ht : LT B tt wt)
    (hi1 : LI B wi1 w1) (hg1 : LG B g1 wg1) (ho1 : Own g1 vs1) (hgm1 : GMono g1) (ht1 : LT B tt1 wt1) (he : LE B te we)
    {N M : List Addr} {H : Hp} {σ : L2.St} {ρ : Slots} {m : Store} {P : List AV → Store → Prop} {Q : VK} (x0 : B.Ok N M H) (S : SR N M H σ ρ) (R : Rel N M H m) (h : wLc2s vs vs1 w wg wt w1 wg1 wt1 we ρ m P)
    (q : ∀ D us ys M' H' m', Ext M H M' H' → H D = none → D ∉ M' → D ∉ N → H' D = some (.lst us) → Rel (D :: N) M' H' m' → RVs M'.length (D :: N) M' H' us ys → P ys m' → Q (.ref D) H') : tLc2 wi g tt wi1 g1 tt1 te vs vs1 σ H Q := by
  refine hi N M H σ ρ m _ _ x0 S R h fun J xs G M1 H1 m1 x1 R1 wk h1 => fun D hD => ?_
  have S1 := S.ext x1
  have nDN : D ∉ N := fun z => by obtain ⟨o, e⟩ := R1.there D z; rw [hD] at e; cases e
  have old : ∀ b ∈ D :: N, b ∈ N ∨ H1 b = none := fun b hb => (List.mem_cons.mp hb).elim (fun z => .inr (by rw [z]; exact hD)) .inl
  refine ⟨fun i k H' => k = xs.length - i ∧ i ≤ xs.length ∧ ∃ m' acc, Mid N M1 H1 D σ ρ M1 H' m' acc ∧ accL m1.length G (turnO m1.length vs vs1 wg wt w1 wg1 wt1 we ρ) (xs.drop i) acc m' P,
    ⟨_, rfl, Nat.zero_le _, m1, [], ⟨.alloc hD, R1.liveM.fresh hD, ⟨[], upd_same, .nil⟩, S1.hide hD, R1.hide hD⟩, by simpa using h1⟩, ?_⟩
  rintro i k H' ⟨rfl, hi', m', acc, mid, h2⟩
  by_cases hlt : i < xs.length
  · rw [List.drop_eq_getElem_cons hlt] at h2
    obtain ⟨g0, h2⟩ := h2
    refine .inr ⟨wk.goes i (D :: N) M1 H' m' hlt mid.x.toN mid.rel g0, fun H3 => ∃ σ3 ρ3 M3 m3 acc3, Mid N M1 H1 D σ3 ρ3 M3 H3 m3 acc3 ∧ accL m1.length G (turnO m1.length vs vs1 wg wt w1 wg1 wt1 we ρ) (xs.drop (i + 1)) acc3 (m3.take m1.length) P, ?_, ?_⟩
    · rintro H3 ⟨σ3, ρ3, M3, m3, acc3, mid3, h3⟩
      refine ⟨xs.length - (i + 1), by omega, rfl, hlt, _, acc3, mid3.cut hD S1, ?_⟩
      rw [R1.len]; exact h3
    · intro x H3 y
      obtain ⟨k3, rx⟩ := wk.yields i x xs[i] (D :: N) M1 H' H3 m' (List.getElem?_eq_getElem hlt) (fun _ z => List.mem_cons_of_mem _ z) mid.x.toN old mid.rel g0 y
      obtain ⟨R3, x3⟩ := mid.rel.kept k3
      have b0 : B.Ok (D :: N) M1 H3 := (((x0.trans x1).trans mid.x).trans x3).hide D
      refine hgm _ _ _ _ _ (ho _ _ _ _ (hg (D :: N) M1 H3 (wipe σ vs) (wipeS ρ vs) m' x _ _ (fun σ2 H2 => ∃ ρ2 M2 m2, Ext M1 H3 M2 H2 ∧ SR (D :: N) M2 H2 σ2 ρ2 ∧ Rel (D :: N) M2 H2 m2 ∧ wt ρ2 m2 fun b m3 =>
        if b = true then w1 ρ2 m3 fun ys G1 m4 => accI G1 (turnI m1.length vs1 wg1 wt1 we ρ2) ys acc m4 fun acc' m' => accL m1.length G (turnO m1.length vs vs1 wg wt w1 wg1 wt1 we ρ) (xs.drop (i + 1)) acc' (m'.take m1.length) P else accL m1.length G (turnO m1.length vs vs1 wg wt w1 wg1 wt1 we ρ) (xs.drop (i + 1)) acc (m3.take m1.length) P)
          b0 ((mid.sr.ext x3).wipe vs) R3 rx h2 fun M2 H2 σ2 ρ2 m2 x2 S2 R2 h => ⟨ρ2, M2, m2, x2, S2, R2, h⟩)) fun σ2 H2 ⟨e2, ρ2, M2, m2, x2, S2, R2, h4⟩ => ⟨e2.trans (wipe_wipe σ vs), ?_⟩
      have mid2 : Mid N M1 H1 D σ2 ρ2 M2 H2 m2 acc := mid.later (x3.trans x2) S2 R2
      refine ht (D :: N) M2 H2 σ2 ρ2 m2 _ _ (b0.trans x2) S2 R2 h4 fun b M5 H5 m5 x5 R5 h5 => ?_
      have mid5 := mid2.later x5 (S2.ext x5) R5
      have b5 := (b0.trans x2).trans x5
      cases b with
      | false => exact ⟨σ2, ρ2, M5, m5, acc, mid5, h5⟩
      | true =>
        simp only [if_true] at h5 ⊢
        refine hi1 (D :: N) M5 H5 σ2 ρ2 m5 _ _ b5 (S2.ext x5) R5 h5 fun J1 ys G1 M6 H6 m6 x6 R6 wk1 h6 => ?_
        have mid6 := mid5.later x6 ((S2.ext x5).ext x6) R6
        have b6 := b5.trans x6
        refine ⟨fun j k H' => k = ys.length - j ∧ j ≤ ys.length ∧ ∃ M' m' acc', Mid N M1 H1 D σ2 ρ2 M' H' m' acc' ∧ ExtN (D :: N) M6 H6 M' H' ∧ accI G1 (turnI m1.length vs1 wg1 wt1 we ρ2) (ys.drop j) acc' m' fun acc' m' => accL m1.length G (turnO m1.length vs vs1 wg wt w1 wg1 wt1 we ρ) (xs.drop (i + 1)) acc' (m'.take m1.length) P,
          ⟨_, rfl, Nat.zero_le _, M6, m6, acc, mid6, .refl, by simpa using h6⟩, ?_⟩
        rintro j k H7 ⟨rfl, hj, M7, m7, acc7, mid7, x7, h7⟩
        by_cases hlt1 : j < ys.length
        · rw [List.drop_eq_getElem_cons hlt1] at h7
          obtain ⟨g7, h7⟩ := h7
          refine .inr ⟨wk1.goes j (D :: N) M7 H7 m7 hlt1 x7 mid7.rel g7, fun H8 => ∃ M8 m8 acc8, Mid N M1 H1 D σ2 ρ2 M8 H8 m8 acc8 ∧ ExtN (D :: N) M6 H6 M8 H8 ∧ accI G1 (turnI m1.length vs1 wg1 wt1 we ρ2) (ys.drop (j + 1)) acc8 m8 fun acc' m' => accL m1.length G (turnO m1.length vs vs1 wg wt w1 wg1 wt1 we ρ) (xs.drop (i + 1)) acc' (m'.take m1.length) P, ?_, ?_⟩
          · rintro H8 ⟨M8, m8, acc8, mid8, x8, h8⟩
            exact ⟨ys.length - (j + 1), by omega, rfl, hlt1, M8, m8, acc8, mid8, x8, h8⟩
          · intro z H8 yz
            obtain ⟨k8, rz⟩ := wk1.yields j z ys[j] (D :: N) M7 H7 H8 m7 (List.getElem?_eq_getElem hlt1) (fun _ z => z) x7 (fun b z => .inl z) mid7.rel g7 yz
            obtain ⟨R8, x8⟩ := mid7.rel.kept k8
            have mid8 := mid7.later x8 (mid7.sr.ext x8) R8
            have b8 : B.Ok (D :: N) M7 H8 := ((x0.trans x1).trans mid8.x).hide D
            refine hgm1 _ _ _ _ _ (ho1 _ _ _ _ (hg1 (D :: N) M7 H8 (wipe σ2 vs1) (wipeS ρ2 vs1) m7 z _ _ (fun σ9 H9 => ∃ ρ9 M9 m9, Ext M7 H8 M9 H9 ∧ SR (D :: N) M9 H9 σ9 ρ9 ∧ Rel (D :: N) M9 H9 m9 ∧ wt1 ρ9 m9 fun b m10 =>
                if b = true then we ρ9 m10 fun z m11 => z.und m1.length = true ∧ acc7.length < sizeLine ∧ accI G1 (turnI m1.length vs1 wg1 wt1 we ρ2) (ys.drop (j + 1)) (acc7 ++ [z]) m11 fun acc' m' => accL m1.length G (turnO m1.length vs vs1 wg wt w1 wg1 wt1 we ρ) (xs.drop (i + 1)) acc' (m'.take m1.length) P
                else accI G1 (turnI m1.length vs1 wg1 wt1 we ρ2) (ys.drop (j + 1)) acc7 m10 fun acc' m' => accL m1.length G (turnO m1.length vs vs1 wg wt w1 wg1 wt1 we ρ) (xs.drop (i + 1)) acc' (m'.take m1.length) P)
              b8 ((mid8.sr).wipe vs1) R8 rz h7 fun M9 H9 σ9 ρ9 m9 x9 S9 R9 h => ⟨ρ9, M9, m9, x9, S9, R9, h⟩)) fun σ9 H9 ⟨e9, ρ9, M9, m9, x9, S9, R9, h9⟩ => ⟨e9.trans (wipe_wipe σ2 vs1), ?_⟩
            refine ht1 (D :: N) M9 H9 σ9 ρ9 m9 _ _ (b8.trans x9) S9 R9 h9 fun b MA HA mA xA RA hA => ?_
            have xn : ExtN (D :: N) M6 H6 MA HA := ((x7.trans x8).trans x9).trans xA
            have midA := mid8.later (x9.trans xA) ((mid8.sr.ext x9).ext xA) RA
            cases b with
            | false => exact ⟨MA, mA, acc7, midA, xn, hA⟩
            | true =>
              simp only [if_true] at hA ⊢
              refine he (D :: N) MA HA σ9 ρ9 mA _ _ ((b8.trans x9).trans xA) (S9.ext xA) RA hA fun v d MB HB mB xB RB rB hB => ?_
              obtain ⟨hu, hl, hB⟩ := hB
              have midB := midA.later xB (midA.sr.ext xB) RB
              obtain ⟨us, e1, e2⟩ := midB.us
              rw [← R1.len] at hu
              exact ⟨us, e1, by rw [pair_len e2]; exact hl, MB, mB, acc7 ++ [d], midB.push hD rB hu e1, (xn.trans xB).hid List.mem_cons_self, hB⟩
        · have e : j = ys.length := by omega
          subst e
          rw [List.drop_length] at h7
          exact .inl ⟨wk1.stops (D :: N) M7 H7 m7 x7 mid7.rel h7.1, σ2, ρ2, M7, m7, acc7, mid7, h7.2⟩
  · have e : i = xs.length := by omega
    subst e
    rw [List.drop_length] at h2
    obtain ⟨us, e1, e2⟩ := mid.us
    exact .inl ⟨wk.stops (D :: N) M1 H' m' mid.x.toN mid.rel h2.1, q D us acc M1 H' m' (x1.trans mid.x) (x1.none (fun z => R1.liveM.fresh hD (x1.sub D z)) hD) mid.nD nDN e1 mid.rel e2 h2.2⟩
def wLc2 (vs vs1 : List Nat) (wi : WI) (wg : WG) (wt : WT) (wi1 : WI) (wg1 : WG) (wt1 : WT) (we : WE) : WE := fun ρ m P => wLc2s vs vs1 wi wg wt wi1 wg1 wt1 we ρ m fun ys m1 => match ims ys with | some xs => P (.wl xs) m1 | none => False
section
variable {X : Cx} {B : Bk} {elt tg iter tg1 iter1 : Expr} {ifs ifs1 : List Expr} {scope : Scope} {own : List (Str × Nat)} {vs1 : List Nat} {pos spos : Pos} {wi wi1 : TI} {g g1 : TG} {tt tt1 : TT} {te : TE} {w w1 : WI} {wg wg1 : WG} {wt wt1 : WT} {we : WE}
theorem ae_lc2 (hc : X.calm = true) (hN : X.N.Nodup) (hi : AI X B tg iter wi w) (ok : BlkOk X.N X.env.scope scope own) (hv : ∀ i ∈ vs1, i ∈ own.map (·.2))
    (hg : ∀ (s : Shared) (H : Hp) (C : Addr) (cl : List (Str × Addr)) (fp : List Addr), AG (X.blk s H scope (compEnvC scope cl C X.env) fp) B tg g wg) (ho : Own g (own.map (·.2))) (hgm : GMono g)
    (ht : ∀ (s : Shared) (H : Hp) (C : Addr) (cl : List (Str × Addr)) (fp : List Addr), ATs (X.blk s H scope (compEnvC scope cl C X.env) fp) B ifs tt wt)
    (hi1 : ∀ (s : Shared) (H : Hp) (C : Addr) (cl : List (Str × Addr)) (fp : List Addr), AI (X.blk s H scope (compEnvC scope cl C X.env) fp) B tg1 iter1 wi1 w1)
    (hg1 : ∀ (s : Shared) (H : Hp) (C : Addr) (cl : List (Str × Addr)) (fp : List Addr), AG (X.blk s H scope (compEnvC scope cl C X.env) fp) B tg1 g1 wg1) (ho1 : Own g1 vs1) (hgm1 : GMono g1)
    (ht1 : ∀ (s : Shared) (H : Hp) (C : Addr) (cl : List (Str × Addr)) (fp : List Addr), ATs (X.blk s H scope (compEnvC scope cl C X.env) fp) B ifs1 tt1 wt1)
    (he : ∀ (s : Shared) (H : Hp) (C : Addr) (cl : List (Str × Addr)) (fp : List Addr), AE (X.blk s H scope (compEnvC scope cl C X.env) fp) B elt te we) (hs : ∀ x, foldedSetIterable iter X.env x = pure x := by intro _; rfl) (hs1 : ∀ env x, foldedSetIterable iter1 env x = pure x := by intro _ _; rfl) :
    AE X B (.ListComp elt [⟨tg, iter, ifs, 0⟩, ⟨tg1, iter1, ifs1, 0⟩] scope pos) (tLc2 wi g tt wi1 g1 tt1 te (own.map (·.2)) vs1) (wLc2 (own.map (·.2)) vs1 w wg wt w1 wg1 wt1 we) :=
  ⟨pe_lc2 hc hN hi.pi ok hv (fun s H C cl fp => (hg s H C cl fp).pg) (fun s H C cl fp => (ht s H C cl fp).pt) (fun s H C cl fp => (hi1 s H C cl fp).pi) (fun s H C cl fp => (hg1 s H C cl fp).pg) (fun s H C cl fp => (ht1 s H C cl fp).pt) (fun s H C cl fp => (he s H C cl fp).pe) hs hs1,
    fun N M H σ ρ m P Q x0 S R h q => le_lc2s hi.li (hg X.s_0 X.H_0 X.env.locals [] []).lg ho hgm (ht X.s_0 X.H_0 X.env.locals [] []).lt (hi1 X.s_0 X.H_0 X.env.locals [] []).li (hg1 X.s_0 X.H_0 X.env.locals [] []).lg ho1 hgm1 (ht1 X.s_0 X.H_0 X.env.locals [] []).lt (he X.s_0 X.H_0 X.env.locals [] []).le x0 S R h fun D us ys M' H' m' x nD nM nN eD R' r p => by
      split at p
      · rename_i xs e
        have rr := ims_of r e
        exact q _ (.wl xs) M' H' m' x R'.less ⟨D, us, rfl, fun z => (List.mem_append.mp z).elim nM nN, eD, rr.less fun b z => (List.mem_append.mp z).elim (List.mem_append_left _) fun z => List.mem_append_right _ (List.mem_cons_of_mem _ z)⟩ p
      · exact p.elim⟩
end
end Ab
end

section
set_option maxRecDepth 100000
set_option maxHeartbeats 4000000
/-! Readings over data: dict comprehensions. -/
namespace Ab
open PySem PySem.Spec PyProof.Rows L2 Gd
/-- what was hidden becomes the newest that may change -/
theorem unhide {N M M' : List Addr} {H H' : Hp} {m' : Store} {D : Addr} {c : Cell} (R' : Rel (D :: N) M' H' m') (nM : D ∉ M') (x : Ext M H M' H') (nD : H D = none) (rc : RC M'.length (D :: N) M' H' D c) :
    Ext M H (M' ++ [D]) H' ∧ Rel N (M' ++ [D]) H' (m' ++ [c]) ∧ RV (M' ++ [D]).length N (M' ++ [D]) H' (.ref D) (.mu m'.length) := by
  have x2 : Ext M H (M' ++ [D]) H' := by
    refine ⟨x.pre.trans (List.prefix_append _ _), fun b o nb hb => x.kp b o nb hb, fun b h1 h2 => ?_⟩
    rcases List.mem_append.mp h1 with h1 | h1
    · exact x.new b h1 h2
    · rw [List.mem_singleton.mp h1]; exact nD
  have sub : ∀ b, b ∈ (M' ++ [D]) ++ N → b ∈ M' ++ D :: N := fun b z => by
    simp only [List.mem_append, List.mem_cons, List.mem_singleton, List.not_mem_nil, or_false] at z ⊢
    rcases z with (z | z) | z
    · exact .inl z
    · exact .inr (.inl z)
    · exact .inr (.inr z)
  have mv : ∀ {k : Nat} {v : V} {d : AV}, RV k (D :: N) M' H' v d → RV k N (M' ++ [D]) H' v d := fun {k v d} r => by
    induction d generalizing v with
    | im d => exact Gd.Rep.less sub r
    | mu i => obtain ⟨h, a, h1, h2⟩ := r; exact ⟨h, a, by rw [List.getElem?_append_left (List.getElem?_eq_some_iff.mp h1).1]; exact h1, h2⟩
    | pr p q i1 i2 => obtain ⟨b, s, t, h1, h2, h3, r1, r2⟩ := r; exact ⟨b, s, t, h1, fun z => h2 (sub b z), h3, i1 r1, i2 r2⟩
    | wl xs => obtain ⟨b, us, h1, h2, h3, r⟩ := r; exact ⟨b, us, h1, fun z => h2 (sub b z), h3, Gd.Reps.less sub r⟩
  refine ⟨x2, ⟨nodup_snoc R'.nd nM, by simp [R'.len], fun i a c' h1 h2 => ?_, fun a ha => R'.there a (List.mem_cons_of_mem _ ha)⟩, ⟨by simp [R'.len], D, by rw [← R'.len]; simp, rfl⟩⟩
  rcases getD_snoc h1 with g1 | ⟨g1, g2⟩
  · rcases getD_snoc h2 with g3 | ⟨g3, g4⟩
    · exact (R'.cell i a c' g1 g3).map (a' := a) (fun _ _ r => mv r) fun _ z => z
    · have := (List.getElem?_eq_some_iff.mp g1).1
      rw [R'.len] at this; omega
  · rcases getD_snoc h2 with g3 | ⟨g3, g4⟩
    · have := (List.getElem?_eq_some_iff.mp g3).1
      rw [R'.len] at g1; omega
    · subst g2 g4
      rw [g1]
      exact rc.map (a' := a) (fun _ _ r => mv r) fun _ z => z
def accD (n : Nat) (G : Store → Prop) (f : AV → List (Key × AV) → Store → (List (Key × AV) → Store → Prop) → Prop) : List AV → List (Key × AV) → Store → (List (Key × AV) → Store → Prop) → Prop
  | [], acc, m, P => G m ∧ P acc m
  | x :: r, acc, m, P => G m ∧ f x acc m fun acc' m' => accD n G f r acc' (m'.take n) P
def turnD (n : Nat) (vs : List Nat) (wg : WG) (wt : WT) (wk wv : WE) (ρ : Slots) : AV → List (Key × AV) → Store → (List (Key × AV) → Store → Prop) → Prop := fun x acc m K => wg x (wipeS ρ vs) m fun ρ2 m2 => wt ρ2 m2 fun b m3 =>
  if b = true then wk ρ2 m3 fun y m4 => wv ρ2 m4 fun z m5 => z.und n = true ∧ acc.length < sizeLine ∧ (match y with | .im y => (match keyA y with | some k => K (putA acc k z) m5 | none => False) | _ => False) else K acc m3
def wDc (vs : List Nat) (wi : WI) (wg : WG) (wt : WT) (wk wv : WE) : WE := fun ρ m P => wi ρ m fun xs G m1 => accD m1.length G (turnD m1.length vs wg wt wk wv ρ) xs [] m1 fun kvs m2 => P (.mu m2.length) (m2 ++ [.dk kvs])
structure MidD (N M1 : List Addr) (H1 : Hp) (D : Addr) (σ : L2.St) (ρ : Slots) (M : List Addr) (H : Hp) (m : Store) (acc : List (Key × AV)) : Prop where
  x : Ext M1 H1 M H
  nD : D ∉ M
  us : ∃ us, H D = some (.dK us) ∧ RKs M1.length (D :: N) M H us acc
  sr : SR (D :: N) M H σ ρ
  rel : Rel (D :: N) M H m
theorem MidD.later {N M1 : List Addr} {H1 : Hp} {D : Addr} {σ σ' : L2.St} {ρ ρ' : Slots} {M M' : List Addr} {H H' : Hp} {m m' : Store} {acc : List (Key × AV)} (q : MidD N M1 H1 D σ ρ M H m acc) (e : Ext M H M' H') (S : SR (D :: N) M' H' σ' ρ') (R : Rel (D :: N) M' H' m') : MidD N M1 H1 D σ' ρ' M' H' m' acc := by
  obtain ⟨us, h1, h2⟩ := q.us
  have nn : D ∉ M' := fun z => by have := e.new D z q.nD; rw [h1] at this; cases this
  exact ⟨q.x.trans e, nn, ⟨us, e.kp D _ q.nD h1, pair_imp (fun _ _ r => ⟨r.1, r.2.ext e⟩) h2⟩, S, R⟩
theorem MidD.cut {N M1 : List Addr} {H1 : Hp} {D : Addr} {σ σ' : L2.St} {ρ ρ' : Slots} {M : List Addr} {H : Hp} {m : Store} {acc : List (Key × AV)} (q : MidD N M1 H1 D σ' ρ' M H m acc) (hD : H1 D = none) (S : SR N M1 H1 σ ρ) : MidD N M1 H1 D σ ρ M1 H (m.take M1.length) acc := by
  have c := q.x.cut
  have ct := q.x.take
  rw [ct] at c
  obtain ⟨us, h1, h2⟩ := q.us
  refine ⟨c, fun z => q.nD (q.x.sub D z), ⟨us, h1, ?_⟩, S.back (M := M) c hD, ?_⟩
  · have := pair_imp (fun (p : Key × V) (q : Key × AV) (r : p.1 = q.1 ∧ RV M1.length (D :: N) M H p.2 q.2) => (⟨r.1, RV.cut (k := M1.length) (Nat.le_refl _) r.2⟩ : p.1 = q.1 ∧ RV M1.length (D :: N) (M.take M1.length) H p.2 q.2)) h2
    rwa [ct] at this
  · have := q.rel.cut M1.length
    rwa [ct] at this
theorem le_dc {B : Bk} {wi : TI} {g : TG} {tt : TT} {tk tv : TE} {vs : List Nat} {w : WI} {wg : WG} {wt : WT} {wk wv : WE} (hi : LI B wi w) (hg : LG B g wg) (ho : Own g vs) (hgm : GMono g) (ht : LT B tt wt) (hk : LE B tk wk) (hv : LE B tv wv) : LE B (tDc wi g tt tk tv vs) (wDc vs w wg wt wk wv) := fun N M H σ ρ m P Q x0 S R h q => by
  refine hi N M H σ ρ m _ _ x0 S R h fun J xs G M1 H1 m1 x1 R1 walk h1 => fun D hD => ?_
  have S1 := S.ext x1
  have nDN : D ∉ N := fun z => by obtain ⟨o, e⟩ := R1.there D z; rw [hD] at e; cases e
  have old : ∀ b ∈ D :: N, b ∈ N ∨ H1 b = none := fun b hb => (List.mem_cons.mp hb).elim (fun z => .inr (by rw [z]; exact hD)) .inl
  refine ⟨fun i k H' => k = xs.length - i ∧ i ≤ xs.length ∧ ∃ m' acc, MidD N M1 H1 D σ ρ M1 H' m' acc ∧ accD m1.length G (turnD m1.length vs wg wt wk wv ρ) (xs.drop i) acc m' fun kvs m2 => P (.mu m2.length) (m2 ++ [.dk kvs]),
    ⟨_, rfl, Nat.zero_le _, m1, [], ⟨.alloc hD, R1.liveM.fresh hD, ⟨[], upd_same, .nil⟩, S1.hide hD, R1.hide hD⟩, by simpa using h1⟩, ?_⟩
  rintro i k H' ⟨rfl, hi', m', acc, mid, h2⟩
  by_cases hlt : i < xs.length
  · rw [List.drop_eq_getElem_cons hlt] at h2
    obtain ⟨g0, h2⟩ := h2
    refine .inr ⟨walk.goes i (D :: N) M1 H' m' hlt mid.x.toN mid.rel g0, fun H3 => ∃ σ3 ρ3 M3 m3 acc3, MidD N M1 H1 D σ3 ρ3 M3 H3 m3 acc3 ∧ accD m1.length G (turnD m1.length vs wg wt wk wv ρ) (xs.drop (i + 1)) acc3 (m3.take m1.length) fun kvs m2 => P (.mu m2.length) (m2 ++ [.dk kvs]), ?_, ?_⟩
    · rintro H3 ⟨σ3, ρ3, M3, m3, acc3, mid3, h3⟩
      refine ⟨xs.length - (i + 1), by omega, rfl, hlt, _, acc3, mid3.cut hD S1, ?_⟩
      rw [R1.len]; exact h3
    · intro x H3 y
      obtain ⟨k3, rx⟩ := walk.yields i x xs[i] (D :: N) M1 H' H3 m' (List.getElem?_eq_getElem hlt) (fun _ z => List.mem_cons_of_mem _ z) mid.x.toN old mid.rel g0 y
      obtain ⟨R3, x3⟩ := mid.rel.kept k3
      have b0 : B.Ok (D :: N) M1 H3 := (((x0.trans x1).trans mid.x).trans x3).hide D
      refine hgm _ _ _ _ _ (ho _ _ _ _ (hg (D :: N) M1 H3 (wipe σ vs) (wipeS ρ vs) m' x _ _ (fun σ2 H2 => ∃ ρ2 M2 m2, Ext M1 H3 M2 H2 ∧ SR (D :: N) M2 H2 σ2 ρ2 ∧ Rel (D :: N) M2 H2 m2 ∧ wt ρ2 m2 fun b m3 =>
          if b = true then wk ρ2 m3 fun y m4 => wv ρ2 m4 fun z m5 => z.und m1.length = true ∧ acc.length < sizeLine ∧ (match y with | .im y => (match keyA y with | some k => accD m1.length G (turnD m1.length vs wg wt wk wv ρ) (xs.drop (i + 1)) (putA acc k z) (m5.take m1.length) fun kvs m2 => P (.mu m2.length) (m2 ++ [.dk kvs]) | none => False) | _ => False)
          else accD m1.length G (turnD m1.length vs wg wt wk wv ρ) (xs.drop (i + 1)) acc (m3.take m1.length) fun kvs m2 => P (.mu m2.length) (m2 ++ [.dk kvs]))
          b0 ((mid.sr.ext x3).wipe vs) R3 rx h2 fun M2 H2 σ2 ρ2 m2 x2 S2 R2 h => ⟨ρ2, M2, m2, x2, S2, R2, h⟩)) fun σ2 H2 ⟨e2, ρ2, M2, m2, x2, S2, R2, h4⟩ => ⟨e2.trans (wipe_wipe σ vs), ?_⟩
      have mid2 : MidD N M1 H1 D σ2 ρ2 M2 H2 m2 acc := mid.later (x3.trans x2) S2 R2
      refine ht (D :: N) M2 H2 σ2 ρ2 m2 _ _ (b0.trans x2) S2 R2 h4 fun b M5 H5 m5 x5 R5 h5 => ?_
      have mid5 := mid2.later x5 (S2.ext x5) R5
      have b5 := (b0.trans x2).trans x5
      cases b with
      | false => exact ⟨σ2, ρ2, M5, m5, acc, mid5, h5⟩
      | true =>
        simp only [if_true] at h5 ⊢
        refine hk (D :: N) M5 H5 σ2 ρ2 m5 _ _ b5 (S2.ext x5) R5 h5 fun vk dk M6 H6 m6 x6 R6 r6 h6 => ?_
        refine hv (D :: N) M6 H6 σ2 ρ2 m6 _ _ (b5.trans x6) ((S2.ext x5).ext x6) R6 h6 fun vv dv M7 H7 m7 x7 R7 r7 h7 => ?_
        obtain ⟨hu, hl, h7⟩ := h7
        have mid7 := mid5.later (x6.trans x7) (((S2.ext x5).ext x6).ext x7) R7
        obtain ⟨us, e1, e2⟩ := mid7.us
        split at h7
        · rename_i y
          split at h7
          · rename_i kk ek
            have hin : D ∈ D :: N := List.mem_cons_self
            rw [← R1.len] at hu
            refine ⟨us, kk, key_rep r6 ek, e1, by rw [pair_len e2]; exact hl, σ2, ρ2, M7, m7, putA acc kk dv, ⟨⟨mid7.x.pre, fun b o nb hb => ?_, mid7.x.new⟩, mid7.nD, ⟨_, upd_same, pair_imp (fun _ _ r => ⟨r.1, r.2.hid hin⟩) (put_of kk e2 (r7.und2 hu))⟩, mid7.sr.hid hin, mid7.rel.hid hin mid7.nD⟩, h7⟩
            rw [upd_ne (fun z : b = D => by rw [z, hD] at hb; cases hb)]
            exact mid7.x.kp b o nb hb
          · exact h7.elim
        · exact h7.elim
  · have e : i = xs.length := by omega
    subst e
    rw [List.drop_length] at h2
    obtain ⟨us, e1, e2⟩ := mid.us
    obtain ⟨a, b, c⟩ := unhide (c := .dk acc) mid.rel mid.nD (x1.trans mid.x) (x1.none (fun z => R1.liveM.fresh hD (x1.sub D z)) hD) ⟨us, e1, e2⟩
    exact .inl ⟨walk.stops (D :: N) M1 H' m' mid.x.toN mid.rel h2.1, q _ (.mu m'.length) _ _ _ a b c h2.2⟩
section
variable {X : Cx} {B : Bk} {kx vx tg iter : Expr} {ifs : List Expr} {scope : Scope} {own : List (Str × Nat)} {pos : Pos} {wi : TI} {g : TG} {tt : TT} {tk tv : TE} {w : WI} {wg : WG} {wt : WT} {wk wv : WE}
theorem ae_dc (hc : X.calm = true) (hN : X.N.Nodup) (hi : AI X B tg iter wi w) (ok : BlkOk X.N X.env.scope scope own)
    (hg : ∀ (s : Shared) (H : Hp) (C : Addr) (cl : List (Str × Addr)) (fp : List Addr), AG (X.blk s H scope (compEnvC scope cl C X.env) fp) B tg g wg) (ho : Own g (own.map (·.2))) (hgm : GMono g)
    (ht : ∀ (s : Shared) (H : Hp) (C : Addr) (cl : List (Str × Addr)) (fp : List Addr), ATs (X.blk s H scope (compEnvC scope cl C X.env) fp) B ifs tt wt)
    (hk : ∀ (s : Shared) (H : Hp) (C : Addr) (cl : List (Str × Addr)) (fp : List Addr), AE (X.blk s H scope (compEnvC scope cl C X.env) fp) B kx tk wk)
    (he : ∀ (s : Shared) (H : Hp) (C : Addr) (cl : List (Str × Addr)) (fp : List Addr), AE (X.blk s H scope (compEnvC scope cl C X.env) fp) B vx tv wv) (hs : ∀ x, foldedSetIterable iter X.env x = pure x := by intro _; rfl) :
    AE X B (.DictComp kx vx [⟨tg, iter, ifs, 0⟩] scope pos) (tDc wi g tt tk tv (own.map (·.2))) (wDc (own.map (·.2)) w wg wt wk wv) :=
  ⟨pe_dc hc hN hi.pi ok (fun s H C cl fp => (hg s H C cl fp).pg) (fun s H C cl fp => (ht s H C cl fp).pt) (fun s H C cl fp => (hk s H C cl fp).pe) (fun s H C cl fp => (he s H C cl fp).pe) hs,
    le_dc hi.li (hg X.s_0 X.H_0 X.env.locals [] []).lg ho hgm (ht X.s_0 X.H_0 X.env.locals [] []).lt (hk X.s_0 X.H_0 X.env.locals [] []).le (he X.s_0 X.H_0 X.env.locals [] []).le⟩
end
end Ab
end

section
set_option maxRecDepth 100000
set_option maxHeartbeats 4000000
/-! Readings over data: walks that change nothing, walks by an invariant. -/
namespace Ab
open PySem PySem.Spec PyProof.Rows L2 Gd
/-- a comprehension whose turns change nothing -/
theorem lc_map {α : Type} {n : Nat} {G : Store → Prop} {f : AV → Store → (Option AV → Store → Prop) → Prop} {m : Store} {P : List AV → Store → Prop} (l : List α) (j : α → AV) (g : α → Option AV) (hG : G m) (hn : m.length ≤ n)
    (hf : ∀ a ∈ l, ∀ Kt : Option AV → Store → Prop, Kt (g a) m → f (j a) m Kt) (hu : ∀ a ∈ l, ∀ z, g a = some z → z.und n = true) (hP : P (l.filterMap g) m) : lcL n G f (l.map j) m P := by
  induction l generalizing P with
  | nil => exact ⟨hG, hP⟩
  | cons a r ih =>
    refine ⟨hG, hf a List.mem_cons_self _ ⟨hu a List.mem_cons_self, ?_⟩⟩
    rw [List.take_of_length_le hn]
    refine ih (fun b hb => hf b (List.mem_cons_of_mem _ hb)) (fun b hb => hu b (List.mem_cons_of_mem _ hb)) ?_
    rw [List.filterMap_cons] at hP
    cases h : g a with
    | none => rw [h] at hP; exact hP
    | some z => rw [h] at hP; exact hP
theorem putA_new {κ : Type} [DecidableEq κ] {β : Type} {kvs : List (κ × β)} {k : κ} {v : β} (h : k ∉ kvs.map (·.1)) : putA kvs k v = kvs ++ [(k, v)] := by
  unfold putA
  rw [if_neg]
  intro c
  rw [List.any_eq_true] at c
  obtain ⟨x, hx, e⟩ := c
  exact h (List.mem_map.mpr ⟨x, hx, of_decide_eq_true e⟩)
/-- a dict comprehension whose turns change nothing, its keys all different -/
theorem dc_map {α : Type} {n : Nat} {G : Store → Prop} {f : AV → List (Key × AV) → Store → (List (Key × AV) → Store → Prop) → Prop} {m : Store} {P : List (Key × AV) → Store → Prop} (l : List α) (j : α → AV) (k : α → Key) (v : α → AV) (hG : G m) (hn : m.length ≤ n)
    (nd : (l.map k).Nodup) (hf : ∀ a ∈ l, ∀ (acc : List (Key × AV)) (Kt : List (Key × AV) → Store → Prop), acc.length ≤ l.length → Kt (putA acc (k a) (v a)) m → f (j a) acc m Kt) (hP : P (l.map fun a => (k a, v a)) m) : accD n G f (l.map j) [] m P := by
  have go : ∀ (r d : List α), l = d ++ r → accD n G f (r.map j) (d.map fun a => (k a, v a)) m P := by
    intro r
    induction r with
    | nil => intro d e; rw [List.append_nil] at e; subst e; exact ⟨hG, hP⟩
    | cons a r ih =>
      intro d e
      have ha : a ∈ l := by rw [e]; simp
      refine ⟨hG, hf a ha _ _ (by rw [e]; simp) ?_⟩
      rw [List.take_of_length_le hn]
      have nk : k a ∉ (d.map fun a => (k a, v a)).map (·.1) := by
        rw [e, List.map_append, List.map_cons] at nd
        rw [List.map_map]
        intro z
        have z' : k a ∈ d.map k := by simpa using z
        exact (List.nodup_append.mp nd).2.2 _ z' _ List.mem_cons_self rfl
      rw [putA_new nk]
      have := ih (d ++ [a]) (by rw [e]; simp)
      rwa [List.map_append] at this
  exact go l [] rfl
/-- two clauses whose turns change nothing -/
theorem lc2_map {α : Type} {n : Nat} {G : Store → Prop} {f : AV → List AV → Store → (List AV → Store → Prop) → Prop} {m : Store} {P : List AV → Store → Prop} (l : List α) (j : α → AV) (g : α → List AV) (hG : G m) (hn : m.length ≤ n) (B : Nat) (hb : (l.flatMap g).length ≤ B)
    (hf : ∀ a ∈ l, ∀ (acc : List AV) (Kt : List AV → Store → Prop), acc.length + (g a).length ≤ B → Kt (acc ++ g a) m → f (j a) acc m Kt) (hP : P (l.flatMap g) m) : accL n G f (l.map j) [] m P := by
  have go : ∀ (r d : List α), l = d ++ r → accL n G f (r.map j) (d.flatMap g) m P := by
    intro r
    induction r with
    | nil => intro d e; rw [List.append_nil] at e; subst e; exact ⟨hG, hP⟩
    | cons a r ih =>
      intro d e
      have ha : a ∈ l := by rw [e]; simp
      have hb2 : (d.flatMap g).length + (g a).length ≤ B := by
        rw [e] at hb
        simp only [List.flatMap_append, List.flatMap_cons, List.length_append] at hb
        omega
      refine ⟨hG, hf a ha _ _ hb2 ?_⟩
      rw [List.take_of_length_le hn]
      have := ih (d ++ [a]) (by rw [e]; simp)
      simpa [List.flatMap_append] using this
  exact go l [] rfl
theorem acc_map {α : Type} {G : Store → Prop} {f : AV → List AV → Store → (List AV → Store → Prop) → Prop} {m : Store} {P : List AV → Store → Prop} {acc0 : List AV} (l : List α) (j : α → AV) (g : α → Option AV) (hG : G m)
    (hf : ∀ a ∈ l, ∀ (acc : List AV) (Kt : List AV → Store → Prop), acc.length < acc0.length + l.length → Kt (acc ++ (g a).toList) m → f (j a) acc m Kt) (hP : P (acc0 ++ l.filterMap g) m) : accI G f (l.map j) acc0 m P := by
  induction l generalizing acc0 with
  | nil => exact ⟨hG, by simpa using hP⟩
  | cons a r ih =>
    refine ⟨hG, hf a List.mem_cons_self _ _ (by simp) ?_⟩
    refine ih (fun b hb acc Kt hl => hf b (List.mem_cons_of_mem _ hb) acc Kt (by
      have : (g a).toList.length ≤ 1 := by cases g a <;> simp
      simp only [List.length_append, List.length_cons] at hl ⊢; omega)) ?_
    rw [List.filterMap_cons] at hP
    cases h : g a with
    | none => rw [h] at hP; simpa using hP
    | some z => rw [h] at hP; simpa using hP
/-- a loop by an invariant: Iv by what is left to walk -/
theorem for_inv {n : Nat} {G : Store → Prop} {b : AV → WS} {F : Fin} (Iv : List AV → Slots → Store → Prop) (hG : ∀ xs ρ m, Iv xs ρ m → G m)
    (hs : ∀ x r ρ m (nx : Slots → Store → Prop), Iv (x :: r) ρ m → (∀ ρ' m', Iv r (keepS n ρ') (m'.take n) → nx ρ' m') → b x { nx := nx, rt := F.rt, bk := F.nx, ct := nx } ρ m) (hd : ∀ ρ m, Iv [] ρ m → F.nx ρ m) :
    ∀ {xs : List AV} {ρ : Slots} {m : Store}, Iv xs ρ m → forL n G b F xs ρ m
  | [], _, _, h => ⟨hG _ _ _ h, hd _ _ h⟩
  | x :: r, ρ, m, h => ⟨hG _ _ _ h, hs x r ρ m _ h fun _ _ q => for_inv Iv hG hs hd q⟩
theorem snocAt {α : Type} (l : List α) (a : α) : (l ++ [a])[l.length]? = some a := by simp
theorem snocTake {α : Type} (l : List α) (a : α) : (l ++ [a]).take l.length = l := by simp
theorem ims_mapF {α : Type} (g : α → PyData) (l : List α) : ims (l.map fun a => .im (g a)) = some (l.map g) := by
  have := ims_map (l.map g)
  rwa [List.map_map] at this
theorem filterMap_if {α β : Type} (p : α → Bool) (g : α → β) : ∀ l : List α, (l.filterMap fun b => if p b = true then some (g b) else none) = (l.filter p).map g
  | [] => rfl
  | b :: r => by
    rw [List.filterMap_cons, List.filter_cons]
    cases h : p b with
    | true => simp [filterMap_if p g r]
    | false => simpa using filterMap_if p g r
theorem nodup_map {α β : Type} {f : α → β} (h : ∀ a b, f a = f b → a = b) {l : List α} (nd : l.Nodup) : (l.map f).Nodup := by
  unfold List.Nodup
  rw [List.pairwise_map]
  exact nd.imp fun n z => n (h _ _ z)
end Ab
end

section
set_option maxRecDepth 100000
set_option maxHeartbeats 4000000
/-! Readings over data: enumerate, zip, items, dict(..), comprehensions whose turns make lists. -/
namespace Ab
open PySem PySem.Spec PyProof.Rows L2 Gd RZ
/-- the items with their numbers -/
def enumF : Nat → List PyData → List AV
  | _, [] => []
  | i, x :: r => .im (.tuple [.int (i : Nat), x]) :: enumF (i + 1) r
theorem enumF_len : ∀ (i : Nat) (xs : List PyData), (enumF i xs).length = xs.length
  | _, [] => rfl
  | i, x :: r => by simp [enumF, enumF_len (i + 1) r]
theorem enumF_at : ∀ {xs : List PyData} {k i : Nat} {d : AV}, (enumF k xs)[i]? = some d → ∃ x, xs[i]? = some x ∧ d = .im (.tuple [.int ((k + i : Nat) : Int), x])
  | [], _, _, _, h => by simp [enumF] at h
  | x :: r, k, 0, d, h => by simp [enumF] at h; exact ⟨x, rfl, by rw [← h]; rfl⟩
  | x :: r, k, i + 1, d, h => by
    simp only [enumF, List.getElem?_cons_succ] at h
    obtain ⟨y, h1, rfl⟩ := enumF_at h
    exact ⟨y, by simpa using h1, by rw [show k + 1 + i = k + (i + 1) by omega]⟩
section
variable {N M : List Addr} {H : Hp} {m : Store} {K : PySem.W.Frag} {a b : Addr}
/-- a new pair of data -/
theorem new_pair {N2 M2 : List Addr} {H2 : Hp} {m2 : Store} {T : Addr} {x y : V} {dx dy : PyData} (R : Rel N2 M2 H2 m2) (hT : H2 T = none) (rx : Rep (M2 ++ N2) H2 x dx) (ry : Rep (M2 ++ N2) H2 y dy) :
    (∀ b o, H2 b = some o → (upd H2 T (.tup [x, y])) b = some o) ∧ RV M2.length N2 M2 (upd H2 T (.tup [x, y])) (.ref T) (.im (.tuple [dx, dy])) :=
  ⟨fun b o h => by rw [upd_ne (ne_of_none h hT)]; exact h, Rep.tup (R.live.fresh hT) upd_same (.cons (Gd.Rep.keep (Kp.new hT) rx) (.cons (Gd.Rep.keep (Kp.new hT) ry) .nil))⟩
/-- what a list that is read gives later -/
theorem wk_enum {us : List V} {xs : List PyData} (na : a ∉ M ++ N) (ha : H a = some (.lst us)) (r : Reps (M ++ N) H us xs) : Wk (Ite K a) N M H (enumF 0 xs) yes := by
  have l := r.length
  refine ⟨fun i N2 M2 H2 m2 hi e _ _ => ?_, fun N2 M2 H2 m2 e _ _ => ⟨us, .inl (.inl (e.kp a _ na ha)), by rw [enumF_len, l]; exact Nat.le_refl _⟩, fun i x d N2 M2 H2 H3 m2 hd nn e n2 R _ y => ?_⟩
  · rw [enumF_len, ← l] at hi
    exact ⟨us, us[i], .inl (.inl (e.kp a _ na ha)), by simp [hi]⟩
  · obtain ⟨T, v, rfl, hT, rfl, y2⟩ := y
    obtain ⟨z, h1, rfl⟩ := enumF_at hd
    obtain ⟨w, h2, h3⟩ := r.at' h1
    have := y2 us (.inl (.inl (e.kp a _ na ha)))
    rw [h2] at this
    cases this
    rw [Nat.zero_add]
    exact new_pair R hT (.int _) (Rep.seen e nn n2 h3)
theorem wk_enumM {j : Nat} {xs : List PyData} (ha : M[j]? = some a) : Wk (Ite K a) N M H (enumF 0 xs) (fun m => m[j]? = some (.lst (xs.map .im))) := by
  refine ⟨fun i N2 M2 H2 m2 hi e R g => ?_, fun N2 M2 H2 m2 e R g => ?_, fun i x d N2 M2 H2 H3 m2 hd nn e n2 R g y => ?_⟩
  · obtain ⟨us, h1, h2⟩ := R.cell j a _ (e.get ha) g
    have hl := pair_len h2
    rw [List.length_map] at hl
    rw [enumF_len, ← hl] at hi
    exact ⟨us, us[i], .inl (.inl h1), by simp [hi]⟩
  · obtain ⟨us, h1, h2⟩ := R.cell j a _ (e.get ha) g
    have hl := pair_len h2
    rw [List.length_map] at hl
    exact ⟨us, .inl (.inl h1), by rw [enumF_len, hl]; exact Nat.le_refl _⟩
  · obtain ⟨us, h1, h2⟩ := R.cell j a _ (e.get ha) g
    obtain ⟨T, v, rfl, hT, rfl, y2⟩ := y
    obtain ⟨z, h3, rfl⟩ := enumF_at hd
    have rr := ims_of h2 (ims_map xs)
    obtain ⟨w, h4, h5⟩ := rr.at' h3
    have := y2 us (.inl (.inl h1))
    rw [h4] at this
    cases this
    rw [Nat.zero_add]
    exact new_pair R hT (.int _) h5
theorem zip_at {α β : Type} : ∀ {xs : List α} {ys : List β} {i : Nat} {p : α × β}, (xs.zip ys)[i]? = some p → xs[i]? = some p.1 ∧ ys[i]? = some p.2
  | [], _, _, _, h => by simp at h
  | _ :: _, [], _, _, h => by simp at h
  | x :: r, y :: s, 0, p, h => by simp at h; subst h; exact ⟨rfl, rfl⟩
  | x :: r, y :: s, i + 1, p, h => by
    simp only [List.zip_cons_cons, List.getElem?_cons_succ] at h
    simpa using zip_at h
def zipD (xs ys : List PyData) : List AV := (xs.zip ys).map fun p => .im (.tuple [p.1, p.2])
theorem wk_zipT {us ws : List V} {xs ys : List PyData} (na : a ∉ M ++ N) (ha : H a = some (.tup us)) (r : Reps (M ++ N) H us xs) (nb : b ∉ M ++ N) (hb : H b = some (.tup ws)) (s : Reps (M ++ N) H ws ys) : Wk (ItzT K a b) N M H (zipD xs ys) yes := by
  have l := r.length
  have l2 := s.length
  have ll : (zipD xs ys).length = min us.length ws.length := by unfold zipD; rw [List.length_map, List.length_zip, l, l2]
  refine ⟨fun i N2 M2 H2 m2 hi e _ _ => ?_, fun N2 M2 H2 m2 e _ _ => ?_, fun i x d N2 M2 H2 H3 m2 hd nn e n2 R _ y => ?_⟩
  · rw [ll] at hi
    have h1 : i < us.length := by omega
    have h2 : i < ws.length := by omega
    exact ⟨us, ws, us[i], ws[i], .inl (.inl (e.kp a _ na ha)), .inl (.inl (e.kp b _ nb hb)), by simp [h1], by simp [h2]⟩
  · exact ⟨us, ws, .inl (.inl (e.kp a _ na ha)), .inl (.inl (e.kp b _ nb hb)), by rw [ll]; omega⟩
  · obtain ⟨T, v, w, rfl, hT, rfl, y1, y2⟩ := y
    unfold zipD at hd
    rw [List.getElem?_map] at hd
    obtain ⟨p, hp, rfl⟩ := Option.map_eq_some_iff.mp hd
    obtain ⟨p1, p2⟩ := zip_at hp
    obtain ⟨v1, q1, q2⟩ := r.at' p1
    obtain ⟨v2, q3, q4⟩ := s.at' p2
    have e1 := y1 us (.inl (.inl (e.kp a _ na ha)))
    have e2 := y2 ws (.inl (.inl (e.kp b _ nb hb)))
    rw [q1] at e1; cases e1
    rw [q3] at e2; cases e2
    exact new_pair R hT (Rep.seen e nn n2 q2) (Rep.seen e nn n2 q4)
theorem wk_zipL {us ws : List V} {xs ys : List PyData} (na : a ∉ M ++ N) (ha : H a = some (.lst us)) (r : Reps (M ++ N) H us xs) (nb : b ∉ M ++ N) (hb : H b = some (.lst ws)) (s : Reps (M ++ N) H ws ys) : Wk (Itz K a b) N M H (zipD xs ys) yes := by
  have l := r.length
  have l2 := s.length
  have ll : (zipD xs ys).length = min us.length ws.length := by unfold zipD; rw [List.length_map, List.length_zip, l, l2]
  refine ⟨fun i N2 M2 H2 m2 hi e _ _ => ?_, fun N2 M2 H2 m2 e _ _ => ?_, fun i x d N2 M2 H2 H3 m2 hd nn e n2 R _ y => ?_⟩
  · rw [ll] at hi
    have h1 : i < us.length := by omega
    have h2 : i < ws.length := by omega
    exact ⟨us, ws, us[i], ws[i], .inl (.inl (e.kp a _ na ha)), .inl (.inl (e.kp b _ nb hb)), by simp [h1], by simp [h2]⟩
  · exact ⟨us, ws, .inl (.inl (e.kp a _ na ha)), .inl (.inl (e.kp b _ nb hb)), by rw [ll]; omega⟩
  · obtain ⟨T, v, w, rfl, hT, rfl, y1, y2⟩ := y
    unfold zipD at hd
    rw [List.getElem?_map] at hd
    obtain ⟨p, hp, rfl⟩ := Option.map_eq_some_iff.mp hd
    obtain ⟨p1, p2⟩ := zip_at hp
    obtain ⟨v1, q1, q2⟩ := r.at' p1
    obtain ⟨v2, q3, q4⟩ := s.at' p2
    have e1 := y1 us (.inl (.inl (e.kp a _ na ha)))
    have e2 := y2 ws (.inl (.inl (e.kp b _ nb hb)))
    rw [q1] at e1; cases e1
    rw [q3] at e2; cases e2
    exact new_pair R hT (Rep.seen e nn n2 q2) (Rep.seen e nn n2 q4)
theorem wk_items {us : List (Key × V)} {kvs : List (Key × AV)} {o : Obj} {j : Nat} (ha : M[j]? = some a) : Wk (Iti a o us) N M H (kvs.map fun kv => .pr (.im (keyD kv.1)) kv.2) (fun m => m[j]? = some (.fz o us kvs)) := by
  refine ⟨fun i N2 M2 H2 m2 hi e R g => ?_, fun N2 M2 H2 m2 e R g => ?_, fun i x d N2 M2 H2 H3 m2 hd nn e n2 R g y => ?_⟩
  · obtain ⟨h1, h2⟩ := R.cell j a _ (e.get ha) g
    exact ⟨h1, by rw [pair_len h2]; simpa using hi⟩
  · obtain ⟨h1, h2⟩ := R.cell j a _ (e.get ha) g
    exact ⟨h1, by rw [pair_len h2]; simp⟩
  · obtain ⟨h1, h2⟩ := R.cell j a _ (e.get ha) g
    obtain ⟨T, k, v, y1, rfl, hT, rfl⟩ := y
    rw [List.getElem?_map] at hd
    obtain ⟨kv, hkv, rfl⟩ := Option.map_eq_some_iff.mp hd
    obtain ⟨q, hq, e1, e2⟩ := pair_at h2 hkv
    rw [y1] at hq
    cases hq
    have hj := (List.getElem?_eq_some_iff.mp (e.get ha)).1
    have x' : Ext M2 H2 M2 (upd H2 T (.tup [kV k, v])) := .alloc hT
    refine ⟨fun b o h => by rw [upd_ne (ne_of_none h hT)]; exact h, T, _, _, rfl, R.live.fresh hT, upd_same, ?_, (e2.up (by omega)).ext x'⟩
    simp only at e1
    rw [← e1]
    cases k with
    | inl i => exact .int i
    | inr x => exact .str x
end
section
variable {X : Cx} {B : Bk} {e e2 : Expr} {ta : TA} {wa : WL} {K : PySem.W.Frag} {p pos tpos : Pos} {elts : List Expr} {kk : Nat}
def wiEnum (wa : WL) : WI := fun ρ m P => wa ρ m fun ds m1 => match ds with
  | [.im (.list xs)] => P (enumF 0 xs) yes m1
  | [.wl xs] => P (enumF 0 xs) yes m1
  | [.mu i] => (match asL (.mu i) m1 with | some xs => P (enumF 0 xs) (fun m => m[i]? = some (.lst (xs.map .im))) m1 | none => False)
  | _ => False
theorem ims_eq : ∀ {ds : List AV} {xs : List PyData}, ims ds = some xs → ds = xs.map .im
  | [], _, h => by cases h; rfl
  | .im d :: r, _, h => by
    unfold ims at h
    obtain ⟨ys, h1, rfl⟩ := Option.map_eq_some_iff.mp h
    rw [ims_eq h1]; rfl
theorem ai_enum (hK : X.K = K) (hg : Gl X "enumerate") (hm : X.mg "enumerate" = none) (ha : AL X B [e] ta wa) (hs : starEach [e] X.env = [(false, eval e X.env)] := by rfl) : AI X B (.Tuple elts kk tpos) (.Call (.Name "enumerate" p) [e] [] pos) (iEnum K ta) (wiEnum wa) :=
  ⟨hK ▸ pi_enum hg hm ha.pa hs, fun N M H σ ρ m P R x0 S Rl hw q => ha.la N M H σ ρ m _ _ x0 S Rl hw fun vs ds M1 H1 m1 x1 R1 r1 h1 => by
    split at h1
    · obtain ⟨v, rfl, rv⟩ := val1 r1
      cases rv with
      | lst n ne e z => exact ⟨_, _, rfl, .inl (.inl e), q _ _ yes M1 H1 m1 x1 R1 (wk_enum n e z) h1⟩
    · obtain ⟨v, rfl, a, us, rfl, n, e, z⟩ := val1 r1
      exact ⟨_, _, rfl, .inl (.inl e), q _ _ yes M1 H1 m1 x1 R1 (wk_enum n e z) h1⟩
    · rename_i i
      obtain ⟨v, rfl, rv⟩ := val1 r1
      split at h1
      · rename_i xs ex
        obtain ⟨_, a, ha, rfl⟩ := rv
        unfold asL at ex
        simp only at ex
        split at ex
        · rename_i ys ey
          have := ims_eq ex
          subst this
          obtain ⟨us, h3, h4⟩ := R1.cell i a _ ha ey
          exact ⟨a, us, rfl, .inl (.inl h3), q _ _ _ M1 H1 m1 x1 R1 (wk_enumM ha) h1⟩
        · cases ex
      · exact h1.elim
    · exact h1.elim⟩
def wiZip (wa : WL) : WI := fun ρ m P => wa ρ m fun ds m1 => match ds with
  | [.im (.tuple xs), .im (.tuple ys)] => P (zipD xs ys) yes m1
  | [.wl xs, .wl ys] => P (zipD xs ys) yes m1
  | [.im (.list xs), .im (.list ys)] => P (zipD xs ys) yes m1
  | _ => False
theorem ai_zip (hK : X.K = K) (hg : Gl X "zip") (hm : X.mg "zip" = none) (ha : AL X B [e, e2] ta wa) (hs : starEach [e, e2] X.env = (false, eval e X.env) :: starEach [e2] X.env := by rfl) (hpl : (backTo pos (starEach [e2] X.env)).any (·.1) = false := by rfl) :
    AI X B (.Tuple elts kk tpos) (.Call (.Name "zip" p) [e, e2] [] pos) (iZipA K ta) (wiZip wa) :=
  ⟨hK ▸ pi_zipA hg hm ha.pa hs hpl, fun N M H σ ρ m P R x0 S Rl hw q => ha.la N M H σ ρ m _ _ x0 S Rl hw fun vs ds M1 H1 m1 x1 R1 r1 h1 => by
    split at h1
    · obtain ⟨v, w, rfl, rv, rw'⟩ := val2 r1
      cases rv with
      | tup n e z => cases rw' with
        | tup n2 e2 z2 => exact ⟨_, _, _, _, rfl, .inr ⟨.inl (.inl e), .inl (.inl e2), q _ _ yes M1 H1 m1 x1 R1 (wk_zipT n e z n2 e2 z2) h1⟩⟩
    · obtain ⟨v, w, rfl, ⟨a, us, rfl, n, e, z⟩, ⟨b, ws, rfl, n2, e2, z2⟩⟩ := val2 r1
      exact ⟨_, _, _, _, rfl, .inl ⟨.inl (.inl e), .inl (.inl e2), q _ _ yes M1 H1 m1 x1 R1 (wk_zipL n e z n2 e2 z2) h1⟩⟩
    · obtain ⟨v, w, rfl, rv, rw'⟩ := val2 r1
      cases rv with
      | lst n _ e z => cases rw' with
        | lst n2 _ e2 z2 => exact ⟨_, _, _, _, rfl, .inl ⟨.inl (.inl e), .inl (.inl e2), q _ _ yes M1 H1 m1 x1 R1 (wk_zipL n e z n2 e2 z2) h1⟩⟩
    · exact h1.elim⟩
variable {td : TE} {wd : WE} {apos cpos : Pos}
def wiItems (wd : WE) : WI := fun ρ m P => wd ρ m fun d m1 => match d with
  | .mu j => (match m1[j]? with | some (.fz o us kvs) => P (kvs.map fun kv => .pr (.im (keyD kv.1)) kv.2) (fun m => m[j]? = some (.fz o us kvs)) m1 | _ => False)
  | _ => False
theorem ai_items (he : AE X B e td wd) (hbase : attributeBase e "items" X.env (eval e X.env) = eval e X.env := by rfl) (hline : (apos.endLine == cpos.line) = true := by rfl) :
    AI X B (.Tuple elts kk tpos) (.Call (.Attribute e "items" apos) [] [] cpos) (iItems td) (wiItems wd) :=
  ⟨pi_items he.pe hbase hline, fun N M H σ ρ m P R x0 S Rl hw q => he.le N M H σ ρ m _ _ x0 S Rl hw fun v d M1 H1 m1 x1 R1 r1 h1 => by
    split at h1
    · rename_i j
      obtain ⟨_, a, ha, rfl⟩ := r1
      split at h1
      · rename_i o us kvs ex
        obtain ⟨h3, h4⟩ := R1.cell j a _ ha ex
        exact ⟨a, o, us, rfl, h3, q _ _ _ M1 H1 m1 x1 R1 (wk_items ha) h1⟩
      · exact h1.elim
    · exact h1.elim⟩
/-- an expression in which the dict in slot i is walked -/
def wLock (i : Nat) (w : WE) : WE := fun ρ m P => match ρ[i]? with
  | some (some (.mu j)) => (match m[j]? with
    | some (.dk kvs) => ∀ o us, w ρ (m.set j (.fz o us kvs)) fun d m' => m'[j]? = some (.fz o us kvs) ∧ P d (m'.set j (.dk kvs))
    | _ => False)
  | _ => False
theorem ae_lock {x : Expr} {t : TE} {w : WE} (i : Nat) (h : AE X B x t w) : AE X B x (tLockE t) (wLock i w) := ⟨pe_lock h.pe, fun N M H σ ρ m P Q x0 S R hw q => by
  unfold wLock at hw
  split at hw
  · rename_i j ej
    split at hw
    · rename_i kvs ek
      obtain ⟨v, _, _, a, ha, rfl⟩ := S.2 i _ ej
      obtain ⟨us, h3, h4⟩ := R.cell j a _ ha ek
      have ma : a ∈ M := List.mem_of_getElem? ha
      refine ⟨a, .dK us, h3, trivial, fun o => ?_⟩
      obtain ⟨R', x'⟩ := R.put (c := .fz o us kvs) (o := .frz o (.dK us)) ha ⟨upd_same, pair_imp (fun _ _ r => ⟨r.1, r.2.put ma⟩) h4⟩
      refine h.le N M _ σ ρ _ _ _ (x0.trans x') (S.ext x') R' (hw o us) fun v d M' H' m' x1 R1 r1 h1 => ?_
      obtain ⟨g, h1⟩ := h1
      have ha' := x1.get ha
      have ma' : a ∈ M' := List.mem_of_getElem? ha'
      obtain ⟨h5, h6⟩ := R1.cell j a _ ha' g
      obtain ⟨R2, x2⟩ := R1.put (c := .dk kvs) (o := .dK us) ha' ⟨us, upd_same, pair_imp (fun _ _ r => ⟨r.1, r.2.put ma'⟩) h6⟩
      exact ⟨h5, q _ d M' _ _ ((x'.trans x1).trans x2) R2 (r1.extL x2) h1⟩
    · exact hw.elim
  · exact hw.elim⟩
/-! ### dict(pairs) -/
def pairsA : List AV → Option (List (Key × AV))
  | [] => some []
  | .pr (.im k) v :: r => (keyA k).bind fun k => (pairsA r).map ((k, v) :: ·)
  | .im (.tuple [k, v]) :: r => (keyA k).bind fun k => (pairsA r).map ((k, .im v) :: ·)
  | _ => none
def mergeA (kvs more : List (Key × AV)) : List (Key × AV) := more.foldl (fun acc kv => putA acc kv.1 kv.2) kvs
def itemsA (d : AV) (m : Store) : Option (List AV) := match d with
  | .im (.list xs) => some (xs.map .im)
  | .wl xs => some (xs.map .im)
  | .mu i => (match m[i]? with | some (.lst xs) => some xs | _ => none)
  | _ => none
theorem itemsA_of {N M : List Addr} {H : Hp} {m : Store} {v : V} {d : AV} {xs : List AV} (R : Rel N M H m) (r : RV M.length N M H v d) (h : itemsA d m = some xs) : ∃ a us, v = .ref a ∧ H a = some (.lst us) ∧ RVs M.length N M H us xs := by
  unfold itemsA at h
  split at h
  · cases h
    cases r with
    | lst n ne e z => exact ⟨_, _, rfl, e, to_ims z⟩
  · cases h
    obtain ⟨a, us, rfl, _, e, z⟩ := r
    exact ⟨a, us, rfl, e, to_ims z⟩
  · rename_i i
    split at h
    · rename_i ys e
      cases h
      obtain ⟨_, a, ha, rfl⟩ := r
      obtain ⟨us, h1, h2⟩ := R.cell i a _ ha e
      have hi := (List.getElem?_eq_some_iff.mp ha).1
      exact ⟨a, us, rfl, h1, pair_imp (fun _ _ r => r.up (by omega)) h2⟩
    · cases h
  · cases h
theorem pairsA_of {N M : List Addr} {H : Hp} {n : Nat} {K : PySem.W.Frag} : ∀ {us : List V} {xs : List AV} {kvs : List (Key × AV)}, RVs n N M H us xs → pairsA xs = some kvs →
    ∃ (ps : List Addr) (kus : List (Key × V)), us = ps.map V.ref ∧ Paired (fun p kv => SqT K H p [kV kv.1, kv.2]) ps kus ∧ RKs n N M H kus kvs
  | _, [], _, .nil, h => by cases h; exact ⟨[], [], rfl, .nil, .nil⟩
  | _, .pr (.im k) v :: r, _, .cons r1 r2, h => by
    unfold pairsA at h
    obtain ⟨kk, h1, h2⟩ := Option.bind_eq_some_iff.mp h
    obtain ⟨kvs, h3, rfl⟩ := Option.map_eq_some_iff.mp h2
    obtain ⟨a, u, w, rfl, _, e, s1, s2⟩ := r1
    obtain ⟨ps, kus, rfl, p1, p2⟩ := pairsA_of (K := K) r2 h3
    exact ⟨a :: ps, (kk, w) :: kus, rfl, .cons (by rw [← key_rep s1 h1]; exact .inl (.inl e)) p1, .cons ⟨rfl, s2⟩ p2⟩
  | _, .im (.tuple [k, v]) :: r, _, .cons r1 r2, h => by
    unfold pairsA at h
    obtain ⟨kk, h1, h2⟩ := Option.bind_eq_some_iff.mp h
    obtain ⟨kvs, h3, rfl⟩ := Option.map_eq_some_iff.mp h2
    obtain ⟨ps, kus, rfl, p1, p2⟩ := pairsA_of (K := K) r2 h3
    cases r1 with
    | tup n e z =>
      cases z with
      | cons s1 z => cases z with
        | cons s2 z =>
          cases z
          exact ⟨_ :: ps, (kk, _) :: kus, rfl, .cons (by rw [← key_rep s1 h1]; exact .inl (.inl e)) p1, .cons ⟨rfl, s2⟩ p2⟩
theorem merge_of {N M : List Addr} {H : Hp} {n : Nat} : ∀ {more : List (Key × V)} {moreA : List (Key × AV)} {us : List (Key × V)} {kvs : List (Key × AV)}, RKs n N M H more moreA → RKs n N M H us kvs → RKs n N M H (mergeK us more) (mergeA kvs moreA)
  | _, _, _, _, .nil, s => s
  | _, _, _, _, .cons (a := p) (b := q) r t, s => by
    show RKs n N M H (mergeK (putK _ p.1 p.2) _) (mergeA (putA _ q.1 q.2) _)
    rw [r.1]
    exact merge_of t (put_of q.1 s r.2)
def gDict : GL := fun ds m P => match ds with
  | [d] => (match itemsA d m with
    | some xs => (match pairsA xs with | some kvs => P (.mu m.length) (m ++ [.dk (mergeA [] kvs)]) | none => False)
    | none => False)
  | _ => False
theorem ca_dict (hc : X.calm = true) : CA X (.type "dict") gDict := by
  rintro pins s σ H vs us Q I r ⟨N, M, m, ds, P, R, r1, hg, q⟩
  unfold gDict at hg
  split at hg
  · obtain ⟨v, rfl, rv⟩ := val1 r1
    split at hg
    · rename_i xs e1
      split at hg
      · rename_i kvs e2
        obtain ⟨a, us', rfl, h1, h2⟩ := itemsA_of R rv e1
        obtain ⟨ps, kus, rfl, p1, p2⟩ := pairsA_of (K := X.K) h2 e2
        refine call_dictP hc pins s σ H _ us Q I r ⟨a, ps, kus, rfl, .inl (.inl h1), p1, fun p hp => ?_⟩
        have rk := merge_of p2 (.nil : RKs M.length N M H ([] : List (Key × V)) ([] : List (Key × AV)))
        have np := R.liveM.fresh hp
        have ex : Ext M H (M ++ [p]) (upd H p (.dK (mergeK [] kus))) := ⟨List.prefix_append _ _, Kp.new hp, fun a h1 h2 => by
          rcases List.mem_append.mp h1 with z | z
          · exact absurd z h2
          · rw [List.mem_singleton.mp z]; exact hp⟩
        obtain ⟨R', x'⟩ := R.grow (c := .dk (mergeA [] kvs)) hp ⟨_, upd_same, by rw [← R.len]; exact pair_imp (fun _ _ r => ⟨r.1, r.2.ext ex⟩) rk⟩
        exact q _ (.mu m.length) _ _ _ x' R' ⟨by rw [← R.len]; simp, p, last_mu R p, rfl⟩ hg
      · exact hg.elim
    · exact hg.elim
  · exact hg.elim
end
end Ab
end

section
set_option maxRecDepth 100000
set_option maxHeartbeats 4000000
/-! Readings over data: comprehensions whose turns make lists that stay. -/
namespace Ab
open PySem PySem.Spec PyProof.Rows L2 Gd
def turnK (vs : List Nat) (wg : WG) (wt : WT) (we : WE) (ρ : Slots) : AV → List AV → Store → (List AV → Store → Prop) → Prop := fun x acc m K => wg x (wipeS ρ vs) m fun ρ2 m2 => wt ρ2 m2 fun b m3 =>
  if b = true then we ρ2 m3 fun z m4 => acc.length < sizeLine ∧ K (acc ++ [z]) m4 else K acc m3
def wLcK (vs : List Nat) (wi : WI) (wg : WG) (wt : WT) (we : WE) : WE := fun ρ m P => wi ρ m fun xs G m1 => accI G (turnK vs wg wt we ρ) xs [] m1 fun ys m2 => P (.mu m2.length) (m2 ++ [.lst ys])
structure MidK (N M1 : List Addr) (H1 : Hp) (D : Addr) (σ : L2.St) (ρ : Slots) (M : List Addr) (H : Hp) (m : Store) (acc : List AV) : Prop where
  x : Ext M1 H1 M H
  nD : D ∉ M
  us : ∃ us, H D = some (.lst us) ∧ RVs M.length (D :: N) M H us acc
  sr : SR (D :: N) M H σ ρ
  rel : Rel (D :: N) M H m
theorem MidK.later {N M1 : List Addr} {H1 : Hp} {D : Addr} {σ σ' : L2.St} {ρ ρ' : Slots} {M M' : List Addr} {H H' : Hp} {m m' : Store} {acc : List AV} (q : MidK N M1 H1 D σ ρ M H m acc) (e : Ext M H M' H') (S : SR (D :: N) M' H' σ' ρ') (R : Rel (D :: N) M' H' m') : MidK N M1 H1 D σ' ρ' M' H' m' acc := by
  obtain ⟨us, h1, h2⟩ := q.us
  have nn : D ∉ M' := fun z => by have := e.new D z q.nD; rw [h1] at this; cases this
  exact ⟨q.x.trans e, nn, ⟨us, e.kp D _ q.nD h1, RVs.extL e h2⟩, S, R⟩
theorem MidK.push {N M1 : List Addr} {H1 : Hp} {D : Addr} {σ : L2.St} {ρ : Slots} {M : List Addr} {H : Hp} {m : Store} {acc : List AV} (q : MidK N M1 H1 D σ ρ M H m acc) (hD : H1 D = none) {v : V} {d : AV} (r : RV M.length (D :: N) M H v d) {us : List V} (hd : H D = some (.lst us)) :
    MidK N M1 H1 D σ ρ M (upd H D (.lst (us ++ [v]))) m (acc ++ [d]) := by
  obtain ⟨us', h1, h2⟩ := q.us
  rw [hd] at h1
  cases h1
  have hin : D ∈ D :: N := List.mem_cons_self
  refine ⟨⟨q.x.pre, fun b o nb hb => ?_, q.x.new⟩, q.nD, ⟨_, upd_same, pair_app (pair_imp (fun _ _ r => r.hid hin) h2) (.cons (r.hid hin) .nil)⟩, q.sr.hid hin, q.rel.hid hin q.nD⟩
  rw [upd_ne (fun z : b = D => by rw [z, hD] at hb; cases hb)]
  exact q.x.kp b o nb hb
theorem le_lcK {B : Bk} {wi : TI} {g : TG} {tt : TT} {te : TE} {vs : List Nat} {w : WI} {wg : WG} {wt : WT} {we : WE} (hi : LI B wi w) (hg : LG B g wg) (ho : Own g vs) (hgm : GMono g) (ht : LT B tt wt) (he : LE B te we) : LE B (tLc wi g tt te vs) (wLcK vs w wg wt we) := fun N M H σ ρ m P Q x0 S R h q => by
  refine hi N M H σ ρ m _ _ x0 S R h fun J xs G M1 H1 m1 x1 R1 wk h1 => fun D hD => ?_
  have S1 := S.ext x1
  have nDN : D ∉ N := fun z => by obtain ⟨o, e⟩ := R1.there D z; rw [hD] at e; cases e
  have old : ∀ b ∈ D :: N, b ∈ N ∨ H1 b = none := fun b hb => (List.mem_cons.mp hb).elim (fun z => .inr (by rw [z]; exact hD)) .inl
  refine ⟨fun i k H' => k = xs.length - i ∧ i ≤ xs.length ∧ ∃ M' m' acc, MidK N M1 H1 D σ ρ M' H' m' acc ∧ accI G (turnK vs wg wt we ρ) (xs.drop i) acc m' fun ys m2 => P (.mu m2.length) (m2 ++ [.lst ys]),
    ⟨_, rfl, Nat.zero_le _, M1, m1, [], ⟨.alloc hD, R1.liveM.fresh hD, ⟨[], upd_same, .nil⟩, S1.hide hD, R1.hide hD⟩, by simpa using h1⟩, ?_⟩
  rintro i k H' ⟨rfl, hi', M', m', acc, mid, h2⟩
  by_cases hlt : i < xs.length
  · rw [List.drop_eq_getElem_cons hlt] at h2
    obtain ⟨g0, h2⟩ := h2
    refine .inr ⟨wk.goes i (D :: N) M' H' m' hlt mid.x.toN mid.rel g0, fun H3 => ∃ M3 m3 acc3, MidK N M1 H1 D σ ρ M3 H3 m3 acc3 ∧ accI G (turnK vs wg wt we ρ) (xs.drop (i + 1)) acc3 m3 fun ys m2 => P (.mu m2.length) (m2 ++ [.lst ys]), ?_, ?_⟩
    · rintro H3 ⟨M3, m3, acc3, mid3, h3⟩
      exact ⟨xs.length - (i + 1), by omega, rfl, hlt, M3, m3, acc3, mid3, h3⟩
    · intro x H3 y
      obtain ⟨k3, rx⟩ := wk.yields i x xs[i] (D :: N) M' H' H3 m' (List.getElem?_eq_getElem hlt) (fun _ z => List.mem_cons_of_mem _ z) mid.x.toN old mid.rel g0 y
      obtain ⟨R3, x3⟩ := mid.rel.kept k3
      have mid3 := mid.later x3 (mid.sr.ext x3) R3
      have b0 : B.Ok (D :: N) M' H3 := ((x0.trans x1).trans mid3.x).hide D
      refine hgm _ _ _ _ _ (ho _ _ _ _ (hg (D :: N) M' H3 (wipe σ vs) (wipeS ρ vs) m' x _ _ (fun σ2 H2 => ∃ ρ2 M2 m2, Ext M' H3 M2 H2 ∧ SR (D :: N) M2 H2 σ2 ρ2 ∧ Rel (D :: N) M2 H2 m2 ∧ wt ρ2 m2 fun b m3 =>
          if b = true then we ρ2 m3 fun z m4 => acc.length < sizeLine ∧ accI G (turnK vs wg wt we ρ) (xs.drop (i + 1)) (acc ++ [z]) m4 fun ys m2 => P (.mu m2.length) (m2 ++ [.lst ys]) else accI G (turnK vs wg wt we ρ) (xs.drop (i + 1)) acc m3 fun ys m2 => P (.mu m2.length) (m2 ++ [.lst ys]))
          b0 (mid3.sr.wipe vs) R3 rx h2 fun M2 H2 σ2 ρ2 m2 x2 S2 R2 h => ⟨ρ2, M2, m2, x2, S2, R2, h⟩)) fun σ2 H2 ⟨e2, ρ2, M2, m2, x2, S2, R2, h4⟩ => ⟨e2.trans (wipe_wipe σ vs), ?_⟩
      refine ht (D :: N) M2 H2 σ2 ρ2 m2 _ _ (b0.trans x2) S2 R2 h4 fun b M5 H5 m5 x5 R5 h5 => ?_
      have mid5 := mid3.later (x2.trans x5) ((mid3.sr.ext x2).ext x5) R5
      cases b with
      | false => exact ⟨M5, m5, acc, mid5, h5⟩
      | true =>
        simp only [if_true] at h5 ⊢
        refine he (D :: N) M5 H5 σ2 ρ2 m5 _ _ ((b0.trans x2).trans x5) (S2.ext x5) R5 h5 fun v d M6 H6 m6 x6 R6 r6 h6 => ?_
        have mid6 := mid5.later x6 (mid5.sr.ext x6) R6
        obtain ⟨us, e1, e3⟩ := mid6.us
        exact ⟨us, e1, by rw [pair_len e3]; exact h6.1, M6, m6, acc ++ [d], mid6.push hD r6 e1, h6.2⟩
  · have e : i = xs.length := by omega
    subst e
    rw [List.drop_length] at h2
    obtain ⟨us, e1, e2⟩ := mid.us
    obtain ⟨a, b, c⟩ := unhide (c := .lst acc) mid.rel mid.nD (x1.trans mid.x) (x1.none (fun z => R1.liveM.fresh hD (x1.sub D z)) hD) ⟨us, e1, e2⟩
    exact .inl ⟨wk.stops (D :: N) M' H' m' mid.x.toN mid.rel h2.1, q _ (.mu m'.length) _ _ _ a b c h2.2⟩
section
variable {X : Cx} {B : Bk} {elt tg iter : Expr} {ifs : List Expr} {scope : Scope} {own : List (Str × Nat)} {pos spos : Pos} {wi : TI} {g : TG} {tt : TT} {te : TE} {w : WI} {wg : WG} {wt : WT} {we : WE}
theorem ae_lcK (hc : X.calm = true) (hN : X.N.Nodup) (hi : AI X B tg iter wi w) (ok : BlkOk X.N X.env.scope scope own)
    (hg : ∀ (s : Shared) (H : Hp) (C : Addr) (cl : List (Str × Addr)) (fp : List Addr), AG (X.blk s H scope (compEnvC scope cl C X.env) fp) B tg g wg) (ho : Own g (own.map (·.2))) (hgm : GMono g)
    (ht : ∀ (s : Shared) (H : Hp) (C : Addr) (cl : List (Str × Addr)) (fp : List Addr), ATs (X.blk s H scope (compEnvC scope cl C X.env) fp) B ifs tt wt)
    (he : ∀ (s : Shared) (H : Hp) (C : Addr) (cl : List (Str × Addr)) (fp : List Addr), AE (X.blk s H scope (compEnvC scope cl C X.env) fp) B elt te we) (hs : ∀ x, foldedSetIterable iter X.env x = pure x := by intro _; rfl) :
    AE X B (.ListComp elt [⟨tg, iter, ifs, 0⟩] scope pos) (tLc wi g tt te (own.map (·.2))) (wLcK (own.map (·.2)) w wg wt we) :=
  ⟨pe_lc hc hN hi.pi ok (fun s H C cl fp => (hg s H C cl fp).pg) (fun s H C cl fp => (ht s H C cl fp).pt) (fun s H C cl fp => (he s H C cl fp).pe) hs, le_lcK hi.li (hg X.s_0 X.H_0 X.env.locals [] []).lg ho hgm (ht X.s_0 X.H_0 X.env.locals [] []).lt (he X.s_0 X.H_0 X.env.locals [] []).le⟩
end
end Ab
end

section
set_option maxRecDepth 100000
set_option maxHeartbeats 4000000
/-! Readings over data: statements one by one, walks by an invariant. -/
namespace Ab
open PySem PySem.Spec PyProof.Rows L2 Gd
theorem wSeq_of {a b : WS} {F : Fin} {ρ : Slots} {m : Store} (h : ∀ N : Slots → Store → Prop, (∀ ρ m, b F ρ m → N ρ m) → a { F with nx := N } ρ m) : wSeq a b F ρ m := h _ fun _ _ z => z
theorem wFor_of {wi : WI} {wg : WG} {wb : WS} {F : Fin} {ρ : Slots} {m : Store} (h : ∀ B : AV → WS, (∀ x F ρ m, (wg x ρ m fun ρ2 m2 => wb F ρ2 m2) → B x F ρ m) → wi ρ m fun xs G m1 => forL m1.length G B F xs ρ m1) : wFor wi wg wb F ρ m := h _ fun _ _ _ _ z => z
/-- a comprehension by an invariant: Iv by what is left to walk and what is there -/
theorem lc_inv {n : Nat} {G : Store → Prop} {f : AV → Store → (Option AV → Store → Prop) → Prop} {P : List AV → Store → Prop} (Iv : List AV → List AV → Store → Prop) (hG : ∀ xs acc m, Iv xs acc m → G m)
    (hs : ∀ x r acc m (Kt : Option AV → Store → Prop), Iv (x :: r) acc m → (∀ y m', (∀ z, y = some z → z.und n = true) → Iv r (acc ++ y.toList) (m'.take n) → Kt y m') → f x m Kt) (hd : ∀ acc m, Iv [] acc m → P acc m) :
    ∀ {xs acc : List AV} {m : Store}, Iv xs acc m → lcL n G f xs m fun ys m2 => P (acc ++ ys) m2
  | [], acc, m, h => ⟨hG _ _ _ h, by show P (acc ++ []) m; rw [List.append_nil]; exact hd _ _ h⟩
  | x :: r, acc, m, h => ⟨hG _ _ _ h, hs x r acc m _ h fun y m' hu q => ⟨hu, by
      have := lc_inv Iv hG hs hd q
      have e : (fun ys m2 => P (acc ++ y.toList ++ ys) m2) = fun ys m2 => P (acc ++ match y with | some z => z :: ys | none => ys) m2 := by
        funext ys m2
        cases y <;> simp
      rw [e] at this
      exact this⟩⟩
theorem acc_inv {G : Store → Prop} {f : AV → List AV → Store → (List AV → Store → Prop) → Prop} {P : List AV → Store → Prop} (Iv : List AV → List AV → Store → Prop) (hG : ∀ xs acc m, Iv xs acc m → G m)
    (hs : ∀ x r acc m (Kt : List AV → Store → Prop), Iv (x :: r) acc m → (∀ acc' m', Iv r acc' m' → Kt acc' m') → f x acc m Kt) (hd : ∀ acc m, Iv [] acc m → P acc m) :
    ∀ {xs acc : List AV} {m : Store}, Iv xs acc m → accI G f xs acc m P
  | [], _, _, h => ⟨hG _ _ _ h, hd _ _ h⟩
  | x :: r, acc, m, h => ⟨hG _ _ _ h, hs x r acc m _ h fun _ _ q => acc_inv Iv hG hs hd q⟩
theorem val3 {xs : List V} {d e f : AV} {n : Nat} {N M : List Addr} {H : Hp} (r : RVs n N M H xs [d, e, f]) : ∃ v w u, xs = [v, w, u] ∧ RV n N M H v d ∧ RV n N M H w e ∧ RV n N M H u f := by
  cases r with
  | cons r1 r => cases r with
    | cons r2 r => cases r with
      | cons r3 r => cases r; exact ⟨_, _, _, rfl, r1, r2, r3⟩
theorem takeSet {α : Type} (m : List α) (i : Nat) (c : α) : (m.set i c).take m.length = m.set i c := List.take_of_length_le (Nat.le_of_eq (List.length_set ..))
theorem takeSet2 {α : Type} (m l : List α) (i : Nat) (c : α) : (m.set i c ++ l).take m.length = m.set i c := by rw [List.take_append_of_le_length (by simp), takeSet]
theorem setApp {α : Type} {m l : List α} {i : Nat} {c : α} (h : i < m.length) : (m ++ l).set i c = m.set i c ++ l := List.set_append_left _ _ h
theorem setEnd {α : Type} {m l : List α} {n : Nat} {c : α} (h : n = m.length) (a : α) : (m ++ a :: l).set n c = m ++ c :: l := by subst h; simp [List.set_append_right]
theorem getEnd {α : Type} {m l : List α} {n : Nat} (h : n = m.length) (a : α) : (m ++ a :: l)[n]? = some a := by subst h; simp
theorem getApp {α : Type} {m l : List α} {i : Nat} (h : i < m.length) : (m ++ l)[i]? = m[i]? := List.getElem?_append_left h
theorem getSet {α : Type} {m : List α} {i : Nat} {c : α} (h : i < m.length) : (m.set i c)[i]? = some c := List.getElem?_set_self h
theorem setSame {α : Type} {m : List α} {i : Nat} {c : α} (h : m[i]? = some c) : m.set i c = m := by
  obtain ⟨h1, h2⟩ := List.getElem?_eq_some_iff.mp h
  subst h2
  exact List.set_getElem_self h1
def keepO (n : Nat) (o : Option AV) : Option AV := match o with
  | some d => if d.und n then some d else none
  | none => none
theorem keepS_nil {n : Nat} : keepS n [] = [] := rfl
theorem keepS_cons {n : Nat} {o : Option AV} {ρ : Slots} : keepS n (o :: ρ) = keepO n o :: keepS n ρ := rfl
theorem keepO_none {n : Nat} : keepO n none = none := rfl
theorem keepO_im {n : Nat} {d : PyData} : keepO n (some (.im d)) = some (.im d) := rfl
theorem keepO_wl {n : Nat} {d : List PyData} : keepO n (some (.wl d)) = some (.wl d) := rfl
theorem keepO_mu {n i : Nat} (h : i < n) : keepO n (some (.mu i)) = some (.mu i) := by simp [keepO, AV.und, h]
theorem keepO_mu2 {n i : Nat} (h : ¬ i < n) : keepO n (some (.mu i)) = none := by simp [keepO, AV.und, h]
/-- a name that has no list that may change -/
abbrev Loose (o : Option AV) : Prop := ∀ n, keepO n o = o
theorem Loose.non : Loose none := fun _ => rfl
theorem Loose.im {d : PyData} : Loose (some (.im d)) := fun _ => rfl
theorem Loose.wl {d : List PyData} : Loose (some (.wl d)) := fun _ => rfl
end Ab
end

section
set_option maxRecDepth 100000
set_option maxHeartbeats 4000000
/-! Networks as data. -/
namespace Ab
open PySem PySem.Spec PyProof.Rows L2 Gd
abbrev prD (p : Str × Str) : PyData := .tuple [.str p.1, .str p.2]
abbrev netD (ss : List Str) (ts : List (Str × Str)) : PyData := .tuple [.tuple (ss.map .str), .tuple (ts.map prD)]
/-- a text of signs that are signs -/
abbrev okS (x : Str) : Prop := PyData.strOk x = true
structure NetOk (ss : List Str) (ts : List (Str × Str)) : Prop where
  s : ∀ s ∈ ss, okS s
  t : ∀ t ∈ ts, okS t.1 ∧ okS t.2
  ls : ss.length ≤ 1000
  lt : ts.length ≤ 1000
  nd : ss.Nodup
def talk (ts : List (Str × Str)) (a b : Str) : Bool := decide ((a, b) ∈ ts) || decide ((b, a) ∈ ts)
theorem eqv_str (x y : Str) : PyData.eqv (.str x) (.str y) = decide (x = y) := by
  simp only [PyData.eqv]
  by_cases h : x = y <;> simp [h]
theorem eqv_pr (p : Str × Str) (a b : Str) : PyData.eqv (prD p) (.tuple [.str a, .str b]) = decide (p = (a, b)) := by
  simp only [prD, PyData.eqv, PyData.eqvAll, Bool.and_true]
  obtain ⟨x, y⟩ := p
  by_cases h1 : x = a <;> by_cases h2 : y = b <;> simp [h1, h2]
theorem any_pr (ts : List (Str × Str)) (a b : Str) : ((ts.map prD).any fun y => PyData.eqv y (.tuple [.str a, .str b])) = decide ((a, b) ∈ ts) := by
  induction ts with
  | nil => rfl
  | cons p r ih =>
    rw [List.map_cons, List.any_cons, ih, eqv_pr]
    by_cases h : p = (a, b)
    · simp [h]
    · have h' : (a, b) ≠ p := fun z => h z.symm
      simp [h, h']
theorem lay_prs {ts : List (Str × Str)} (h : ∀ t ∈ ts, okS t.1 ∧ okS t.2) : PyData.canLayAll0 (ts.map prD) = true := by
  induction ts with
  | nil => rfl
  | cons p r ih =>
    rw [List.map_cons]
    simp only [PyData.canLayAll0, Bool.and_eq_true]
    have := h p List.mem_cons_self
    refine ⟨?_, ih fun t ht => h t (List.mem_cons_of_mem _ ht)⟩
    simp only [prD, PyData.canLay0, PyData.canLayAll0, Bool.and_true, Bool.and_eq_true]
    exact ⟨this.1, this.2⟩
theorem look_pr {a b : Str} (ha : okS a) (hb : okS b) : Look (.tuple [.str a, .str b]) := by
  refine ⟨?_, by simp [PyData.depth, PyData.depthAll]⟩
  simp only [PyData.canLay0, PyData.canLayAll0, Bool.and_true, Bool.and_eq_true]
  exact ⟨ha, hb⟩
/-- what a def that changes nothing gives for data -/
abbrev aPure (F : List PyData → PyData → Prop) : ASp := fun ds m P _ => ∃ xs d, ds = xs.map .im ∧ F xs d ∧ P (.im d) m
end Ab
end

section
set_option maxRecDepth 100000
set_option maxHeartbeats 4000000
/-! Texts in order. -/
namespace Ab
open PySem PySem.Spec PyProof.Rows L2 Gd
def sLt (x y : Str) : Prop := x.cps.toList < y.cps.toList
abbrev Asc (ss : List Str) : Prop := ss.Pairwise sLt
theorem sLt.ne {x y : Str} (h : sLt x y) : x ≠ y := fun e => by subst e; exact List.lt_irrefl _ h
theorem sLt.tr {x y z : Str} (h : sLt x y) (g : sLt y z) : sLt x z := List.lt_trans h g
theorem sLt.tot {x y : Str} (h : ¬ sLt x y) (n : x ≠ y) : sLt y x := by
  rcases Std.lt_trichotomy x.cps.toList y.cps.toList with z | z | z
  · exact absurd z h
  · exact absurd (by cases x; cases y; simp only [Str.mk.injEq]; exact Array.toList_inj.mp z) n
  · exact z
theorem Asc.nodup {ss : List Str} (h : Asc ss) : ss.Nodup := h.imp fun z => z.ne
def ordS (a b : Str) : Bool := !decide (b.cps.toList < a.cps.toList)
theorem sort_strs (ss : List Str) : sortD (ss.map .str) = (ss.mergeSort ordS).map .str := by
  unfold sortD
  symm
  exact List.map_mergeSort fun a _ b _ => by
    show _ = !(W.dataLt (.str b) (.str a))
    rw [W.dataLt_str]; rfl
theorem asc_sort {ss : List Str} (nd : ss.Nodup) : Asc (ss.mergeSort ordS) := by
  have h := List.pairwise_mergeSort (le := ordS) (fun a b c h1 h2 => by
    simp only [ordS, Bool.not_eq_true', decide_eq_false_iff_not] at *
    intro h
    by_cases e : b.cps.toList < a.cps.toList
    · exact h1 e
    · by_cases e2 : c.cps.toList < b.cps.toList
      · exact h2 e2
      · rcases Std.lt_trichotomy a.cps.toList b.cps.toList with z | z | z
        · exact h2 (List.lt_trans h z)
        · rw [z] at h; exact h2 h
        · exact h1 z) (fun a b => by
    simp only [ordS, Bool.or_eq_true, Bool.not_eq_true', decide_eq_false_iff_not]
    by_cases e : b.cps.toList < a.cps.toList
    · exact .inr (List.lt_asymm e)
    · exact .inl e) ss
  have n2 : (ss.mergeSort ordS).Nodup := (List.mergeSort_perm _ _).nodup_iff.mpr nd
  have := h.and n2
  exact this.imp fun {a b} z => by
    have h1 := z.1
    simp only [ordS, Bool.not_eq_true', decide_eq_false_iff_not] at h1
    exact (show sLt a b from sLt.tot (x := b) (y := a) h1 (fun e => z.2 e.symm))
theorem alike_strs (ss : List Str) : W.AllAlike (ss.map .str) := W.AllAlike.of fun _ _ => by simp [W.alike]
theorem sortable_strs (ss : List Str) : W.Sortable (ss.map .str) := W.Sortable.others fun _ => ⟨by simp, by simp⟩
theorem shallow_strs (ss : List Str) : ∀ x ∈ ss.map PyData.str, x.depth ≤ 60 := fun x h => by
  obtain ⟨y, _, rfl⟩ := List.mem_map.mp h
  simp [PyData.depth]
theorem lay_strs {ss : List Str} (h : ∀ s ∈ ss, okS s) : PyData.canLayAll0 (ss.map .str) = true := by
  induction ss with
  | nil => rfl
  | cons p r ih =>
    rw [List.map_cons]
    simp only [PyData.canLayAll0, Bool.and_eq_true]
    exact ⟨by simp only [PyData.canLay0]; exact h p List.mem_cons_self, ih fun t ht => h t (List.mem_cons_of_mem _ ht)⟩
theorem any_str (ss : List Str) (a : Str) : ((ss.map PyData.str).any fun y => PyData.eqv y (.str a)) = decide (a ∈ ss) := by
  induction ss with
  | nil => rfl
  | cons p r ih =>
    rw [List.map_cons, List.any_cons, ih, eqv_str]
    by_cases h : p = a
    · simp [h]
    · have h' : a ≠ p := fun z => h z.symm
      simp [h, h']
theorem look_str {a : Str} (ha : okS a) : Look (.str a) := ⟨by simp only [PyData.canLay0]; exact ha, by simp [PyData.depth]⟩
theorem okS_app {x y : Str} (hx : okS x) (hy : okS y) : okS (x ++ y) := by
  show PyData.strOk (x ++ y) = true
  have e : (x ++ y).cps = x.cps ++ y.cps := rfl
  unfold okS PyData.strOk at *
  rw [e, Array.all_append, hx, hy]; rfl
/-- a name as the laws draw it -/
structure Nm (s : Str) : Prop where
  ok : okS s
  plain : ∀ c ∈ s.cps.toList, c < 128
  len : s.length ≤ 20
/-- a network as the laws draw it -/
structure NetV (ss : List Str) (ts : List (Str × Str)) : Prop where
  s : ∀ s ∈ ss, Nm s
  ls : ss.length ≤ 26
  asc : Asc ss
  lt : ts.length ≤ 40
  t : ∀ t ∈ ts, t.1 ∈ ss ∧ t.2 ∈ ss ∧ sLt t.1 t.2
theorem NetV.ok {ss : List Str} {ts : List (Str × Str)} (h : NetV ss ts) : NetOk ss ts := ⟨fun s hs => (h.s s hs).ok, fun t ht => ⟨(h.s _ (h.t t ht).1).ok, (h.s _ (h.t t ht).2.1).ok⟩, by have := h.ls; omega, by have := h.lt; omega, h.asc.nodup⟩
/-! ### how large they are -/
theorem wts_le {b : Nat} : ∀ {xs : List PyData}, (∀ x ∈ xs, wt x ≤ b) → wts xs ≤ xs.length * (b + 1)
  | [], _ => by simp [wts]
  | x :: r, h => by
    have h1 := h x List.mem_cons_self
    have h2 := wts_le (xs := r) fun y hy => h y (List.mem_cons_of_mem _ hy)
    rw [wts, List.length_cons, Nat.add_mul]
    omega
theorem depths_le {b : Nat} : ∀ {xs : List PyData}, (∀ x ∈ xs, x.depth ≤ b) → PyData.depthAll xs ≤ b
  | [], _ => by simp [PyData.depthAll]
  | x :: r, h => by
    have h1 := h x List.mem_cons_self
    have h2 := depths_le (xs := r) fun y hy => h y (List.mem_cons_of_mem _ hy)
    simp only [PyData.depthAll]
    omega
theorem big400 : 10 ^ 40 < 2 ^ 400 := by decide +kernel
/-- what repr asks of data -/
theorem repr_ok {d : PyData} {W : Nat} (g : good (10 ^ 40) d) (hw : wt d ≤ W) (hW : W ≤ 1000000) (hd : d.depth ≤ 100) : d.showable = true ∧ d.depth ≤ 100 ∧ d.shown.length ≤ sizeLine := by
  have h := shown_le big400 g
  exact ⟨good.showable big400 g, hd, by rw [sizeLine_eq]; omega⟩
theorem good_strs {ss : List Str} (h : ∀ s ∈ ss, Nm s) : goods (10 ^ 40) (ss.map .str) := goods_iff.mpr fun x hx => by
  obtain ⟨s, hs, rfl⟩ := List.mem_map.mp hx
  exact (h s hs).plain
theorem wt_strs {ss : List Str} (h : ∀ s ∈ ss, Nm s) : wts (ss.map .str) ≤ ss.length * 22 := by
  have := wts_le (b := 21) (xs := ss.map .str) fun x hx => by
    obtain ⟨s, hs, rfl⟩ := List.mem_map.mp hx
    have := (h s hs).len
    simp only [wt]; omega
  simpa using this
theorem NetV.repr {ss : List Str} {ts : List (Str × Str)} (h : NetV ss ts) : (netD ss ts).showable = true ∧ (netD ss ts).depth ≤ 100 ∧ (netD ss ts).shown.length ≤ sizeLine := by
  have ht : ∀ t ∈ ts, Nm t.1 ∧ Nm t.2 := fun t ht => ⟨h.s _ (h.t t ht).1, h.s _ (h.t t ht).2.1⟩
  have h1 := wt_strs h.s
  have h2 := wts_le (b := 50) (xs := ts.map prD) fun x hx => by
    obtain ⟨t, ht', rfl⟩ := List.mem_map.mp hx
    have a := (ht t ht').1.len
    have b := (ht t ht').2.len
    simp only [wt, wts]; omega
  have l1 := h.ls
  have l2 := h.lt
  rw [List.length_map] at h2
  refine repr_ok (W := 10000) ⟨good_strs h.s, ?_, trivial⟩ ?_ (by decide) ?_
  · exact goods_iff.mpr fun x hx => by
      obtain ⟨t, ht', rfl⟩ := List.mem_map.mp hx
      exact ⟨(ht t ht').1.plain, (ht t ht').2.plain, trivial⟩
  · simp only [wt, wts]; omega
  · have d1 : PyData.depthAll (ss.map .str) ≤ 1 := depths_le fun x hx => by
      obtain ⟨s, _, rfl⟩ := List.mem_map.mp hx
      simp [PyData.depth]
    have d2 : PyData.depthAll (ts.map prD) ≤ 2 := depths_le fun x hx => by
      obtain ⟨t, _, rfl⟩ := List.mem_map.mp hx
      simp [PyData.depth, PyData.depthAll]
    simp only [PyData.depth, PyData.depthAll]; omega
end Ab
end

section
set_option maxRecDepth 100000
set_option maxHeartbeats 4000000
/-! Dicts by service. -/
namespace Ab
open PySem PySem.Spec PyProof.Rows L2 Gd
theorem look_map {ss : List Str} {f : Str → AV} {a : Str} (h : a ∈ ss) : lookA (ss.map fun a => ((.inr a : Key), f a)) (.inr a) = some (f a) := by
  induction ss with
  | nil => cases h
  | cons b r ih =>
    by_cases e : b = a
    · subst e; simp [lookA]
    · have e2 : ¬ (Sum.inr b : Key) = Sum.inr a := fun z => e (Sum.inr.inj z)
      have := ih ((List.mem_cons.mp h).resolve_left fun z => e z.symm)
      simpa [lookA, List.find?_cons, e2, e] using this
theorem get_idx {α : Type} {ss : List Str} {G : Str → α} {a : Str} (h : a ∈ ss) : (ss.map G)[ss.idxOf a]? = some (G a) := by
  rw [List.getElem?_map, List.getElem?_eq_getElem (List.idxOf_lt_length_of_mem h), List.getElem_idxOf]; rfl
theorem set_idx {α : Type} {ss : List Str} {G : Str → α} {a : Str} (nd : ss.Nodup) (c : α) : (ss.map G).set (ss.idxOf a) c = ss.map fun b => if b = a then c else G b := by
  induction ss with
  | nil => rfl
  | cons b r ih =>
    have n2 := List.nodup_cons.mp nd
    by_cases e : b = a
    · subst e
      rw [List.idxOf_cons_self, List.map_cons, List.set_cons_zero, List.map_cons, if_pos rfl]
      congr 1
      refine List.map_congr_left fun x hx => ?_
      rw [if_neg (fun z : x = b => n2.1 (z ▸ hx))]
    · rw [List.idxOf_cons, show (b == a) = false by simpa using e, cond_false, List.map_cons, List.set_cons_succ, ih n2.2, List.map_cons, if_neg e]
theorem merge_new {kvs more : List (Key × AV)} (h : ((kvs ++ more).map (·.1)).Nodup) : mergeA kvs more = kvs ++ more := by
  induction more generalizing kvs with
  | nil => simp [mergeA]
  | cons p r ih =>
    have nk : p.1 ∉ kvs.map (·.1) := by
      rw [List.map_append, List.map_cons] at h
      exact fun z => (List.nodup_append.mp h).2.2 _ z _ List.mem_cons_self rfl
    show mergeA (putA kvs p.1 p.2) r = _
    rw [putA_new nk, ih (by simpa using h)]
    simp
theorem merge_map {ss : List Str} {f : Str → AV} (nd : ss.Nodup) : mergeA [] (ss.map fun a => ((.inr a : Key), f a)) = ss.map fun a => ((.inr a : Key), f a) := by
  rw [merge_new, List.nil_append]
  rw [List.nil_append, List.map_map]
  exact nodup_map (fun _ _ h => Sum.inr.inj h) nd
theorem pairs_map {f : Str → AV} : ∀ ss : List Str, pairsA (ss.map fun a => .pr (.im (.str a)) (f a)) = some (ss.map fun a => ((.inr a : Key), f a))
  | [] => rfl
  | a :: r => by rw [List.map_cons, pairsA, pairs_map r]; rfl
/-- the services that talk with a, in the order of the talks -/
def nbrs (ts : List (Str × Str)) (a : Str) : List Str := ts.flatMap fun t => if t.1 = a then [t.2] else if t.2 = a then [t.1] else []
theorem mem_nbrs {ts : List (Str × Str)} {a b : Str} (h : ∀ t ∈ ts, t.1 ≠ t.2) : b ∈ nbrs ts a ↔ talk ts a b = true := by
  unfold nbrs talk
  rw [List.mem_flatMap, Bool.or_eq_true, decide_eq_true_eq, decide_eq_true_eq]
  constructor
  · rintro ⟨⟨x, y⟩, ht, hb⟩
    simp only at hb
    split at hb
    · rename_i e; subst e; rw [List.mem_singleton.mp hb]; exact .inl ht
    · split at hb
      · rename_i e; subst e; rw [List.mem_singleton.mp hb]; exact .inr ht
      · cases hb
  · rintro (h1 | h1)
    · exact ⟨_, h1, by simp⟩
    · refine ⟨_, h1, ?_⟩
      have := h _ h1
      simp [this]
theorem nbrs_snoc (ts : List (Str × Str)) (t : Str × Str) (a : Str) : nbrs (ts ++ [t]) a = nbrs ts a ++ (if t.1 = a then [t.2] else if t.2 = a then [t.1] else []) := by
  simp [nbrs, List.flatMap_append]
theorem nbrs_len (ts : List (Str × Str)) (a : Str) : (nbrs ts a).length ≤ ts.length := by
  induction ts with
  | nil => simp [nbrs]
  | cons t r ih =>
    have e : nbrs (t :: r) a = (if t.1 = a then [t.2] else if t.2 = a then [t.1] else []) ++ nbrs r a := by simp [nbrs]
    have h : (if t.1 = a then [t.2] else if t.2 = a then [t.1] else []).length ≤ 1 := by
      split
      · exact Nat.le_refl _
      · split <;> simp
    rw [e, List.length_append, List.length_cons]
    omega
theorem nb_get {m rest : Store} {ss : List Str} {G : Str → Cell} {a : Str} (h : a ∈ ss) : (m ++ (ss.map G ++ rest))[m.length + ss.idxOf a]? = some (G a) := by
  rw [List.getElem?_append_right (by omega), Nat.add_sub_cancel_left, List.getElem?_append_left (by simpa using List.idxOf_lt_length_of_mem h), get_idx h]
theorem nb_set {m rest : Store} {ss : List Str} {G : Str → Cell} {a : Str} (h : a ∈ ss) (nd : ss.Nodup) (c : Cell) : (m ++ (ss.map G ++ rest)).set (m.length + ss.idxOf a) c = m ++ ((ss.map fun b => if b = a then c else G b) ++ rest) := by
  rw [List.set_append_right _ _ (by omega), Nat.add_sub_cancel_left, List.set_append_left _ _ (by simpa using List.idxOf_lt_length_of_mem h), set_idx nd]
theorem idx_mid {d r : List Str} {a : Str} (nd : (d ++ a :: r).Nodup) : (d ++ a :: r).idxOf a = d.length := by
  have h : a ∉ d := fun z => (List.nodup_append.mp nd).2.2 _ z _ List.mem_cons_self rfl
  rw [List.idxOf_append, if_neg h, List.idxOf_cons_self, Nat.zero_add]
end Ab
end

section
set_option maxRecDepth 100000
set_option maxHeartbeats 4000000
/-! Readings over data: what is never reached; sorted(set(..)). -/
namespace Ab
open PySem PySem.Spec PyProof.Rows L2 Gd
section
variable {X : Cx} {B : Bk}
/-- a statement that is never reached -/
theorem s_dead {st : Stmt} : AS X B st (fun _ _ _ => False) (fun _ _ _ => False) := ⟨⟨fun _ _ _ _ _ _ h => h.elim⟩, fun _ _ _ _ _ _ _ _ _ _ _ h _ => h.elim⟩
variable {e : Expr} {tl : TA} {wl : WL} {K : PySem.W.Frag} {w : World} {p p2 pos pos2 : Pos}
theorem reps_ints {M : List Addr} {H : Hp} : ∀ ns : List Int, Reps M H (ns.map V.int) (ns.map .int)
  | [] => .nil
  | n :: r => .cons (.int _) (reps_ints r)
theorem ints_of {M : List Addr} {H : Hp} : ∀ {us : List V} {ns : List Int}, Reps M H us (ns.map .int) → us = ns.map V.int
  | _, [], .nil => rfl
  | _, n :: r, .cons (.int _) t => by rw [ints_of t]; rfl
/-- the whole numbers of a list, each once, ascending -/
def gSortSet : GL := fun ds m P => match ds with
  | [d] => (match asL d m with
    | some xs => ∃ ns : List Int, xs = ns.map .int ∧ ns.length < 64 ∧ ∀ ms : List Int, ms.Pairwise (· < ·) → (∀ k, k ∈ ms ↔ k ∈ ns) → ms.length ≤ ns.length → P (.wl (ms.map .int)) m
    | none => False)
  | _ => False
theorem ae_sortSet (hK : X.K = K) (hw : X.w = w) (hc : X.calm = true) (hg : Gl X "sorted") (hm : X.mg "sorted" = none) (hg2 : Gl X "set") (hm2 : X.mg "set" = none) (ha : AL X B [e] tl wl)
    (he2 : starEach [e] X.env = (false, eval e X.env) :: starEach [] X.env := by rfl) (hpl2 : (backTo pos2 (starEach [] X.env)).any (·.1) = false := by rfl)
    (he : starEach [.Call (.Name "set" p2) [e] [] pos2] X.env = (false, eval (.Call (.Name "set" p2) [e] [] pos2) X.env) :: starEach [] X.env := by rfl) (hpl : (backTo pos (starEach [] X.env)).any (·.1) = false := by rfl) :
    AE X B (.Call (.Name "sorted" p) [.Call (.Name "set" p2) [e] [] pos2] [] pos) (tCB (rSortedSet w) (tCons (tCB (rSetI K w) tl) tNil)) (wCB gSortSet wl) :=
  ⟨pe_callB (hw ▸ cr_sortedSet hc) hg hm (by decide +kernel) (pa_cons (pe_callTy (cr_setI hK hw hc) hg2 hm2 (by decide +kernel) ha.pa (by decide) (by decide) he2 hpl2) pa_nil) (by decide) (by decide) he hpl,
   fun N M H σ ρ m P Q x0 S R hw' q => ha.la N M H σ ρ m _ _ x0 S R hw' fun vs ds M1 H1 m1 x1 R1 r1 h1 => by
    unfold gSortSet at h1
    split at h1
    · obtain ⟨v, rfl, rv⟩ := val1 r1
      split at h1
      · rename_i xs ex
        obtain ⟨ns, rfl, few, h1⟩ := h1
        obtain ⟨a, us, rfl, ha', z⟩ := asL_of R1 rv ex
        rw [ints_of z] at ha'
        refine ⟨a, ns, rfl, .inl (.inl ha'), by omega, fun p c hp hc' => ⟨p, _, c, rfl, upd_same, by omega, fun ms p2 pw mem len hp2 => ?_⟩⟩
        have R2 := R1.alloc (o := SetO w p (fun j => decide (j ∈ ns)) c) hp
        obtain ⟨x', R', r'⟩ := new_wl R2 hp2 (reps_ints ms)
        exact q _ _ M1 _ m1 (x1.trans ((Ext.alloc hp).trans x')) R' r' (h1 ms pw (fun k => (mem k).trans (by simp)) (by omega))
      · exact h1.elim
    · exact h1.elim⟩
end
end Ab
end

section
set_option maxRecDepth 100000
set_option maxHeartbeats 4000000
/-! Catalogs as data. -/
namespace Ab
open PySem PySem.Spec PyProof.Rows L2 Gd
abbrev rowD (r : Str × List Int) : PyData := .tuple [.str r.1, .tuple (r.2.map .int)]
abbrev catD (rows : List (Str × List Int)) : PyData := .tuple (rows.map rowD)
structure RowV (r : Str × List Int) : Prop where
  nm : Nm r.1
  asc : r.2.Pairwise (· < ·)
  ne : r.2 ≠ []
  len : r.2.length ≤ 3
  bd : ∀ v ∈ r.2, 0 ≤ v ∧ v < 1000000000
structure CatV (rows : List (Str × List Int)) : Prop where
  r : ∀ r ∈ rows, RowV r
  asc : Asc (rows.map (·.1))
  len : rows.length ≤ 26
end Ab
end

section
set_option maxRecDepth 100000
set_option maxHeartbeats 4000000
/-! zip over two iterators of any kind, its tuples kept by who asks. -/
namespace Zk
open PySem PySem.Calls
section
variable {pr : Program} {w : World} {A : Around} {E : Value → Shared → Prop} {s : Shared} {z a b u v T : Addr} {f1 f2 : List Addr} {m n j : Nat} {P R : Nat → Value → Prop} {S1 S2 : Nat → Heap → Prop} {f : Bool} {oT : Obj}
theorem held_item {Q : Value → Shared → Prop} (S : ZipSep2 z a b u v f1 f2) (D : Draws pr w A u f1 m P S1) (G : Draws pr w A v f2 n R S2) (zz : IsZipHeld s.heap z a b T f) (tt : s.heap.get? T = some oT) (aa : IsTupOf2 s.heap a (.ref u) (.ref v)) (s1 : S1 j s.heap) (s2 : S2 j s.heap) (l1 : j < m) (l2 : j < n)
    (q : ∀ x y h' tk, P j x → R j y → IsZipHeld h' z a b T true → S1 (j + 1) h' → S2 (j + 1) h' → IsTupOf2 h' s.heap.objs.size x y → h'.objs.size = s.heap.objs.size + 1 → (∀ c o, c ≠ z → c ≠ u → c ≠ v → s.heap.get? c = some o → h'.get? c = some o) → Q (.ref s.heap.objs.size) { s with heap := h', toks := tk }) :
    wpAny (model pr w) A (Builtin.«zip.__next__» ⟨[.ref z], []⟩) (fun fin s' => ∃ r, fin = .done (.ret r) ∧ Q r s') E s := by
  obtain ⟨h0, g0, d0, k0, os0⟩ := s
  show wpAny _ _ (field (.ref z) 2 >>= _) _ _ _
  refine wpAny_bind (wpAny_field zz rfl (x := .bool false) rfl ?_)
  show wpAny _ _ (field (.ref z) 3 >>= _) _ _ _
  refine wpAny_bind (wpAny_field zz rfl (x := .ref a) rfl ?_)
  refine wpAny_bind (wpAny_seqItems aa rfl ?_)
  show wpAny _ _ (Builtin.SmallTypes.ownedTupleIsFree (.ref z) >>= _) _ _ _
  refine wpAny_bind (wpAny_tupleHeld_zip zz tt fun h1 z1 e1 => ?_)
  simp only [if_false, Bool.false_eq_true]
  refine wpAny_bind ?_
  rw [← Array.forIn_toList]
  simp only [List.forIn_nil, List.forIn_cons]
  refine wpAny_bind (wpAny_bind (wpAny_holding ?_))
  show wpAny _ _ (Builtin.SmallTypes.nextOf (.ref u) >>= _) _ _ ⟨h1, g0, d0, k0, os0⟩
  refine wpAny_bind (D.item j _ _ _ l1 (D.over s1 e1 S.zf1) fun x h2 k2 px t1 e2 => wpAny_pure ?_)
  refine wpAny_pure ?_
  refine wpAny_bind (wpAny_bind (wpAny_holding ?_))
  show wpAny _ _ (Builtin.SmallTypes.nextOf (.ref v) >>= _) _ _ ⟨h2, g0, d0, k2, os0⟩
  refine wpAny_bind (G.item j _ _ _ l2 (G.over (G.over s2 e1 S.zf2) e2 S.sep1_2) fun y h3 k3 py t2 e3 => wpAny_pure ?_)
  refine wpAny_pure (wpAny_pure ?_)
  replace e1 : Heap.SameBut z h0 h1 := e1
  replace e2 : Heap.SameBut u h1 h2 := e2
  replace e3 : Heap.SameBut v h2 h3 := e3
  show wpAny _ _ (newTuple [x, y] >>= _) _ _ _
  refine wpAny_bind (wpAny_newTuple ?_)
  have sz : h3.objs.size = h0.objs.size := by rw [e3.1, e2.1, e1.1]
  have z3 : IsZipHeld h3 z a b T true := e3.extBut _ _ S.zi2 (e2.extBut _ _ S.zi1 z1)
  have kk : ∀ c o, c ≠ z → c ≠ u → c ≠ v → h0.get? c = some o → h3.get? c = some o := fun c o c1 c2 c3 e => e3.extBut _ _ c3 (e2.extBut _ _ c2 (e1.extBut _ _ c1 e))
  have t1' := D.over t1 e3 S.sep2_1
  refine wpAny_pure ⟨_, rfl, ?_⟩
  show Q (.ref h3.objs.size) _
  have new : IsTupOf2 (h3.push { cls := .type "tuple", data := .seq #[x, y] }) h3.objs.size x y := Heap.get?_push_size _ rfl
  have sz2 : (h3.push { cls := .type "tuple", data := .seq #[x, y] }).objs.size = h3.objs.size + 1 := Heap.size_push ..
  rw [sz] at new sz2 ⊢
  exact q x y _ k3 px py (Heap.get?_push_of_some _ z3) (D.frame _ _ _ t1' fun c _ o e => Heap.get?_push_of_some _ e) (G.frame _ _ _ t2 fun c _ o e => Heap.get?_push_of_some _ e) new sz2 fun c o c1 c2 c3 e => Heap.get?_push_of_some _ (kk c o c1 c2 c3 e)
theorem held_end {Q : Fin → Shared → Prop} (S : ZipSep2 z a b u v f1 f2) (D : Draws pr w A u f1 m P S1) (G : Draws pr w A v f2 n R S2) (zz : IsZipHeld s.heap z a b T f) (tt : s.heap.get? T = some oT) (aa : IsTupOf2 s.heap a (.ref u) (.ref v)) (s1 : S1 j s.heap) (s2 : S2 j s.heap) (l1 : j ≤ m) (l2 : j ≤ n) (le : j = m ∨ j = n)
    (q : ∀ h' tk e, (∀ c o, c ≠ z → c ≠ u → c ≠ v → s.heap.get? c = some o → h'.get? c = some o) → (∃ o, h'.get? e = some o ∧ o.cls = .type "StopIteration") → E (.ref e) { s with heap := h', toks := tk }) :
    wpAny (model pr w) A (Builtin.«zip.__next__» ⟨[.ref z], []⟩) Q E s := by
  obtain ⟨h0, g0, d0, k0, os0⟩ := s
  show wpAny _ _ (field (.ref z) 2 >>= _) _ _ _
  refine wpAny_bind (wpAny_field zz rfl (x := .bool false) rfl ?_)
  show wpAny _ _ (field (.ref z) 3 >>= _) _ _ _
  refine wpAny_bind (wpAny_field zz rfl (x := .ref a) rfl ?_)
  refine wpAny_bind (wpAny_seqItems aa rfl ?_)
  show wpAny _ _ (Builtin.SmallTypes.ownedTupleIsFree (.ref z) >>= _) _ _ _
  refine wpAny_bind (wpAny_tupleHeld_zip zz tt fun h1 z1 e1 => ?_)
  simp only [if_false, Bool.false_eq_true]
  refine wpAny_bind ?_
  rw [← Array.forIn_toList]
  simp only [List.forIn_nil, List.forIn_cons]
  refine wpAny_bind (wpAny_bind (wpAny_holding ?_))
  show wpAny _ _ (Builtin.SmallTypes.nextOf (.ref u) >>= _) _ _ ⟨h1, g0, d0, k0, os0⟩
  replace e1 : Heap.SameBut z h0 h1 := e1
  by_cases lt : j < m
  · have en : j = n := by omega
    refine wpAny_bind (D.item j _ _ _ lt (D.over s1 e1 S.zf1) fun x h2 k2 px t1 e2 => wpAny_pure ?_)
    refine wpAny_pure ?_
    refine wpAny_bind (wpAny_bind (wpAny_holding ?_))
    show wpAny _ _ (Builtin.SmallTypes.nextOf (.ref v) >>= _) _ _ ⟨h2, g0, d0, k2, os0⟩
    replace e2 : Heap.SameBut u h1 h2 := e2
    subst en
    exact wpAny_bind (G.done _ _ _ (G.over (G.over s2 e1 S.zf2) e2 S.sep1_2) fun h3 e e3 he => q h3 k2 e (fun c o c1 c2 c3 x => e3 _ _ c3 (e2.extBut _ _ c2 (e1.extBut _ _ c1 x))) he)
  · have em : j = m := by omega
    subst em
    exact wpAny_bind (D.done _ _ _ (D.over s1 e1 S.zf1) fun h2 e e2 he => q h2 k0 e (fun c o c1 c2 _ x => e2 _ _ c2 (e1.extBut _ _ c1 x)) he)
theorem next_item {Q : Option Value → Shared → Prop} (S : ZipSep2 z a b u v f1 f2) (D : Draws pr w A.in1 u f1 m P S1) (G : Draws pr w A.in1 v f2 n R S2) (zz : IsZipHeld s.heap z a b T f) (tt : s.heap.get? T = some oT) (aa : IsTupOf2 s.heap a (.ref u) (.ref v)) (s1 : S1 j s.heap) (s2 : S2 j s.heap) (l1 : j < m) (l2 : j < n)
    (q : ∀ x y h' tk, P j x → R j y → IsZipHeld h' z a b T true → S1 (j + 1) h' → S2 (j + 1) h' → IsTupOf2 h' s.heap.objs.size x y → h'.objs.size = s.heap.objs.size + 1 → (∀ c o, c ≠ z → c ≠ u → c ≠ v → s.heap.get? c = some o → h'.get? c = some o) → Q (some (.ref s.heap.objs.size)) { s with heap := h', toks := tk }) :
    wpAny (model pr w) A (pyNext (.ref z)) Q E s := by
  have ty : s.TypeIs (.ref z) "zip" := ⟨_, zz, rfl⟩
  unfold pyNext
  exact wpAny_bind (wpAny_attempt (wpAny_callSpecial?_slot (name := Str.ofString "__next__") ty F.slot_zip_next
    (wpAny_call_entry F.slot_zip_next ty F.entry_zip_next (held_item S D G zz tt aa s1 s2 l1 l2 fun x y h' tk p1 p2 r1 r2 r3 r4 r5 r6 => wpAny_pure (q x y h' tk p1 p2 r1 r2 r3 r4 r5 r6)) (F.args_zip_next_1 _))))
theorem next_end {Q : Option Value → Shared → Prop} (S : ZipSep2 z a b u v f1 f2) (D : Draws pr w A.in1 u f1 m P S1) (G : Draws pr w A.in1 v f2 n R S2) (zz : IsZipHeld s.heap z a b T f) (tt : s.heap.get? T = some oT) (aa : IsTupOf2 s.heap a (.ref u) (.ref v)) (s1 : S1 j s.heap) (s2 : S2 j s.heap) (l1 : j ≤ m) (l2 : j ≤ n) (le : j = m ∨ j = n)
    (q : ∀ h' tk, (∀ c o, c ≠ z → c ≠ u → c ≠ v → s.heap.get? c = some o → h'.get? c = some o) → Q none { s with heap := h', toks := tk }) : wpAny (model pr w) A (pyNext (.ref z)) Q E s := by
  have ty : s.TypeIs (.ref z) "zip" := ⟨_, zz, rfl⟩
  unfold pyNext
  refine wpAny_bind (wpAny_attempt (wpAny_callSpecial?_slot (name := Str.ofString "__next__") ty F.slot_zip_next
    (wpAny_call_entry F.slot_zip_next ty F.entry_zip_next (held_end S D G zz tt aa s1 s2 l1 l2 le fun h' tk e k he => ?_) (F.args_zip_next_1 _))))
  obtain ⟨o, ho, hc⟩ := he
  exact wpAny_bind (wpAny_isInstance (T := "StopIteration") (b := true) ⟨o, ho, hc⟩ isSubtype_stop (wpAny_pure (q _ _ k)))
/-- what stands as the argument of dict(..): a zip of two tuples -/
abbrev ZOk (z a b u v t r : Addr) (xs ys : Array Value) (h : Heap) : Prop := IsZip h z a b .none ∧ IsTupOf2 h a (.ref u) (.ref v) ∧ (∃ p q, IsTupOf2 h b p q) ∧ (h.IsTupleIter u t 0 ∧ h.IsTuple t xs) ∧ h.IsTupleIter v r 0 ∧ h.IsTuple r ys
theorem pairs_zip (z a b u v t r : Addr) (xs ys : Array Value) (S : ZipSep2 z a b u v [u, t] [v, r]) (tu : t ≠ u) (rv : r ≠ v) :
    PairArg pr w "zip" z [z, a, b, u, v, t, r] [z, b, u, v] (min xs.size ys.size) (fun i k x => xs[i]? = some k ∧ ys[i]? = some x) (ZOk z a b u v t r xs ys) := by
  refine { type := fun s ok => ⟨_, ok.1, rfl⟩, notDict := by decide, keep := ?_, there := ?_, sub := ?_, noKeys := fun A s Q E hA ok h => getAttrOr_miss_zip ok.1 rfl rfl rfl zip_no_keys (by decide +kernel) hA h, iter := ?_ }
  · rintro h h' ⟨o1, o2, ⟨p, q, o3⟩, ⟨o4, o5⟩, o6, o7⟩ k
    exact ⟨k _ _ o1, k _ _ o2, ⟨p, q, k _ _ o3⟩, ⟨o4.at fun o e => k _ o e, o5.at fun o e => k _ o e⟩, o6.at fun o e => k _ o e, o7.at fun o e => k _ o e⟩
  · rintro h ⟨o1, o2, ⟨p, q, o3⟩, ⟨⟨c4, o4, _⟩, ⟨c5, o5, _⟩⟩, ⟨c6, o6, _⟩, ⟨c7, o7, _⟩⟩ c hc
    simp only [List.mem_cons, List.not_mem_nil, or_false] at hc
    rcases hc with e | e | e | e | e | e | e
    all_goals rw [e]
    · exact ⟨_, o1⟩
    · exact ⟨_, o2⟩
    · exact ⟨_, o3⟩
    · exact ⟨_, o4⟩
    · exact ⟨_, o6⟩
    · exact ⟨_, o5⟩
    · exact ⟨_, o7⟩
  · intro c hc
    simp only [List.mem_cons, List.not_mem_nil, or_false] at hc ⊢
    rcases hc with e | e | e | e <;> simp [e]
  · rintro A s d Q E hA ⟨o1, o2, ⟨p, q, o3⟩, i1, i2⟩ hd hdf h
    simp only [List.mem_cons, List.not_mem_nil, or_false, not_or] at hdf
    obtain ⟨dz, da, db, du, dv, dt, dr⟩ := hdf
    have D := Draws.tuple (prog := pr) (w := w) (A := A.in1) hA u t tu xs
    have G := Draws.tuple (prog := pr) (w := w) (A := A.in1) hA v r rv ys
    refine wpAny_pyIter_zip o1 (h z [z, b, u, v] (fun i h => IsTupOf2 h a (.ref u) (.ref v) ∧ (h.IsTupleIter u t i ∧ h.IsTuple t xs) ∧ (h.IsTupleIter v r i ∧ h.IsTuple r ys) ∧
      ((IsZip h z a b .none ∧ ∃ p q, IsTupOf2 h b p q) ∨ ∃ T f oT, IsZipHeld h z a b T f ∧ h.get? T = some oT ∧ T ≠ z ∧ T ≠ u ∧ T ≠ v ∧ T ≠ d)) s.heap s.toks ?_ ⟨o2, i1, i2, .inl ⟨o1, p, q, o3⟩⟩ (fun _ _ e => e) fun c hc => .inl hc)
    refine { off := ?_, frame := ?_, item := ?_, done := ?_ }
    · simp [dz, db, du, dv]
    · rintro i g g' ⟨q2, ⟨q3, q4⟩, ⟨q5, q6⟩, q7⟩ k
      refine ⟨k _ _ (Ne.symm da) q2, ⟨q3.at fun o e => k _ o (Ne.symm du) e, q4.at fun o e => k _ o (Ne.symm dt) e⟩, ⟨q5.at fun o e => k _ o (Ne.symm dv) e, q6.at fun o e => k _ o (Ne.symm dr) e⟩, ?_⟩
      rcases q7 with ⟨q7, x, y, q8⟩ | ⟨T, f, oT, q7, q8, n1, n2, n3, n4⟩
      · exact .inl ⟨k _ _ (Ne.symm dz) q7, x, y, k _ _ (Ne.symm db) q8⟩
      · exact .inr ⟨T, f, oT, k _ _ (Ne.symm dz) q7, k _ _ n4 q8, n1, n2, n3, n4⟩
    · rintro i s1 Q1 E1 hi ⟨q2, q3, q5, q7⟩ hds hQ
      have l1 : i < xs.size := Nat.lt_of_lt_of_le hi (Nat.min_le_left ..)
      have l2 : i < ys.size := Nat.lt_of_lt_of_le hi (Nat.min_le_right ..)
      have old : ∀ {c o}, s1.heap.get? c = some o → s1.heap.objs.size ≠ c := fun e => Nat.ne_of_gt (Heap.lt_size e)
      have nu : s1.heap.objs.size ≠ u := let ⟨_, e, _⟩ := q3.1; old e
      have nv : s1.heap.objs.size ≠ v := let ⟨_, e, _⟩ := q5.1; old e
      rcases q7 with ⟨q7, x0, y0, q8⟩ | ⟨T, f, oT, q7, q8, n1, n2, n3, n4⟩
      · refine wpAny_pyNext_zipD2_item S D G q7 q2 q8 q3 q5 l1 l2 fun x y h' tk px py z1 b1 c1 c2 t1 sz k => ?_
        exact hQ s1.heap.objs.size x y h' tk ⟨px, py⟩ (.inl ⟨_, t1, rfl, _, rfl⟩) ⟨k _ _ S.TIz S.TITO S.TIi1 S.TIi2 q2, c1, c2, .inr ⟨s1.heap.objs.size, false, _, z1, t1, old q7, nu, nv, Nat.ne_of_gt hds⟩⟩ fun c o hc e => k c o (fun x => hc (by simp [x])) (fun x => hc (by simp [x])) (fun x => hc (by simp [x])) (fun x => hc (by simp [x])) e
      · refine next_item S D G q7 q8 q2 q3 q5 l1 l2 fun x y h' tk px py z1 c1 c2 t1 sz k => ?_
        exact hQ s1.heap.objs.size x y h' tk ⟨px, py⟩ (.inl ⟨_, t1, rfl, _, rfl⟩) ⟨k _ _ S.TIz S.TIi1 S.TIi2 q2, c1, c2, .inr ⟨T, true, oT, z1, k _ _ n1 n2 n3 q8, n1, n2, n3, n4⟩⟩ fun c o hc e => k c o (fun x => hc (by simp [x])) (fun x => hc (by simp [x])) (fun x => hc (by simp [x])) e
    · rintro s1 Q1 E1 ⟨q2, q3, q5, q7⟩ hQ
      have e : min xs.size ys.size = xs.size ∨ min xs.size ys.size = ys.size := by omega
      rcases q7 with ⟨q7, x0, y0, q8⟩ | ⟨T, f, oT, q7, q8, n1, n2, n3, n4⟩
      · exact wpAny_pyNext_zipD2_end S D G q7 q2 q8 q3 q5 (Nat.min_le_left ..) (Nat.min_le_right ..) e fun h' tk k => hQ h' tk fun c o hc e => k c o (fun x => hc (by simp [x])) (fun x => hc (by simp [x])) (fun x => hc (by simp [x])) (fun x => hc (by simp [x])) e
      · exact next_end S D G q7 q8 q2 q3 q5 (Nat.min_le_left ..) (Nat.min_le_right ..) e fun h' tk k => hQ h' tk fun c o hc e => k c o (fun x => hc (by simp [x])) (fun x => hc (by simp [x])) (fun x => hc (by simp [x])) e
end
end Zk
end

section
set_option maxRecDepth 100000
set_option maxHeartbeats 4000000
/-! dict(zip(a, b)) of two tuples. -/
namespace Zk
open PySem PySem.Calls PySem.Spec PyProof.Rows L2
/-- the keys of a, each with what stands there in b -/
def tDictZip (K : PySem.W.Frag) (ta : TA) : TE := fun σ H Q => ta σ H fun xs H1 => ∃ (a b : Addr) (ks : List Key) (ws : List V), xs = [.ref a, .ref b] ∧ SqT K H1 a (ks.map kV) ∧ SqT K H1 b ws ∧ ∀ p, H1 p = none → Q (.ref p) (upd H1 p (.dK (mergeK [] (ks.zip ws))))
theorem kv_zip : ∀ {ks : List Key} {ws : List V} {us : List Value}, Vals ws us → KV (ks.zip ws) (ks.zip us)
  | [], _, _, _ => by simp only [List.zip_nil_left]; exact .nil
  | _ :: _, _, _, .nil => .nil
  | k :: r, _, _, .cons h t => .cons ⟨rfl, h⟩ (kv_zip t)
theorem vals_len : ∀ {ws : List V} {us : List Value}, Vals ws us → ws.length = us.length
  | _, _, .nil => rfl
  | _, _, .cons _ t => by rw [List.length_cons, List.length_cons, vals_len t]
theorem keys_at : ∀ {ks : List Key} {us : List Value} {i : Nat} {u : Value}, Vals (ks.map kV) us → us[i]? = some u → ∃ k, ks[i]? = some k ∧ RelV (kV k) u
  | [], us, i, u, r, h => by
    have r : Vals [] us := r
    cases r
    simp at h
  | k :: t, us, i, u, r, h => by
    rw [List.map_cons] at r
    cases r with
    | cons a b => cases i with
      | zero => exact ⟨k, rfl, by rw [← Option.some.inj h]; exact a⟩
      | succ i => simpa using keys_at b (by simpa using h)
section
variable {X : Cx} {e e2 : Expr} {ta : TA} {p p2 pos pos2 : Pos}
theorem pe_dictZip (hc : X.calm = true) (hg : Gl X "dict") (hm : X.mg "dict" = none) (hg2 : Gl X "zip") (hm2 : X.mg "zip" = none) (ha : PA X [e, e2] ta)
    (hs : starEach [e, e2] X.env = (false, eval e X.env) :: starEach [e2] X.env := by rfl) (hpl : (backTo pos2 (starEach [e2] X.env)).any (·.1) = false := by rfl)
    (he : starEach [.Call (.Name "zip" p2) [e, e2] [] pos2] X.env = (false, eval (.Call (.Name "zip" p2) [e, e2] [] pos2) X.env) :: starEach [] X.env := by rfl) (hpe : (backTo pos (starEach [] X.env)).any (·.1) = false := by rfl) :
    PE X (.Call (.Name "dict" p) [.Call (.Name "zip" p2) [e, e2] [] pos2] [] pos) (tDictZip X.K ta) := by
  refine ⟨fun pins s σ H Q I h => ?_⟩
  refine wpAny_Call_Name_kw (ld_blt I hg hm PyProof.Rows.boot_dict ?_ (by decide) (by decide))
  refine PyProof.Rows.callWith_type1 ?_ he hpe
  rw [he]
  show wpAny _ _ (spliced ((false, eval (.Call (.Name "zip" p2) [e, e2] [] pos2) X.env) :: backTo pos (starEach [] X.env))) _ _ s
  refine Calls.spliced_cons ?_
  refine Call_ (ld_blt I hg2 hm2 PyProof.Rows.boot_zip (PyProof.Rows.callWith_type1 (L2.thn (ha.run pos2 pins s σ H _ I h) fun us s1 ⟨vs, H1, I1, r1, q1⟩ => ?_) hs hpl))
  obtain ⟨a, b, ks, ws, ex, qa, qb, q⟩ := q1
  subst ex
  cases r1 with
  | cons r rr =>
    cases rr with
    | cons r' rr =>
      cases rr
      cases r
      cases r'
      obtain ⟨its, rv, p1, z1⟩ := I1.tuple qa
      obtain ⟨its2, rv2, p2, z2⟩ := I1.tuple qb
      obtain ⟨o1, ho1, _⟩ := id p1
      obtain ⟨o2, ho2, _⟩ := id p2
      refine RZ.call_zipT (show s1.heap.IsTuple a its.toArray from p1) (show s1.heap.IsTuple b its2.toArray from p2) fun h' hz hTI hTO h1 h2 hsz hk => ?_
      refine Calls.spliced_nil ?_
      have la : a < s1.heap.objs.size := Heap.lt_size ho1
      have lb : b < s1.heap.objs.size := Heap.lt_size ho2
      have lk : its.length = ks.length := by rw [← vals_len rv, List.length_map]
      have lw : its2.length = ws.length := (vals_len rv2).symm
      have S : ZipSep2 (s1.heap.objs.size + 4) (s1.heap.objs.size + 2) (s1.heap.objs.size + 3) s1.heap.objs.size (s1.heap.objs.size + 1) [s1.heap.objs.size, a] [s1.heap.objs.size + 1, b] := by
        have f : ∀ {c : Addr} (j : Nat), c < s1.heap.objs.size → s1.heap.objs.size + j ≠ c := fun j hc e => Nat.lt_irrefl _ (Nat.lt_of_le_of_lt (Nat.le_add_right _ j) (e ▸ hc))
        have f0 : ∀ {c : Addr}, c < s1.heap.objs.size → s1.heap.objs.size ≠ c := fun hc e => Nat.lt_irrefl _ (e ▸ hc)
        constructor <;> simp [f _ la, f _ lb, f0 la, f0 lb]
      have P1 : h'.IsTuple a its.toArray := ⟨_, hk _ _ ho1, (by obtain ⟨o, e, r⟩ := p1; rw [ho1] at e; cases e; exact r)⟩
      have P2 : h'.IsTuple b its2.toArray := ⟨_, hk _ _ ho2, (by obtain ⟨o, e, r⟩ := p2; rw [ho2] at e; cases e; exact r)⟩
      refine PySem.call_dict_pairs (knd := mixKind X.prog X.w) (kvs := ks.zip its2) (pairs_zip (pr := X.prog) (w := X.w) _ _ _ _ _ a b its.toArray its2.toArray S (Nat.ne_of_lt la) (Nat.ne_of_lt (Nat.lt_succ_of_lt lb))) (I.ok.hd hc) ⟨hz, hTI, ⟨_, _, hTO⟩, ⟨h1, P1⟩, h2, P2⟩ ⟨by simp [lk], fun i key v ⟨g1, g2⟩ => ?_⟩ ?_ fun h'' tk hd k => ?_
      · obtain ⟨kk, g3, g4⟩ := keys_at rv (i := i) (u := key) (by simpa using g1)
        refine ⟨kk, ?_, kV_is (P := X.prog) (w := X.w) g4⟩
        have g2' : its2[i]? = some v := by simpa using g2
        rw [List.getElem?_zip_eq_some]
        exact ⟨g3, g2'⟩
      · have : (List.map kV ks).length = ks.length := List.length_map ..
        simp only [List.size_toArray]
        omega
      · have k1 : ∀ c o, s1.heap.get? c = some o → h''.get? c = some o := fun c o e => k c o (fun m => by
          have := Heap.lt_size e
          simp only [List.mem_cons, List.not_mem_nil, or_false] at m
          rcases m with z | z | z | z <;> (rw [z] at this; exact absurd this (by first | exact Nat.not_lt.mpr (Nat.le_add_right _ _) | exact Nat.lt_irrefl _))) (hk c o e)
        have n5 : s1.heap.objs.size ≤ h'.objs.size := by omega
        have hm : (h'.objs.size == sysModules) = false := beq_eq_false_iff_ne.mpr (Nat.ne_of_gt (Nat.lt_of_lt_of_le I1.big n5))
        have rel := kv_zip (ks := ks) rv2
        have hlen : (mergeK [] (ks.zip ws)).length ≤ sizeLine := by
          have h3 := length_mergeK (ks.zip ws) []
          rw [List.length_map] at z1
          simp only [List.length_nil, List.length_zip] at h3
          omega
        exact ⟨.ref h'.objs.size, upd H1 h'.objs.size (.dK (mergeK [] (ks.zip ws))), I1.laid (t' := tk) k1 n5 (show ObjOk X.prog X.w _ _ _ (.dK (mergeK [] (ks.zip ws))) from ⟨hlen, hm, merged [] (ks.zip its2), KV.merge rel .nil, hd⟩), rfl, q _ (I1.hok.fresh n5)⟩
end
end Zk
end

section
set_option maxRecDepth 100000
set_option maxHeartbeats 4000000
/-! list(zip(a, b)) of two tuples. -/
namespace Zk
open PySem PySem.Calls
section
variable {pr : Program} {w : World} {A : Around} {R : Result → Shared → Prop} {z a b u v t r L : Addr} {xs ys : Array Value} {res : Value}
/-- the zip, i items on -/
def At (z a b u v t r L : Addr) (xs ys : Array Value) (i : Nat) (h : Heap) : Prop := IsTupOf2 h a (.ref u) (.ref v) ∧ (h.IsTupleIter u t i ∧ h.IsTuple t xs) ∧ (h.IsTupleIter v r i ∧ h.IsTuple r ys) ∧ (∃ p q, IsTupOf2 h b p q) ∧
  (IsZip h z a b .none ∨ ∃ T f oT, IsZipHeld h z a b T f ∧ h.get? T = some oT ∧ T ≠ z ∧ T ≠ u ∧ T ≠ v ∧ T ≠ L)
theorem At.over {i : Nat} {h h' : Heap} (q : At z a b u v t r L xs ys i h) (n : a ≠ L ∧ u ≠ L ∧ t ≠ L ∧ v ≠ L ∧ r ≠ L ∧ z ≠ L ∧ b ≠ L) (k : ∀ c o, c ≠ L → h.get? c = some o → h'.get? c = some o) : At z a b u v t r L xs ys i h' := by
  obtain ⟨q2, ⟨q3, q4⟩, ⟨q5, q6⟩, ⟨x, y, q8⟩, q7⟩ := q
  obtain ⟨n1, n2, n3, n4, n5, n6, n7⟩ := n
  refine ⟨k _ _ n1 q2, ⟨q3.at fun o e => k _ o n2 e, q4.at fun o e => k _ o n3 e⟩, ⟨q5.at fun o e => k _ o n4 e, q6.at fun o e => k _ o n5 e⟩, ⟨x, y, k _ _ n7 q8⟩, ?_⟩
  rcases q7 with q7 | ⟨T, f, oT, q7, q8, m1, m2, m3, m4⟩
  · exact .inl (k _ _ n6 q7)
  · exact .inr ⟨T, f, oT, k _ _ n6 q7, k _ _ m4 q8, m1, m2, m3, m4⟩
/-- the pairs that were given: new tuples -/
def Got (z b u v L : Addr) (xs ys : Array Value) (acc : Array Value) (i : Nat) (h : Heap) : Prop := acc.size = i ∧ ∀ j, j < i → ∃ T x y, acc[j]? = some (.ref T) ∧ xs[j]? = some x ∧ ys[j]? = some y ∧ IsTupOf2 h T x y ∧ T ≠ z ∧ T ≠ b ∧ T ≠ u ∧ T ≠ v ∧ T ≠ L
theorem Got.over {acc : Array Value} {i : Nat} {h h' : Heap} (g : Got z b u v L xs ys acc i h) (k : ∀ c o, c ≠ L → c ≠ z → c ≠ b → c ≠ u → c ≠ v → h.get? c = some o → h'.get? c = some o) : Got z b u v L xs ys acc i h' :=
  ⟨g.1, fun j hj => let ⟨T, x, y, e1, e2, e3, e4, n1, n2, n3, n4, n5⟩ := g.2 j hj; ⟨T, x, y, e1, e2, e3, k _ _ n5 n1 n2 n3 n4 e4, n1, n2, n3, n4, n5⟩⟩
abbrev Lst (h : Heap) (L : Addr) (acc : Array Value) (c : Nat) : Prop := h.get? L = some { cls := .type "list", dict := none, data := .seq acc c, slots := #[] }
/-- one more item -/
theorem step (hA : A.handled = none) (S : ZipSep2 z a b u v [u, t] [v, r]) (tu : t ≠ u) (rv : r ≠ v) (n : a ≠ L ∧ u ≠ L ∧ t ≠ L ∧ v ≠ L ∧ r ≠ L ∧ z ≠ L ∧ b ≠ L) {E : Value → Shared → Prop} {Q : Option Value → Shared → Prop} {s : Shared} {i : Nat} (l1 : i < xs.size) (l2 : i < ys.size) (q : At z a b u v t r L xs ys i s.heap) (hL : L < s.heap.objs.size)
    (k : ∀ h' tk x y, xs[i]? = some x → ys[i]? = some y → At z a b u v t r L xs ys (i + 1) h' → IsTupOf2 h' s.heap.objs.size x y → s.heap.objs.size ≠ z ∧ s.heap.objs.size ≠ b ∧ s.heap.objs.size ≠ u ∧ s.heap.objs.size ≠ v ∧ s.heap.objs.size ≠ L → (∀ c o, c ≠ z → c ≠ b → c ≠ u → c ≠ v → s.heap.get? c = some o → h'.get? c = some o) → Q (some (.ref s.heap.objs.size)) { s with heap := h', toks := tk }) :
    wpAny (model pr w) A (pyNext (.ref z)) Q E s := by
  obtain ⟨q2, q3, q5, ⟨x0, y0, q8'⟩, q7⟩ := q
  have D := Draws.tuple (prog := pr) (w := w) (A := A.in1) hA u t tu xs
  have G := Draws.tuple (prog := pr) (w := w) (A := A.in1) hA v r rv ys
  have old : ∀ {c o}, s.heap.get? c = some o → s.heap.objs.size ≠ c := fun e => Nat.ne_of_gt (Heap.lt_size e)
  have nu : s.heap.objs.size ≠ u := let ⟨_, e, _⟩ := q3.1; old e
  have nv : s.heap.objs.size ≠ v := let ⟨_, e, _⟩ := q5.1; old e
  have nL : s.heap.objs.size ≠ L := Nat.ne_of_gt hL
  rcases q7 with q7 | ⟨T, f, oT, q7, q8, n1, n2, n3, n4⟩
  · refine wpAny_pyNext_zipD2_item S D G q7 q2 q8' q3 q5 l1 l2 fun x y h' tk px py z1 b1 c1 c2 t1 sz kk => ?_
    exact k h' tk x y px py ⟨kk _ _ S.TIz S.TITO S.TIi1 S.TIi2 q2, c1, c2, ⟨x, y, b1⟩, .inr ⟨s.heap.objs.size, false, _, z1, t1, old q7, nu, nv, nL⟩⟩ t1 ⟨old q7, old q8', nu, nv, nL⟩ kk
  · refine next_item S D G q7 q8 q2 q3 q5 l1 l2 fun x y h' tk px py z1 c1 c2 t1 sz kk => ?_
    exact k h' tk x y px py ⟨kk _ _ S.TIz S.TIi1 S.TIi2 q2, c1, c2, ⟨x0, y0, kk _ _ S.TOz S.Ti1 S.Ti2 q8'⟩, .inr ⟨T, true, oT, z1, kk _ _ n1 n2 n3 q8, n1, n2, n3, n4⟩⟩ t1 ⟨old q7, old q8', nu, nv, nL⟩ fun c o c1 _ c3 c4 e => kk c o c1 c3 c4 e
theorem stop (hA : A.handled = none) (S : ZipSep2 z a b u v [u, t] [v, r]) (tu : t ≠ u) (rv : r ≠ v) {E : Value → Shared → Prop} {Q : Option Value → Shared → Prop} {s : Shared} (q : At z a b u v t r L xs ys (min xs.size ys.size) s.heap)
    (k : ∀ h' tk, (∀ c o, c ≠ z → c ≠ b → c ≠ u → c ≠ v → s.heap.get? c = some o → h'.get? c = some o) → Q none { s with heap := h', toks := tk }) : wpAny (model pr w) A (pyNext (.ref z)) Q E s := by
  obtain ⟨q2, q3, q5, ⟨x0, y0, q8'⟩, q7⟩ := q
  have D := Draws.tuple (prog := pr) (w := w) (A := A.in1) hA u t tu xs
  have G := Draws.tuple (prog := pr) (w := w) (A := A.in1) hA v r rv ys
  have e : min xs.size ys.size = xs.size ∨ min xs.size ys.size = ys.size := by omega
  rcases q7 with q7 | ⟨T, f, oT, q7, q8, n1, n2, n3, n4⟩
  · exact wpAny_pyNext_zipD2_end S D G q7 q2 q8' q3 q5 (Nat.min_le_left ..) (Nat.min_le_right ..) e fun h' tk kk => k h' tk kk
  · exact next_end S D G q7 q8 q2 q3 q5 (Nat.min_le_left ..) (Nat.min_le_right ..) e fun h' tk kk => k h' tk fun c o c1 _ c3 c4 e => kk c o c1 c3 c4 e
/-- list.extend's loop over the zip -/
theorem loop (hA : A.handled = none) (S : ZipSep2 z a b u v [u, t] [v, r]) (tu : t ≠ u) (rv : r ≠ v) (n : a ≠ L ∧ u ≠ L ∧ t ≠ L ∧ v ≠ L ∧ r ≠ L ∧ z ≠ L ∧ b ≠ L) (hz : min xs.size ys.size ≤ sizeLine) :
    ∀ (k i : Nat) (s : Shared) (acc : Array Value) (c : Nat), min xs.size ys.size - i = k → i ≤ min xs.size ys.size → At z a b u v t r L xs ys i s.heap → Lst s.heap L acc c → Got z b u v L xs ys acc i s.heap →
    (∀ h' tk acc' c', (∀ x o, x ≠ L → x ≠ z → x ≠ b → x ≠ u → x ≠ v → s.heap.get? x = some o → h'.get? x = some o) → Lst h' L acc' c' → Got z b u v L xs ys acc' (min xs.size ys.size) h' → R (.ok (.ret res)) { s with heap := h', toks := tk }) →
    codeAny (model pr w) A (.builtin "list.extend.loop" ⟨[.ref L, .ref z, res], []⟩) R s := by
  obtain ⟨n1, n2, n3, n4, n5, n6, n7⟩ := id n
  intro k
  induction k with
  | zero =>
    intro i s acc c hk hi q hL g hR
    have e : i = min xs.size ys.size := by omega
    subst e
    refine codeAny_builtin F.entry_extend_loop ?_
    rw [Around.under_plainId F.plain_extend_loop _]
    show wpAny _ A.in1 (pyNext (.ref z) >>= _) _ _ s
    refine wpAny_bind (stop (A := A.in1) hA S tu rv q fun h' tk kk => ?_)
    exact wpAny_pure (hR h' tk acc c (fun x o x1 x2 x3 x4 x5 e => kk x o x2 x3 x4 x5 e) (kk _ _ n6.symm n7.symm n2.symm n4.symm hL) (g.over fun x o _ x2 x3 x4 x5 e => kk x o x2 x3 x4 x5 e))
  | succ k ih =>
    intro i s acc c hk hi q hL g hR
    have l1 : i < xs.size := by omega
    have l2 : i < ys.size := by omega
    refine codeAny_builtin F.entry_extend_loop ?_
    rw [Around.under_plainId F.plain_extend_loop _]
    show wpAny _ A.in1 (pyNext (.ref z) >>= _) _ _ s
    refine wpAny_bind (step (A := A.in1) hA S tu rv n l1 l2 q (Heap.lt_size hL) fun h' tk x y ex ey q' tt fresh kk => ?_)
    obtain ⟨f1, f2, f3, f4, f5⟩ := fresh
    have hL' : Lst h' L acc c := kk _ _ n6.symm n7.symm n2.symm n4.symm hL
    show wpAny _ A.in1 (updateSeq L (·.push (.ref s.heap.objs.size)) >>= _) _ _ _
    refine wpAny_bind ?_
    have oth : ∀ c o, c ≠ L → h'.get? c = some o → (h'.update L (Obj.mapSeq (·.push (.ref s.heap.objs.size)))).get? c = some o := fun c o hc e => (Heap.get?_update_other _ _ hc.symm).trans e
    refine wpAny_updateSeq hL' rfl (wpAny_pure ⟨plainId_quiet F.plain_extend_loop _, ih (i + 1) _ (acc.push (.ref s.heap.objs.size)) _ (by omega) (by omega) (q'.over n oth) (Heap.get?_update_self _ hL' rfl) ?_ fun h'' tk' acc' c' k2 hL2 g2 => ?_⟩) (by rw [g.1]; omega) (by show (acc.push _).size ≤ sizeLine + 1; rw [Array.size_push, g.1]; omega)
    · refine ⟨by rw [Array.size_push, g.1], fun j hj => ?_⟩
      by_cases e : j < i
      · obtain ⟨T, x', y', e1, e2, e3, e4, m1, m2, m3, m4, m5⟩ := g.2 j e
        exact ⟨T, x', y', by rw [Array.getElem?_push_lt (by rw [g.1]; exact e)]; rw [Array.getElem?_eq_getElem (by rw [g.1]; exact e)] at e1; exact e1, e2, e3, oth _ _ m5 (kk _ _ m1 m2 m3 m4 e4), m1, m2, m3, m4, m5⟩
      · have e : j = i := by omega
        subst e
        exact ⟨_, x, y, by rw [← g.1]; exact Array.getElem?_push_size, ex, ey, oth _ _ f5 tt, f1, f2, f3, f4, f5⟩
    · exact hR h'' tk' acc' c' (fun x o x1 x2 x3 x4 x5 e => k2 x o x1 x2 x3 x4 x5 (oth _ _ x1 (kk x o x2 x3 x4 x5 e))) hL2 g2
theorem zip_len : typeLookup (.type "zip") "__len__" = pure none := am_miss_of_fast (by decide +kernel)
theorem zip_hint : typeLookup (.type "zip") "__length_hint__" = pure none := am_miss_of_fast (by decide +kernel)
theorem fill (hA : A.handled = none) (S : ZipSep2 z a b u v [u, t] [v, r]) (tu : t ≠ u) (rv : r ≠ v) (n : a ≠ L ∧ u ≠ L ∧ t ≠ L ∧ v ≠ L ∧ r ≠ L ∧ z ≠ L ∧ b ≠ L) (hz : min xs.size ys.size ≤ sizeLine) {s : Shared} {c : Nat} (zz : IsZip s.heap z a b .none) (q : At z a b u v t r L xs ys 0 s.heap)
    (hL : s.heap.get? L = some { cls := .type "list", data := .seq #[] c })
    (hR : ∀ h' tk acc' c', (∀ x o, x ≠ L → x ≠ z → x ≠ b → x ≠ u → x ≠ v → s.heap.get? x = some o → h'.get? x = some o) → Lst h' L acc' c' → Got z b u v L xs ys acc' (min xs.size ys.size) h' → R (.ok (.ret res)) { s with heap := h', toks := tk }) :
    wpAny (model pr w) A.in1 (Builtin.List.listExtendWith (.ref L) (.ref z) res)
      (fun fin s' => match fin with | .done f => R (.ok f) s' | .again c' => c'.quiet = true ∧ codeAny (model pr w) A c' R s') (fun e s' => R (.error e) s') s := by
  have ty : s.TypeIs (.ref z) "zip" := ⟨_, zz, rfl⟩
  have nz : L ≠ z := n.2.2.2.2.2.1.symm
  unfold Builtin.List.listExtendWith
  refine wpAny_bind (wpAny_typeOf ty ?_)
  have e1 : Builtin.List.listSameRef (.ref L) (.ref z) = false := by simp [Builtin.List.listSameRef, nz]
  have e2 : (Value.type "zip" == Value.type "list") = false := by decide
  have e3 : (Value.type "zip" == Value.type "tuple") = false := by decide
  simp only [e1, e2, e3, Bool.or_false, if_false, Bool.false_eq_true]
  refine wpAny_bind (wpAny_pyIter_zip zz ?_)
  refine wpAny_bind (wpAny_holding ?_)
  unfold Builtin.List.listLengthHint
  refine wpAny_bind (wpAny_specialOf ty zip_len ?_)
  show wpAny _ A.in1 (specialOf (Value.ref z) (Str.ofString "__length_hint__") >>= _) _ _ _
  refine wpAny_bind (wpAny_specialOf ty zip_hint ?_)
  refine wpAny_pure ?_
  show wpAny _ A.in1 (rule "list.extend.makes-room" >>= fun _ => Builtin.List.listTouch (.ref L) >>= fun _ => again (.builtin "list.extend.loop" ⟨[.ref L, .ref z, res], []⟩)) _ _ _
  refine wpAny_bind (wpAny_rule ?_)
  refine wpAny_bind ?_
  show wpAny _ _ (updateSeq L (·.push .none) >>= fun _ => updateSeq L (·.pop)) _ _ _
  refine wpAny_bind (wpAny_updateSeq hL rfl ?_)
  have hL2 := Heap.get?_update_self (Obj.mapSeq (·.push Value.none)) hL rfl
  refine wpAny_updateSeq (hz := by seq_fits) hL2 rfl ?_
  have hL3 := Heap.get?_update_self (Obj.mapSeq (·.pop)) hL2 rfl
  have oth : ∀ c o, c ≠ L → s.heap.get? c = some o → ((s.heap.update L (Obj.mapSeq (·.push Value.none))).update L (Obj.mapSeq (·.pop))).get? c = some o := fun c o hc e => (Heap.get?_update_other _ _ hc.symm).trans ((Heap.get?_update_other _ _ hc.symm).trans e)
  refine wpAny_pure ⟨plainId_quiet F.plain_extend_loop _, loop hA S tu rv n hz _ 0 _ _ _ rfl (Nat.zero_le _) (q.over n oth) hL3 ⟨rfl, fun j hj => absurd hj (Nat.not_lt_zero _)⟩ fun h' tk acc' c' k hL' g => ?_⟩
  exact hR h' tk acc' c' (fun x o x1 x2 x3 x4 x5 e => k x o x1 x2 x3 x4 x5 (oth _ _ x1 e)) hL' g
end
section
variable {pr : Program} {w : World} {A : Around} {E : Value → Shared → Prop} {s : Shared} {z a b u v t r : Addr} {xs ys : Array Value}
/-- list(zip) -/
theorem call_list_zip {Q : Value → Shared → Prop} (hA : A.handled = none) (S : ZipSep2 z a b u v [u, t] [v, r]) (tu : t ≠ u) (rv : r ≠ v) (hz : min xs.size ys.size ≤ sizeLine) (ok : ZOk z a b u v t r xs ys s.heap)
    (k : ∀ h' tk acc c, (∀ x o, x ≠ z → x ≠ b → x ≠ u → x ≠ v → s.heap.get? x = some o → h'.get? x = some o) → Lst h' s.heap.objs.size acc c → Got z b u v s.heap.objs.size xs ys acc (min xs.size ys.size) h' → Q (.ref s.heap.objs.size) { s with heap := h', toks := tk }) :
    wpAny (model pr w) A (call (.type "list") [.ref z]) Q E s := by
  obtain ⟨o1, o2, ⟨p, q, o3⟩, i1, i2⟩ := ok
  have ne : ∀ {c o}, s.heap.get? c = some o → c ≠ s.heap.objs.size := fun e => Nat.ne_of_lt (Heap.lt_size e)
  have n : a ≠ s.heap.objs.size ∧ u ≠ s.heap.objs.size ∧ t ≠ s.heap.objs.size ∧ v ≠ s.heap.objs.size ∧ r ≠ s.heap.objs.size ∧ z ≠ s.heap.objs.size ∧ b ≠ s.heap.objs.size :=
    ⟨ne o2, (let ⟨_, e, _⟩ := i1.1; ne e), (let ⟨_, e, _⟩ := i1.2; ne e), (let ⟨_, e, _⟩ := i2.1; ne e), (let ⟨_, e, _⟩ := i2.2; ne e), ne o1, ne o3⟩
  refine callType_codes (Q₁ := fun obj s₁ => obj = .ref s.heap.objs.size ∧ s₁ = { s with heap := s.heap.push { cls := .type "list", data := .seq #[] } }) F.called_list (F.typeCall_list_1 _) F.entry_list_init (code_list_new _ ⟨rfl, rfl⟩) ?_
  rintro obj s1 ⟨rfl, rfl⟩
  have hL : (s.heap.push { cls := .type "list", data := .seq #[] }).get? s.heap.objs.size = some { cls := .type "list", data := .seq #[] } := Heap.get?_push_size _ rfl
  refine ⟨⟨_, hL, rfl⟩, F.args_list_init_2 _ _, ?_⟩
  show wpAny _ _ (do let old ← Builtin.List.listItems (.ref s.heap.objs.size); Builtin.List.listUpdate (.ref s.heap.objs.size) (fun _ => #[]); letGo old.toList.reverse; Builtin.List.listExtendWith (.ref s.heap.objs.size) (.ref z) .none) _ _ _
  refine wpAny_bind ?_
  unfold Builtin.List.listItems
  refine wpAny_bind (wpAny_seqItems hL rfl (wpAny_pure ?_))
  show wpAny _ _ (updateSeq s.heap.objs.size (fun _ => #[]) >>= fun _ => letGo (#[] : Array Value).toList.reverse >>= fun _ => Builtin.List.listExtendWith (.ref s.heap.objs.size) (.ref z) .none) _ _ _
  refine wpAny_bind (wpAny_updateSeq hL rfl ?_)
  have hL2 := Heap.get?_update_self (Obj.mapSeq (fun _ => (#[] : Array Value))) hL rfl
  refine wpAny_bind (wpAny_letGo ?_)
  have up : ∀ c o, s.heap.get? c = some o → ((s.heap.push { cls := .type "list", data := .seq #[] }).update s.heap.objs.size (Obj.mapSeq (fun _ => (#[] : Array Value)))).get? c = some o := fun c o e => (Heap.get?_update_other _ _ (ne e).symm).trans (Heap.get?_push_of_some _ e)
  have q0 : At z a b u v t r s.heap.objs.size xs ys 0 s.heap := ⟨o2, i1, i2, ⟨p, q, o3⟩, .inl o1⟩
  refine fill (A := A.in1) hA S tu rv n hz (up _ _ o1) (q0.over n fun c o _ e => up c o e) hL2 fun h' tk acc c kk hL' g => ?_
  exact ⟨rfl, k h' tk acc c (fun x o x2 x3 x4 x5 e => kk x o (ne e) x2 x3 x4 x5 (up x o e)) hL' g⟩
end
end Zk
end

section
set_option maxRecDepth 100000
set_option maxHeartbeats 4000000
/-! dict(list(zip(a, b))) of two tuples. -/
namespace Zk
open PySem PySem.Calls PySem.Spec PyProof.Rows L2
section
variable {X : Cx} {e e2 : Expr} {ta : TA} {p p1 p2 pos pos1 pos2 : Pos}
abbrev zipE (p2 pos2 : Pos) (e e2 : Expr) : Expr := .Call (.Name "zip" p2) [e, e2] [] pos2
abbrev listE (p1 pos1 : Pos) (x : Expr) : Expr := .Call (.Name "list" p1) [x] [] pos1
theorem pe_dictListZip (hc : X.calm = true) (hg : Gl X "dict") (hm : X.mg "dict" = none) (hg1 : Gl X "list") (hm1 : X.mg "list" = none) (hg2 : Gl X "zip") (hm2 : X.mg "zip" = none) (ha : PA X [e, e2] ta)
    (hs : starEach [e, e2] X.env = (false, eval e X.env) :: starEach [e2] X.env := by rfl) (hpl : (backTo pos2 (starEach [e2] X.env)).any (·.1) = false := by rfl)
    (he1 : starEach [zipE p2 pos2 e e2] X.env = (false, eval (zipE p2 pos2 e e2) X.env) :: starEach [] X.env := by rfl) (hp1 : (backTo pos1 (starEach [] X.env)).any (·.1) = false := by rfl)
    (he : starEach [listE p1 pos1 (zipE p2 pos2 e e2)] X.env = (false, eval (listE p1 pos1 (zipE p2 pos2 e e2)) X.env) :: starEach [] X.env := by rfl) (hpe : (backTo pos (starEach [] X.env)).any (·.1) = false := by rfl) :
    PE X (.Call (.Name "dict" p) [listE p1 pos1 (zipE p2 pos2 e e2)] [] pos) (tDictZip X.K ta) := by
  refine ⟨fun pins s σ H Q I h => ?_⟩
  refine wpAny_Call_Name_kw (ld_blt I hg hm PyProof.Rows.boot_dict ?_ (by decide) (by decide))
  refine PyProof.Rows.callWith_type1 ?_ he hpe
  rw [he]
  show wpAny _ _ (spliced ((false, eval (listE p1 pos1 (zipE p2 pos2 e e2)) X.env) :: backTo pos (starEach [] X.env))) _ _ s
  refine Calls.spliced_cons ?_
  refine Call_ (ld_blt I hg1 hm1 PyProof.Rows.boot_list (PyProof.Rows.callWith_type1 ?_ he1 hp1))
  rw [he1]
  show wpAny _ _ (spliced ((false, eval (zipE p2 pos2 e e2) X.env) :: backTo pos1 (starEach [] X.env))) _ _ s
  refine Calls.spliced_cons ?_
  refine Call_ (ld_blt I hg2 hm2 PyProof.Rows.boot_zip (PyProof.Rows.callWith_type1 (L2.thn (ha.run pos2 pins s σ H _ I h) fun us s1 ⟨vs, H1, I1, r1, q1⟩ => ?_) hs hpl))
  obtain ⟨a, b, ks, ws, ex, qa, qb, q⟩ := q1
  subst ex
  cases r1 with
  | cons r rr =>
    cases rr with
    | cons r' rr =>
      cases rr
      cases r
      cases r'
      obtain ⟨its, rv, y1, z1⟩ := I1.tuple qa
      obtain ⟨its2, rv2, y2, z2⟩ := I1.tuple qb
      obtain ⟨o1, ho1, _⟩ := id y1
      obtain ⟨o2, ho2, _⟩ := id y2
      refine RZ.call_zipT (show s1.heap.IsTuple a its.toArray from y1) (show s1.heap.IsTuple b its2.toArray from y2) fun h' hz hTI hTO h1 h2 hsz hk => ?_
      refine Calls.spliced_nil ?_
      have la : a < s1.heap.objs.size := Heap.lt_size ho1
      have lb : b < s1.heap.objs.size := Heap.lt_size ho2
      have lk : its.length = ks.length := by rw [← vals_len rv, List.length_map]
      have lw : its2.length = ws.length := (vals_len rv2).symm
      have S : ZipSep2 (s1.heap.objs.size + 4) (s1.heap.objs.size + 2) (s1.heap.objs.size + 3) s1.heap.objs.size (s1.heap.objs.size + 1) [s1.heap.objs.size, a] [s1.heap.objs.size + 1, b] := by
        have f : ∀ {c : Addr} (j : Nat), c < s1.heap.objs.size → s1.heap.objs.size + j ≠ c := fun j hc e => Nat.lt_irrefl _ (Nat.lt_of_le_of_lt (Nat.le_add_right _ j) (e ▸ hc))
        have f0 : ∀ {c : Addr}, c < s1.heap.objs.size → s1.heap.objs.size ≠ c := fun hc e => Nat.lt_irrefl _ (e ▸ hc)
        constructor <;> simp [f _ la, f _ lb, f0 la, f0 lb]
      have P1 : h'.IsTuple a its.toArray := ⟨_, hk _ _ ho1, (by obtain ⟨o, e, r⟩ := y1; rw [ho1] at e; cases e; exact r)⟩
      have P2 : h'.IsTuple b its2.toArray := ⟨_, hk _ _ ho2, (by obtain ⟨o, e, r⟩ := y2; rw [ho2] at e; cases e; exact r)⟩
      have sz : min its.toArray.size its2.toArray.size ≤ sizeLine := by
        rw [List.length_map] at z1
        simp only [List.size_toArray]
        omega
      refine call_list_zip (I.ok.hd hc) S (Nat.ne_of_lt la) (Nat.ne_of_lt (Nat.lt_succ_of_lt lb)) sz ⟨hz, hTI, ⟨_, _, hTO⟩, ⟨h1, P1⟩, h2, P2⟩ fun g tk acc c k hL gt => ?_
      refine Calls.spliced_nil ?_
      have lz : (ks.zip its2).length = min its.toArray.size its2.toArray.size := by simp [lk]
      refine L2.call_dict_pairs (prs := ks.zip its2) (I.ok.hd hc) hL rfl rfl rfl (by rw [gt.1, lz]) (by rw [lz]; exact sz) (fun j pq e => ?_) fun g' tk' hd kk => ?_
      · obtain ⟨kj, vj⟩ := pq
        rw [List.getElem?_zip_eq_some] at e
        have hj : j < min its.toArray.size its2.toArray.size := by
          have := (List.getElem?_eq_some_iff.mp e.1).1
          have := (List.getElem?_eq_some_iff.mp e.2).1
          simp only [List.size_toArray]
          omega
        obtain ⟨T, x, y, g1, g2, g3, g4, _⟩ := gt.2 j hj
        have g2' : its[j]? = some x := by simpa using g2
        have g3' : its2[j]? = some y := by simpa using g3
        obtain ⟨k2, g5, g6⟩ := keys_at rv g2'
        rw [e.1] at g5
        rw [e.2] at g3'
        cases g5
        cases g3'
        exact ⟨T, x, g1, ⟨_, g4, rfl, _, rfl⟩, kV_is (P := X.prog) (w := X.w) g6⟩
      · have k1 : ∀ c o, s1.heap.get? c = some o → g'.get? c = some o := fun c o e => kk c o (by
          have e' := hk c o e
          have := Heap.lt_size e
          have f : ∀ j : Nat, c ≠ s1.heap.objs.size + j := fun j z => Nat.lt_irrefl _ (Nat.lt_of_le_of_lt (Nat.le_add_right _ j) (z ▸ this))
          exact k c o (f 4) (f 3) (f 0) (f 1) e')
        have gs : h'.objs.size < g.objs.size := Heap.lt_size hL
        have n5 : s1.heap.objs.size ≤ g.objs.size := by omega
        have hm : (g.objs.size == sysModules) = false := beq_eq_false_iff_ne.mpr (Nat.ne_of_gt (Nat.lt_of_lt_of_le I1.big n5))
        have rel := kv_zip (ks := ks) rv2
        have hlen : (mergeK [] (ks.zip ws)).length ≤ sizeLine := by
          have h3 := length_mergeK (ks.zip ws) []
          rw [List.length_map] at z1
          simp only [List.length_nil, List.length_zip] at h3
          omega
        exact ⟨.ref g.objs.size, upd H1 g.objs.size (.dK (mergeK [] (ks.zip ws))), I1.laid (t' := tk') k1 n5 (show ObjOk X.prog X.w _ _ _ (.dK (mergeK [] (ks.zip ws))) from ⟨hlen, hm, merged [] (ks.zip its2), KV.merge rel .nil, hd⟩), rfl, q _ (I1.hok.fresh n5)⟩
end
end Zk
end

section
set_option maxRecDepth 100000
set_option maxHeartbeats 4000000
/-! Readings over data: dict(zip(a, b)). -/
namespace Ab
open PySem PySem.Spec PyProof.Rows L2 Gd
section
variable {X : Cx} {B : Bk} {e e2 : Expr} {ta : TA} {wa : WL} {p p2 pos pos2 : Pos} {K : PySem.W.Frag}
def wDictZip (wa : WL) : WE := fun ρ m P => wa ρ m fun ds m1 => match ds with
  | [.im (.tuple xs), .im (.tuple ys)] => (match keysA xs with | some ks => P (.mu m1.length) (m1 ++ [.dk (mergeA [] (ks.zip (ys.map .im)))]) | none => False)
  | _ => False
theorem rks_zip {n : Nat} {N M : List Addr} {H : Hp} : ∀ {ks : List Key} {ws : List V} {ys : List AV}, RVs n N M H ws ys → RKs n N M H (ks.zip ws) (ks.zip ys)
  | [], _, _, _ => by simp only [List.zip_nil_left]; exact .nil
  | _ :: _, _, _, .nil => .nil
  | k :: r, _, _, .cons h t => .cons ⟨rfl, h⟩ (rks_zip t)
theorem le_dictZip (ha : LA B ta wa) : LE B (Zk.tDictZip K ta) (wDictZip wa) := fun N M H σ ρ m P Q x0 S R hw q => ha N M H σ ρ m _ _ x0 S R hw fun vs ds M1 H1 m1 x1 R1 r1 h1 => by
    split at h1
    · rename_i xs ys
      obtain ⟨v, v2, rfl, rv, rv2⟩ := val2 r1
      split at h1
      · rename_i ks ek
        cases rv with
        | tup n1 e1 z1 => cases rv2 with
          | tup n2 e2 z2 =>
            have ez := keys_rep z1 ek
            subst ez
            refine ⟨_, _, ks, _, rfl, .inl (.inl e1), .inl (.inl e2), fun p hp => ?_⟩
            have rk := merge_of (rks_zip (ks := ks) (to_ims (n := M1.length) (N := N) z2)) (.nil : RKs M1.length N M1 H1 ([] : List (Key × V)) ([] : List (Key × AV)))
            have ex : ∀ o, Ext M1 H1 (M1 ++ [p]) (upd H1 p o) := fun o => ⟨List.prefix_append _ _, Kp.new hp, fun a h1 h2 => by
              rcases List.mem_append.mp h1 with z | z
              · exact absurd z h2
              · rw [List.mem_singleton.mp z]; exact hp⟩
            obtain ⟨R', x'⟩ := R1.grow (c := .dk (mergeA [] (ks.zip (ys.map .im)))) hp ⟨_, upd_same, by rw [← R1.len]; exact pair_imp (fun _ _ r => ⟨r.1, r.2.ext (ex _)⟩) rk⟩
            exact q _ (.mu m1.length) _ _ _ (x1.trans x') R' ⟨by rw [← R1.len]; simp, p, last_mu R1 p, rfl⟩ h1
      · exact h1.elim
    · exact h1.elim
theorem ae_dictZip (hK : X.K = K) (hc : X.calm = true) (hg : Gl X "dict") (hm : X.mg "dict" = none) (hg2 : Gl X "zip") (hm2 : X.mg "zip" = none) (ha : AL X B [e, e2] ta wa)
    (hs : starEach [e, e2] X.env = (false, eval e X.env) :: starEach [e2] X.env := by rfl) (hpl : (backTo pos2 (starEach [e2] X.env)).any (·.1) = false := by rfl)
    (he : starEach [.Call (.Name "zip" p2) [e, e2] [] pos2] X.env = (false, eval (.Call (.Name "zip" p2) [e, e2] [] pos2) X.env) :: starEach [] X.env := by rfl) (hpe : (backTo pos (starEach [] X.env)).any (·.1) = false := by rfl) :
    AE X B (.Call (.Name "dict" p) [.Call (.Name "zip" p2) [e, e2] [] pos2] [] pos) (Zk.tDictZip K ta) (wDictZip wa) :=
  ⟨hK ▸ Zk.pe_dictZip hc hg hm hg2 hm2 ha.pa hs hpl he hpe, le_dictZip ha.la⟩
theorem ae_dictListZip {p1 pos1 : Pos} (hK : X.K = K) (hc : X.calm = true) (hg : Gl X "dict") (hm : X.mg "dict" = none) (hg1 : Gl X "list") (hm1 : X.mg "list" = none) (hg2 : Gl X "zip") (hm2 : X.mg "zip" = none) (ha : AL X B [e, e2] ta wa)
    (hs : starEach [e, e2] X.env = (false, eval e X.env) :: starEach [e2] X.env := by rfl) (hpl : (backTo pos2 (starEach [e2] X.env)).any (·.1) = false := by rfl)
    (he1 : starEach [Zk.zipE p2 pos2 e e2] X.env = (false, eval (Zk.zipE p2 pos2 e e2) X.env) :: starEach [] X.env := by rfl) (hp1 : (backTo pos1 (starEach [] X.env)).any (·.1) = false := by rfl)
    (he : starEach [Zk.listE p1 pos1 (Zk.zipE p2 pos2 e e2)] X.env = (false, eval (Zk.listE p1 pos1 (Zk.zipE p2 pos2 e e2)) X.env) :: starEach [] X.env := by rfl) (hpe : (backTo pos (starEach [] X.env)).any (·.1) = false := by rfl) :
    AE X B (.Call (.Name "dict" p) [.Call (.Name "list" p1) [.Call (.Name "zip" p2) [e, e2] [] pos2] [] pos1] [] pos) (Zk.tDictZip K ta) (wDictZip wa) :=
  ⟨hK ▸ Zk.pe_dictListZip hc hg hm hg1 hm1 hg2 hm2 ha.pa hs hpl he1 hp1 he hpe, le_dictZip ha.la⟩
end
end Ab
end

section
set_option maxRecDepth 100000
set_option maxHeartbeats 4000000
/-! Readings over data: sep.join(texts). -/
namespace Ab
open PySem PySem.Spec PyProof.Rows L2 Gd
section
variable {X : Cx} {B : Bk} {o e : Expr} {to te : TE} {wo we : WE} {pos apos : Pos} {K : PySem.W.Frag}
def wJoin (wo we : WE) : WE := fun ρ m P => wo ρ m fun d m1 => match d with
  | .im (.str a) => we ρ m1 fun c m2 => (match c with
    | .im (.tuple xs) => ∃ ys : List Str, xs = ys.map .str ∧ (ys.map (·.length)).sum + ys.length * a.length ≤ 16777216 ∧ P (.im (.str (Txt.join a ys))) m2
    | _ => False)
  | _ => False
theorem strs_of {M : List Addr} {H : Hp} : ∀ {us : List V} {ys : List Str}, Reps M H us (ys.map .str) → us = ys.map V.str
  | _, [], .nil => rfl
  | _, n :: r, .cons (.str _) t => by rw [strs_of t]; rfl
theorem ae_join (hK : X.K = K) (ho : AE X B o to wo) (he : AE X B e te we) (hs : starEach [e] X.env = [(false, eval e X.env)] := by rfl) (hbase : attributeBase o "join" X.env (eval o X.env) = eval o X.env := by rfl) (hline : (apos.endLine == pos.line) = true := by rfl) :
    AE X B (.Call (.Attribute o "join" apos) [e] [] pos) (tM1 (fun x xs H Q => ∃ a p, ∃ ys : List Str, x = .str a ∧ xs = [.ref p] ∧ (SqL K H p (ys.map V.str) ∨ SqT K H p (ys.map V.str)) ∧ (ys.map (·.length)).sum + ys.length * a.length ≤ 16777216 ∧ Q (.str (Txt.join a ys)) H) to te) (wJoin wo we) :=
  ⟨hK ▸ pe_join ho.pe he.pe hs hbase hline, fun N M H σ ρ m P Q x0 S R hw q => ho.le N M H σ ρ m _ _ x0 S R hw fun v d M1 H1 m1 x1 R1 r1 h1 => by
    split at h1
    · cases r1
      refine ⟨⟨_, rfl⟩, he.le N M1 H1 σ ρ m1 _ _ (x0.trans x1) (S.ext x1) R1 h1 fun v2 c M2 H2 m2 x2 R2 r2 h2 => ?_⟩
      split at h2
      · obtain ⟨ys, rfl, hz, h2⟩ := h2
        cases r2 with
        | tup n2 e2 z2 =>
          rw [strs_of z2] at e2
          exact ⟨_, _, ys, rfl, rfl, .inr (.inl (.inl e2)), hz, q _ (.im (.str (Txt.join _ ys))) M2 H2 m2 (x1.trans x2) R2 (.str _) h2⟩
      · exact h2.elim
    · exact h1.elim⟩
end
end Ab
end

section
set_option maxRecDepth 100000
set_option maxHeartbeats 4000000
/-! Readings over data: a tuple times 1. -/
namespace Zk
open PySem PySem.Spec PyProof.Rows L2
theorem mul_one (l : Addr) (items : Array Value) (n : Nat) (dd : Option Addr) (sl : Array (Option Value)) (u : Tok) :
    Meets (Builtin.«tuple.__mul__» ⟨[.ref l, .int 1 u], []⟩) (fun _ R s => s.heap.get? l = some { cls := .type "tuple", dict := dd, data := .seq items n, slots := sl } ∧ R (.ok (.ret (Value.ref l))) s) :=
  .of_wp fun prog w A R s h => by
    obtain ⟨hp, g, d, tk, os⟩ := s
    obtain ⟨hl, h⟩ := h
    have f1 := AutoSeq1.idx_int
    wp_walk using wpAny_loadPart' hl
    exact ⟨_, rfl, h⟩
section
variable {X : Cx}
/-- a tuple times n: 1 gives the tuple itself -/
def rTimes (K : PySem.W.Frag) : R2 := fun x y H Q => ∃ l k xs, x = .ref l ∧ y = .int k ∧ SqT K H l xs ∧ ((k = 1 ∧ Q (.ref l) H) ∨ (xs ≠ [] ∧ 2 ≤ k ∧ k ≤ 1000 ∧ xs.length ≤ 1000 ∧ ∀ p, H p = none → Q (.ref p) (upd H p (.tup (List.replicate k.toNat xs).flatten))))
theorem op_times : OpR X (binaryOp .Mult) (rTimes X.K) := by
  intro pins s σ H x y v u Q I rx ry h
  obtain ⟨l, k, xs, ex, ey, hT, h⟩ := h
  rcases h with ⟨ek, q⟩ | ⟨h1, h2, h3, h4, q⟩
  · subst ex ey ek
    cases rx
    obtain ⟨t, rfl⟩ := ry
    obtain ⟨its, r, ⟨⟨cls, dd, data, sl⟩, ho, hc, n, hd⟩, hs⟩ := I.tuple hT
    simp only at hc hd
    subst hc hd
    exact wpAny_binaryOp_repeat_ref (T := "tuple") (U := "int") (by decide) ⟨_, ho, rfl⟩ (fun s' => typeIs_int s' 1 t) noFill_tuple_mul F.fills_int_mul F.slot_int_rmul repeat_tuple F.slot_int_index.lookup
      (call_meets F.slot_int_rmul (typeIs_int s 1 t) F.entry_int_rmul (F.args_int_rmul_2 _ _) (int_rmul_tuple 1 t l its.toArray n dd sl)
        ⟨ho, rfl, ⟨_, ho, rfl⟩, call_meets F.slot_tuple_mul ⟨_, ho, rfl⟩ F.entry_tuple_mul (F.args_tuple_mul_2 _ _) (mul_one l its.toArray n dd sl t) ⟨ho, ⟨.ref l, H, I, rfl, q⟩⟩⟩)
  · exact op_repT pins s σ H x y v u Q I rx ry ⟨l, k, xs, ex, ey, hT, h1, h2, h3, h4, q⟩
end
end Zk
end

section
set_option maxRecDepth 100000
set_option maxHeartbeats 4000000
/-! Readings over data: lists put together that may change, tuples repeated, isinstance of a list that stays, slices of lists of anything, pop(i), strip(letters). -/
namespace Ab
open PySem PySem.Spec PyProof.Rows L2 Gd
section
variable {X : Cx} {B : Bk} {k : Nat}
/-- list + list, a new list that may change -/
def gAddM : G2 := fun d e m P => match itemsA d m, itemsA e m with
  | some xs, some ys => xs.length + ys.length ≤ sizeLine ∧ P (.mu m.length) (m ++ [.lst (xs ++ ys)])
  | _, _ => False
theorem oa_addM : OA X (binaryOp .Add) gAddM := by
  rintro pins s σ H x y v u Q I rx ry ⟨N, M, m, d, e, P, R, r1, r2, hg, q⟩
  unfold gAddM at hg
  split at hg
  · rename_i xs ys e1 e2
    obtain ⟨a, us, rfl, h1, z1⟩ := itemsA_of R r1 e1
    obtain ⟨b, ws, rfl, h2, z2⟩ := itemsA_of R r2 e2
    refine op_cat pins s σ H _ _ v u Q I rx ry ⟨a, b, us, ws, rfl, rfl, h1, h2, by rw [pair_len z1, pair_len z2]; exact hg.1, fun p hp => ?_⟩
    obtain ⟨R', x', r'⟩ := newL R hp (pair_app z1 z2)
    exact q _ _ _ _ _ x' R' r' hg.2
  · exact hg.elim
theorem reps_rep {M : List Addr} {H : Hp} {us : List V} {xs : List PyData} (r : Reps M H us xs) : ∀ n : Nat, Reps M H (List.replicate n us).flatten (List.replicate n xs).flatten
  | 0 => .nil
  | n + 1 => by
    rw [List.replicate_succ, List.replicate_succ, List.flatten_cons, List.flatten_cons]
    exact r.append (reps_rep r n)
/-- tuple * n -/
def gTimes : G2 := fun d e m P => match d, e with
  | .im (.tuple xs), .im (.int k) => 1 ≤ k ∧ k ≤ 1000 ∧ xs ≠ [] ∧ xs.length ≤ 1000 ∧ P (.im (.tuple (List.replicate k.toNat xs).flatten)) m
  | _, _ => False
theorem oa_times : OA X (binaryOp .Mult) gTimes := by
  rintro pins s σ H x y v u Q I rx ry ⟨N, M, m, d, e, P, R, r1, r2, hg, q⟩
  unfold gTimes at hg
  split at hg
  · rename_i xs k
    obtain ⟨h1, h2, h3, h4, hg⟩ := hg
    cases r2
    cases r1 with
    | tup n e1 z =>
      rename_i a us
      refine Zk.op_times pins s σ H _ _ v u Q I rx ry ⟨a, k, us, rfl, rfl, .inl (.inl e1), ?_⟩
      by_cases e : k = 1
      · subst e
        refine .inl ⟨rfl, q _ (.im (.tuple xs)) M H m .refl R (Rep.tup n e1 z) ?_⟩
        simpa using hg
      · refine .inr ⟨fun c => h3 ?_, by omega, h2, by rw [z.length]; exact h4, fun p hp => ?_⟩
        · have := z.length
          rw [c] at this
          exact List.eq_nil_of_length_eq_zero this.symm
        · exact q _ (.im (.tuple _)) M _ m (.alloc hp) (R.alloc hp) (Rep.tup (R.live.fresh hp) upd_same ((reps_rep z _).keep (Kp.new hp))) hg
  · exact hg.elim
/-- isinstance, of a list that stays too -/
def rIsW (f : PyData → Bool) (T : String) : List V → Hp → VK → Prop := fun xs H Q => ∃ v, xs = [v, .ty T] ∧ ((∃ M d, Rep M H v d ∧ Q (.bl (f d)) H) ∨ ∃ a us ds, v = .ref a ∧ H a = some (.lst us) ∧ Q (.bl (f (.list ds))) H)
theorem isW {f : PyData → Bool} {T : String} (kit : ∀ {K : W.Frag} (d : PyData), W.kitOne K (.type (tyN d)) (.type T) = some (f d)) : CallR X (.builtin "isinstance") (rIsW f T) := fun pins s σ H xs us Q I r h =>
  let ⟨v, e, h⟩ := h
  match h with
  | .inl ⟨_, d, rp, q⟩ => call_isi pins s σ H xs us Q I r ⟨v, _, _, _, _, e, .ty _, rp.ty, kit d, q⟩
  | .inr ⟨a, us', ds, ev, ea, q⟩ => call_isi pins s σ H xs us Q I r ⟨v, _, _, _, _, e, .ty _, by subst ev; exact .base (.lst ea), kit (.list ds), q⟩
def wIsI2 (f : PyData → Bool) (w : WE) : WE := fun ρ m P => w ρ m fun d m1 => match d with | .im y => P (.im (.bool (f y))) m1 | .wl xs => P (.im (.bool (f (.list xs)))) m1 | _ => False
theorem ae_isI2 {f : PyData → Bool} {T : String} {n e : Expr} {t : TE} {we : WE} {p pos : Pos} (hc : CallR X (.builtin "isinstance") (rIsW f T)) (hg : Gl X "isinstance") (hm : X.mg "isinstance" = none) (hv : bootBuiltins "isinstance" = some (.builtin "isinstance")) (ha : AE X B e t we) (hT : PE X n (tC (.ty T)))
    (hs1 : starEach (e :: [n]) X.env = (false, eval e X.env) :: starEach [n] X.env := by rfl) (hs2 : starEach (n :: []) X.env = (false, eval n X.env) :: starEach [] X.env := by rfl)
    (hpl : (backTo pos (starEach [n] X.env)).any (·.1) = false := by rfl) : AE X B (.Call (.Name "isinstance" p) [e, n] [] pos) (tCB (rIsW f T) (tCons t (tCons (tC (.ty T)) tNil))) (wIsI2 f we) :=
  ⟨pe_callB hc hg hm hv (pa_cons ha.pe (pa_cons hT pa_nil hs2) hs1) (by decide) (by decide) hs1 hpl, fun N M H σ ρ m P Q x0 S R hw q => ha.le N M H σ ρ m _ _ x0 S R hw fun v d M1 H1 m1 x1 R1 r1 h1 => by
    split at h1
    · exact ⟨v, rfl, .inl ⟨M1 ++ N, _, r1, q _ (.im (.bool _)) M1 H1 m1 x1 R1 (.bl _) h1⟩⟩
    · obtain ⟨a, us, rfl, _, ea, _⟩ := r1
      exact ⟨_, rfl, .inr ⟨a, us, _, rfl, ea, q _ (.im (.bool _)) M1 H1 m1 x1 R1 (.bl _) h1⟩⟩
    · exact h1.elim⟩
/-- o[a:b] of a list of anything, the items between being data -/
def gSlW (d : AV) (lo hi : Option Int) (m : Store) (P : AV → Store → Prop) : Prop := match itemsA d m with
  | some xs => (match ims (cutD xs lo hi) with | some zs => P (.wl zs) m | none => False)
  | none => False
def lSlW : V → Option Int → Option Int → Hp → VK → Prop := fun x lo hi H Q => ∃ N M m d P, Rel N M H m ∧ RV M.length N M H x d ∧ gSlW d lo hi m P ∧ ∀ v d' M' H' m', Ext M H M' H' → Rel N M' H' m' → RV M'.length N M' H' v d' → P d' m' → Q v H'
theorem pair_drop {α β : Type} {F : α → β → Prop} : ∀ {xs : List α} {ys : List β} (n : Nat), Paired F xs ys → Paired F (xs.drop n) (ys.drop n)
  | _, _, 0, h => by simpa using h
  | _, _, _ + 1, .nil => .nil
  | _, _, n + 1, .cons _ t => pair_drop n t
theorem pair_take {α β : Type} {F : α → β → Prop} : ∀ {xs : List α} {ys : List β} (n : Nat), Paired F xs ys → Paired F (xs.take n) (ys.take n)
  | _, _, 0, _ => by simpa using Paired.nil
  | _, _, _ + 1, .nil => .nil
  | _, _, n + 1, .cons r t => .cons r (pair_take n t)
theorem sl_dataW : SlR X lSlW := by
  refine SlR.imp sl_list fun x lo hi H Q ⟨N, M, m, d, P, R, r1, hg, q⟩ => ?_
  unfold gSlW at hg
  split at hg
  · rename_i xs e1
    split at hg
    · rename_i zs e2
      obtain ⟨a, us, rfl, h1, z⟩ := itemsA_of R r1 e1
      have l := pair_len z
      refine ⟨a, us, rfl, .inl (.inl h1), fun p hp => ?_⟩
      have e : RVs M.length N M H (cutV us lo hi) (cutD xs lo hi) := by unfold cutV cutD; rw [l]; exact pair_take _ (pair_drop _ z)
      obtain ⟨x', R', r'⟩ := new_wl R hp (ims_of e e2)
      exact q _ _ M _ m x' R' r' hg
    · exact hg.elim
  · exact hg.elim
def wSlW (wa : WE) (wl wh : WO) : WE := fun ρ m P => wa ρ m fun d m1 => wl ρ m1 fun lo m2 => wh ρ m2 fun hi m3 => gSlW d lo hi m3 P
theorem ae_sliceW {lo hi : Option Expr} {tl th : TO} {wl wh : WO} {p2 pos : Pos} {a : Expr} {ta : TE} {wa : WE} (ha : AE X B a ta wa) (hl : AO X B lo tl wl) (hh : AO X B hi th wh) : AE X B (.Subscript a (.Slice lo hi none p2) pos) (tSl lSlW ta tl th) (wSlW wa wl wh) :=
  ⟨pe_slice sl_dataW ha.pe hl.po hh.po, fun N M H σ ρ m P Q x0 S R h q => ha.le N M H σ ρ m _ _ x0 S R h fun v d M1 H1 m1 x1 R1 r1 h1 => hl.lo N M1 H1 σ ρ m1 _ _ (x0.trans x1) (S.ext x1) R1 h1 fun l M2 H2 m2 x2 R2 h2 =>
    hh.lo N M2 H2 σ ρ m2 _ _ ((x0.trans x1).trans x2) ((S.ext x1).ext x2) R2 h2 fun u M3 H3 m3 x3 R3 h3 => ⟨N, M3, m3, d, P, R3, (r1.extL x2).extL x3, h3, fun z f M4 H4 m4 x4 R4 r4 h4 => q z f M4 H4 m4 (((x1.trans x2).trans x3).trans x4) R4 r4 h4⟩⟩
/-- {} -/
def wDNew : WE := fun _ m P => P (.im (.dict [])) m
theorem ae_dnew {pos : Pos} : AE X B (.Dict [] [] pos) tDNewK wDNew := ⟨pe_dnewK, fun N M H σ ρ m P Q x0 S R hw q p hp => q _ (.im (.dict [])) M _ m (.alloc hp) (R.alloc hp) (.emp (R.live.fresh hp) upd_same) hw⟩
def wDNewM : WE := fun _ m P => P (.mu m.length) (m ++ [.dk []])
theorem ae_dnewM {pos : Pos} : AE X B (.Dict [] [] pos) tDNewK wDNewM := ⟨pe_dnewK, fun N M H σ ρ m P Q x0 S R hw q p hp => by
  obtain ⟨a, b⟩ := R.grow (c := .dk []) (o := .dK []) hp ⟨[], upd_same, .nil⟩
  exact q _ (.mu m.length) _ _ _ b a ⟨by rw [← R.len]; simp, p, last_mu R p, rfl⟩ hw⟩
/-- l.pop(i) -/
def gPop : GM := fun d ds m P => match d, ds with
  | .mu j, [.im (.int i)] => 0 ≤ i ∧ i < 2 ^ 63 ∧ (match m[j]? with | some (.lst xs) => (match xs[i.toNat]? with | some y => P y (m.set j (.lst (xs.eraseIdx i.toNat))) | none => False) | _ => False)
  | _, _ => False
theorem pair_erase {α β : Type} {F : α → β → Prop} : ∀ {xs : List α} {ys : List β} (n : Nat), Paired F xs ys → Paired F (xs.eraseIdx n) (ys.eraseIdx n)
  | _, _, _, .nil => .nil
  | _, _, 0, .cons _ t => t
  | _, _, n + 1, .cons r t => .cons r (pair_erase n t)
theorem ma_pop : MA X "list.pop" gPop := by
  rintro pins s σ H x vs v us Q I rx rs ⟨N, M, m, d, ds, P, R, r1, r2, hg, q⟩
  unfold gPop at hg
  split at hg
  · rename_i j i
    obtain ⟨h1, h2, hg⟩ := hg
    split at hg
    · rename_i xs ex
      split at hg
      · rename_i y ey
        obtain ⟨_, a, ha, rfl⟩ := r1
        obtain ⟨w, rfl, rw'⟩ := val1 r2
        cases rw'
        obtain ⟨us', h3, h4⟩ := R.cell j a _ ha ex
        have ma : a ∈ M := List.mem_of_getElem? ha
        obtain ⟨z, ez, rz⟩ := pair_at h4 ey
        have hj := (List.getElem?_eq_some_iff.mp ha).1
        have hi := (List.getElem?_eq_some_iff.mp ez).1
        obtain ⟨R', x'⟩ := R.put (c := .lst (xs.eraseIdx i.toNat)) (o := .lst (us'.eraseIdx i.toNat)) ha ⟨_, upd_same, pair_imp (fun _ _ r => r.put ma) (pair_erase _ h4)⟩
        refine mt_popAt pins s σ H _ _ v us Q I rx rs ⟨a, us', i, i.toNat, z, rfl, rfl, h3, by omega, h2, ?_, ez, q _ y M _ _ x' R' ((rz.put ma).up (by omega)) hg⟩
        unfold seqIndex?
        simp
        omega
      · exact hg.elim
    · exact hg.elim
  · exact hg.elim
end
end Ab
end

section
set_option maxRecDepth 100000
set_option maxHeartbeats 4000000
/-! set(list of texts) and its texts in order. -/
namespace Gd
open PySem PySem.Spec PyProof.Rows L2
/-- the text of an entry -/
def txtOf (e : Int × Value) : Str := match e.2 with | .str s _ => s | _ => ""
def SetS (P : Program) (w : World) (h : Heap) (a : Addr) (S : Str → Bool) (n : Nat) : Prop :=
  ∃ o es ep t, h.get? a = some o ∧ o.ExactSet ∧ o.data = .set es ep t ∧ ElemsOf (strKind P w) es.toList ∧ (es.toList.map txtOf).Nodup ∧ (∀ k, S k = true ↔ k ∈ es.toList.map txtOf) ∧
    es.size < scanBound ∧ t.fits es.size = true ∧ es.size = n ∧ Ris t.place.toList ∧ (w.params.followText "set-order" = true ∨ t.led = true)
theorem SetS.at {P : Program} {w : World} {h h' : Heap} {a : Addr} {S : Str → Bool} {n : Nat} (R : SetS P w h a S n) (k : ∀ o, h.get? a = some o → h'.get? a = some o) : SetS P w h' a S n :=
  let ⟨o, es, ep, t, ho, r⟩ := R; ⟨o, es, ep, t, k o ho, r⟩
theorem SetS.congr {P : Program} {w : World} {h : Heap} {a : Addr} {S S' : Str → Bool} {n : Nat} (R : SetS P w h a S n) (k : ∀ x, S' x = S x) : SetS P w h a S' n := by
  have : S' = S := funext k
  rw [this]; exact R
theorem is_txt {P : Program} {w : World} {k : Str} {v : Value} (h : (strKind P w).is k v = true) : ∃ t, v = .str k t := by
  have h : Value.isStrOf k v = true := h
  unfold Value.isStrOf at h
  cases v <;> simp_all
theorem txt_is {P : Program} {w : World} {e : Int × Value} {k : Str} (h : (strKind P w).is k e.2 = true) : txtOf e = k := by
  obtain ⟨t, ht⟩ := is_txt h
  unfold txtOf; rw [ht]
section
variable {P : Program} {w : World} {A : Around} {E : Value → Shared → Prop} {s : Shared} {a : Addr}
theorem setS_tail {g : Bool → Sem Unit} (hg : ∀ (b : Bool) (s₁ : Shared) (Q' : Unit → Shared → Prop), Q' () s₁ → wpAny (model P w) A (g b) Q' E s₁) {o : Obj} {es : Array (Int × Value)} {ep : Nat} {t : SetTable}
    (ho : s.heap.get? a = some o) (hex : o.ExactSet) (hd : o.data = .set es ep t) {es1 : Array (Int × Value)} {t2 : SetTable} {S' : Str → Bool} (g1 : ElemsOf (strKind P w) es1.toList) (nd1 : (es1.toList.map txtOf).Nodup)
    (m1 : ∀ k, S' k = true ↔ k ∈ es1.toList.map txtOf) (hb1 : es1.size < scanBound) (hf2 : t2.fits es1.size = true) (hr : Ris t2.place.toList) (hl : w.params.followText "set-order" = true ∨ t2.led = true) {wasDummy : Bool} {R : Option Bool → Shared → Prop}
    (hR : ∀ h', Heap.SameBut a s.heap h' → SetS P w h' a S' es1.size → R (some true) { heap := h', gens := s.gens, drawn := s.drawn, toks := s.toks, os := s.os }) :
    wpAny (model P w) A (do
      storeSet a es1 t2
      if (!wasDummy && t2.tooFull) = true then do
        g (relayAll t2 es1 (SetTable.grown es1.size)).snd.snd
        storeSet a (relayAll t2 es1 (SetTable.grown es1.size)).fst (relayAll t2 es1 (SetTable.grown es1.size)).snd.fst
        pure (some true)
      else pure (some true)) R E s := by
  refine wpAny_bind (wpAny_storeSet_of ho hd ?_ (fits_of_scanBound hb1))
  have ho1 := store_at (es' := es1) (t' := t2) ho hd
  have sb1 := Heap.SameBut.update s.heap a (Obj.putSet es1 t2)
  by_cases c : (!wasDummy && t2.tooFull) = true
  · rw [if_pos c]
    have pm := relayAll_perm t2 es1 (SetTable.grown es1.size)
    have hf3 := relayAll_fits t2 es1 (SetTable.grown es1.size)
    have hr3 := relayAll_ris t2 es1 (SetTable.grown es1.size)
    have hl3 := relayAll_led t2 es1 (SetTable.grown es1.size)
    generalize relayAll t2 es1 (SetTable.grown es1.size) = z at pm hf3 hr3 hl3
    obtain ⟨es2, t3, gave⟩ := z
    simp only at pm hf3 hr3 hl3 ⊢
    have hsz : es2.size = es1.size := by rw [← Array.length_toList, pm.length_eq, Array.length_toList]
    have hb2 : es2.size < scanBound := by rw [hsz]; exact hb1
    refine wpAny_bind (hg gave _ _ (wpAny_bind (wpAny_storeSet_of ho1 rfl ?_ (fits_of_scanBound hb2))))
    have ho2 := store_at (es' := es2) (t' := t3) ho1 rfl
    refine wpAny_pure (hR _ (sb1.trans (Heap.SameBut.update _ a (Obj.putSet es2 t3))) ⟨_, es2, _, t3, ho2, hex, rfl, fun e he => g1 e (pm.mem_iff.mp he), (pm.map txtOf).nodup_iff.mpr nd1, fun k => (m1 k).trans (pm.map txtOf).mem_iff.symm, hb2, hf3, hsz, hr3, hl.imp id fun z => by rw [hl3]; exact z⟩)
  · rw [if_neg c]
    exact wpAny_pure (hR _ sb1 ⟨_, es1, _, t2, ho1, hex, rfl, g1, nd1, m1, hb1, hf2, rfl, hr, hl⟩)
theorem setS_add {S : Str → Bool} {n : Nat} {k : Str} {tk : Tok} {Q : Bool → Shared → Prop} (R : SetS P w s.heap a S n) (room : n + 1 < scanBound)
    (hQ : ∀ h', Heap.SameBut a s.heap h' → SetS P w h' a (fun j => S j || decide (j = k)) (if S k = true then n else n + 1) → Q (!S k) { heap := h', gens := s.gens, drawn := s.drawn, toks := s.toks, os := s.os }) :
    wpAny (model P w) A (setAddHashed a (.str k tk) ((strKind P w).hash k)) Q E s := by
  obtain ⟨o, es, ep, t, ho, hex, hd, hel, nd, hm, hb, hf, hn, hr, hl⟩ := R
  have hkey := strKind_is P w k tk
  have hsc : (Value.str k tk).scannable = true := rfl
  show wpAny (model P w) A (holding [.str k tk] (setAddHashedIn a (.str k tk) ((strKind P w).hash k) 100000)) Q E s
  rw [setAddHashedIn.eq_def]
  refine wpAny_holding (wpAny_bind (wpAny_setState_of ho hd hf ?_))
  simp only []
  rw [byScan_of hsc hb hel]
  simp only [if_true]
  refine wpAny_bind ?_
  unfold setAddByScan
  refine wpAny_bind (wpAny_rule (wpAny_bind (wpAny_setScan_of hkey ho hd hf hel ?_)))
  have mem : k ∈ es.toList.map txtOf ↔ ∃ e ∈ es.toList, (strKind P w).is k e.2 = true := by
    rw [List.mem_map]
    constructor
    · rintro ⟨e, he, rfl⟩
      obtain ⟨⟨k', hk', _⟩, _⟩ := hel e he
      exact ⟨e, he, by rw [txt_is hk']; exact hk'⟩
    · rintro ⟨e, he, h⟩
      exact ⟨e, he, txt_is h⟩
  cases c : es.toList.findIdx? (fun e => (strKind P w).is k e.2) with
  | some j =>
    simp only []
    have : k ∈ es.toList.map txtOf := mem.mpr (by
      obtain ⟨h1, h2, _⟩ := List.findIdx?_eq_some_iff_getElem.mp c
      exact ⟨_, List.getElem_mem h1, h2⟩)
    have hS := (hm k).mpr this
    refine wpAny_pure ?_
    simp only []
    refine wpAny_pure ?_
    have := hQ s.heap ⟨rfl, fun _ _ => rfl⟩ ⟨o, es, ep, t, ho, hex, hd, hel, nd, fun j => by
      rw [← hm j]
      by_cases e : j = k
      · subst e; simp [hS]
      · simp [e], hb, hf, by rw [if_pos hS]; exact hn, hr, hl⟩
    rw [hS] at this
    exact this
  | none =>
    simp only []
    have hnk : k ∉ es.toList.map txtOf := fun z => by
      obtain ⟨e, he, h⟩ := mem.mp z
      rw [List.findIdx?_eq_none_iff] at c
      exact absurd h (by rw [c e he]; simp)
    have hS : S k = false := by
      cases q : S k with
      | false => rfl
      | true => exact absurd ((hm k).mp q) hnk
    have pm := layNew_perm t es ((strKind P w).hash k) (.str k tk)
    have hf1 := layNew_fits t es ((strKind P w).hash k) (.str k tk)
    have hr1 := layNew_ris t es ((strKind P w).hash k) (.str k tk) hr
    have hl1 := layNew_led t es ((strKind P w).hash k) (.str k tk)
    generalize layNew t es ((strKind P w).hash k) (.str k tk) = z at pm hf1 hr1 hl1
    obtain ⟨es1, t1, wasDummy, gave⟩ := z
    simp only at pm hf1 hr1 hl1 ⊢
    have hgw : ∀ {g : Bool → Sem Unit}, (∀ b, g b = match b with | true => rule "set.scan.the-table-gave-way" | false => pure ()) → ∀ (b : Bool) (s₁ : Shared) (Q' : Unit → Shared → Prop), Q' () s₁ → wpAny (model P w) A (g b) Q' E s₁ := fun hg b s₁ Q' q => by
      rw [hg b]
      cases b with
      | false => exact wpAny_pure q
      | true => exact wpAny_rule q
    rw [Array.toList_push] at pm
    have g1 : ElemsOf (strKind P w) es1.toList := (hel.push hkey hsc).perm pm
    have pk : (es1.toList.map txtOf).Perm (es.toList.map txtOf ++ [k]) := by
      have := pm.map txtOf
      rwa [List.map_append] at this
    have nd1 : (es1.toList.map txtOf).Nodup := pk.nodup_iff.mpr (by
      rw [List.nodup_append]
      exact ⟨nd, by simp, fun x hx y hy => by rw [List.mem_singleton.mp hy]; exact fun z => hnk (z ▸ hx)⟩)
    have m1 : ∀ j, (S j || decide (j = k)) = true ↔ j ∈ es1.toList.map txtOf := fun j => by
      rw [pk.mem_iff, List.mem_append, ← hm j, List.mem_singleton, Bool.or_eq_true, decide_eq_true_eq]
    have hs1 : es1.size = n + 1 := by rw [← Array.length_toList, pm.length_eq, List.length_append, Array.length_toList, hn]; rfl
    have hb1 : es1.size < scanBound := by rw [hs1]; exact room
    have fin : ∀ h', Heap.SameBut a s.heap h' → SetS P w h' a (fun j => S j || decide (j = k)) es1.size → Q true { heap := h', gens := s.gens, drawn := s.drawn, toks := s.toks, os := s.os } := fun h' sb r => by
      have := hQ h' sb (by rw [hS]; simp only [Bool.false_eq_true, if_false]; rw [← hs1]; exact r)
      rw [hS] at this
      exact this
    have hl2 : w.params.followText "set-order" = true ∨ t1.led = true := hl.imp id fun z => by rw [hl1]; exact z
    refine wpAny_bind (hgw (fun b => by cases b <;> rfl) gave _ _ ?_)
    by_cases c2 : t1.plain = true
    · rw [if_pos c2]
      refine wpAny_bind (wpAny_pure ?_)
      simp only [Bool.false_eq_true, if_false]
      exact setS_tail (t2 := { mask := t1.mask, place := t1.place, dummies := t1.dummies, finger := t1.finger, led := t1.led, moves := t1.moves, plain := false }) (hgw fun b => by cases b <;> rfl) ho hex hd g1 nd1 m1 hb1 hf1 hr1 hl2 fun h' sb r => wpAny_pure (fin h' sb r)
    · rw [if_neg c2]
      refine wpAny_bind (wpAny_pure ?_)
      simp only [if_true]
      exact setS_tail (hgw fun b => by cases b <;> rfl) ho hex hd g1 nd1 m1 hb1 hf1 hr1 hl2 fun h' sb r => wpAny_pure (fin h' sb r)
/-- what set.__init__ leaves -/
theorem set_update_strs {I : Addr} {fp wr : List Addr} {G : Array GenState → Array GenState → Prop} {n : Nat} {Pv : Nat → Value → Prop} {St : Nat → Shared → Prop} {R : Result → Shared → Prop}
    (W : WalksS P w A.in1 I fp wr G n Pv St) (S : Addr) (hSf : S ∉ fp) (ns : List Str) (hn : n = ns.length) (hb : ns.length + 1 < scanBound) (hval : ∀ i v, Pv i v → ∃ k t, ns[i]? = some k ∧ v = .str k t) :
    ∀ (k i : Nat) (s : Shared), n - i = k → i ≤ n → St i s → (∃ c, c ≤ i ∧ SetS P w s.heap S (fun j => decide (j ∈ ns.take i)) c) →
      (∀ (s' : Shared) (c : Nat), Moved (S :: wr) G s s' → c ≤ n → SetS P w s'.heap S (fun j => decide (j ∈ ns)) c → R (.ok (.ret .none)) s') →
      codeAny (model P w) A (.builtin "set.update.loop" { pos := [.ref S, .ref I] }) R s := by
  have hSw : S ∉ wr := fun h => hSf (W.sub S h)
  have hsub : ∀ b ∈ wr, b ∈ S :: wr := fun b hb => List.mem_cons_of_mem S hb
  intro k
  induction k with
  | zero =>
    rintro i s hk' hi hst ⟨c, hc, hS⟩ hR
    have hin : i = n := by omega
    subst hin
    refine codeAny_builtin PyProof.Rows.F.entry_set_update_loop ?_
    rw [Around.under_plainId PyProof.Rows.F.plain_set_update_loop]
    refine wpAny_bind (W.done s _ _ hst fun s' hm => ?_)
    have e : ns.take i = ns := List.take_of_length_le (by omega)
    rw [e] at hS
    exact wpAny_pure (hR s' c (hm.mono hsub) hc (hS.at fun o e => hm.heap S o hSw e))
  | succ k ih =>
    rintro i s hk' hi hst ⟨c, hc, hS⟩ hR
    have hlt : i < n := by omega
    refine codeAny_builtin PyProof.Rows.F.entry_set_update_loop ?_
    rw [Around.under_plainId PyProof.Rows.F.plain_set_update_loop]
    refine wpAny_bind (W.item i s _ _ hlt hst fun v s' hP hst' hm => ?_)
    obtain ⟨z, t, hz, rfl⟩ := hval i v hP
    have hS' := hS.at (h' := s'.heap) fun o e => hm.heap S o hSw e
    refine wpAny_bind (wpAny_holding (wpAny_holding (wpAny_bind ((strKind P w).pyHash (strKind_is P w z t) (setS_add hS' (by omega) fun h' hsb hS2 => ?_)))))
    have hS3 : SetS P w h' S (fun j => decide (j ∈ ns.take (i + 1))) (if decide (z ∈ ns.take i) = true then c else c + 1) := hS2.congr fun j => by
      rw [List.take_add_one, hz]
      simp [List.mem_append, Bool.decide_or]
    have hc3 : (if decide (z ∈ ns.take i) = true then c else c + 1) ≤ i + 1 := by split <;> omega
    refine wpAny_pure ⟨plainId_quiet PyProof.Rows.F.plain_set_update_loop _, ih (i + 1) _ (by omega) hlt (W.frame (i + 1) s' h' _ hst' (Nat.le_succ _) fun b hb o e => by rw [hsb.2 b fun h => hSf (h ▸ hb)]; exact e) ⟨_, hc3, hS3⟩ fun s'' c2 hm'' hc'' hS'' => hR s'' c2 (Moved.trans W.gtrans (Moved.then_heap (hm.mono hsub) (Nat.le_succ _) fun b o hb e => by rw [hsb.2 b fun h => hb (h ▸ List.mem_cons_self)]; exact e) hm'') hc'' hS''⟩
end
section
variable {P : Program} {w : World} {A : Around} {E : Value → Shared → Prop} {s : Shared}
/-- what set.__init__ leaves -/
abbrev FillS (P : Program) (w : World) (s : Shared) (ns : List Str) (E : Value → Shared → Prop) : Result → Shared → Prop := wants (fun r z => r = .none ∧ ∃ g k c, z = { s with heap := g, toks := k } ∧ SetS P w g s.heap.objs.size (fun j => decide (j ∈ ns)) c ∧ c ≤ ns.length ∧ ∀ b o, s.heap.get? b = some o → g.get? b = some o) E
theorem setS_new {h : Heap} {a : Addr} {ns : List Str} (ho : h.get? a = some (nu w)) : SetS P w h a (fun j => decide (j ∈ ns.take 0)) 0 :=
  ⟨_, #[], 0, _, ho, ⟨rfl, rfl, rfl⟩, rfl, (fun e he => by cases he), by simp, (fun k => by simp), by decide, rfl, rfl, List.Pairwise.nil, by
    cases h : w.params.followText "set-order" with
    | false => exact .inr rfl
    | true => exact .inl rfl⟩
theorem set_of_strs {l : Addr} {its : Array Value} {ns : List Str} {G : Value → Shared → Prop} (off : A.handled = none) (hl : s.heap.IsList l its) (iv : ∀ (i : Nat) (v : Value), its[i]? = some v → ∃ k t, ns[i]? = some k ∧ v = .str k t) (n_its : its.size = ns.length) (few : ns.length + 1 < scanBound)
    (go : ∀ (g : Heap) (k c : Nat), SetS P w g s.heap.objs.size (fun j => decide (j ∈ ns)) c → c ≤ ns.length → (∀ b o, s.heap.get? b = some o → g.get? b = some o) → G (.ref s.heap.objs.size) { s with heap := g, toks := k }) :
    wpAny (model P w) A (call (.type "set") [.ref l]) G E s := by
  have at0 : (s.heap.push (nu w)).get? s.heap.objs.size = some (nu w) := Heap.get?_push_size _ rfl
  have big : (s.heap.push (nu w)).objs.size = s.heap.objs.size + 1 := Heap.size_push ..
  obtain ⟨cm, tm, hmro⟩ := F.called_set.mro
  have k1 := F.called_set.made; have k2 := F.called_set.sub
  refine wpAny_call (codeAny_of_tree (show wpAny _ _ (callAny (.type "set") _) _ _ _ from wpAny_pure ⟨Code.quiet_builtin _ (by decide +kernel), codeAny_builtin F.entry_type_call ?_⟩))
  rw [Around.under_plain (weight_type_call_type "set" [.ref l] []) rfl]
  have k3 := F.called_set.notType; have k4 := F.called_set.canCreate; have k5 := F.typeCall_set_1 (.ref l)
  repeat (any_goals (first | assumption | wp_step))
  refine codeAny_mono (code_set_led1 (.ref l) (E := E) (Q₁ := fun x z => x = .ref s.heap.objs.size ∧ z = { s with heap := s.heap.push (nu w) }) ⟨rfl, rfl⟩) fun r z hr => ?_
  match r, hr with
  | .error e, hr => exact hr
  | .ok (.ret x), hr =>
    obtain ⟨rfl, rfl⟩ := hr
    have ty : Shared.TypeIs { s with heap := s.heap.push (nu w) } (.ref s.heap.objs.size) "set" := ⟨_, at0, rfl⟩
    have k6 := F.called_set.init.lookup; have k7 := F.called_set.init.bind (.ref s.heap.objs.size)
    repeat (any_goals (first | assumption | wp_step))
    refine codeAny_mono (codeAny_call_builtin (R := FillS P w s ns E) F.called_set.init.plain F.entry_set_init (check_set_init_1 ty ?_)) fun r2 z2 hr2 => ?_
    · obtain ⟨⟨c0, d0, dt, sl⟩, hol, hc, m, hd⟩ := hl
      simp only at hc hd
      subst hc hd
      have lk := Heap.get?_push_of_some (nu w) hol
      have at1 : (s.heap.push (nu w)).IsList l its := ⟨_, lk, rfl, m, rfl⟩
      have low : l < s.heap.objs.size := Heap.lt_size hol
      have p1 := PySem.F.sub_list_set; have p2 := PySem.F.sub_list_frozenset
      have p3 : (Value.type "list" == Value.type "dict") = false := by decide
      unfold Builtin.«set.__init__» noKeywords Builtin.Frozenset.updateFrom
      generalize hPI : pyIter = PI
      wp_walk
      subst hPI
      refine wpAny_pyIter_list at1 (wpAny_bind (wpAny_runValue ?_))
      have off3 : A.in1.in1.in1.handled = none := by simp [off]
      have apart : l ≠ (s.heap.push (nu w)).objs.size := by rw [big]; exact Nat.ne_of_lt (Nat.lt_succ_of_lt low)
      have mine : s.heap.objs.size ∉ [(s.heap.push (nu w)).objs.size, l] := fun z => by
        rcases List.mem_cons.mp z with z | z
        · exact absurd (z.trans big) (Nat.ne_of_lt (Nat.lt_succ_self _))
        · exact absurd (List.mem_singleton.mp z) (Nat.ne_of_gt low)
      refine set_update_strs ((Walks.list off3 _ l apart its).toS) s.heap.objs.size mine ns n_its few (fun i v hv => iv i v hv) (its.size - 0) 0 _ (by omega) (Nat.zero_le _) ⟨⟨_, Heap.get?_push_size _ rfl, rfl, rfl⟩, at1.push _⟩
        ⟨0, Nat.le_refl 0, setS_new (Heap.get?_push_of_some _ at0)⟩ fun z c mv hc hS => ?_
      obtain ⟨g, g2, d2, k, o2⟩ := z
      obtain rfl : g2 = s.gens := mv.gens
      obtain rfl : d2 = s.drawn := mv.drawn
      obtain rfl : o2 = s.os := mv.os
      refine wpAny_pure (show wpAny _ _ (ret Value.none) _ _ _ from wpAny_pure ⟨rfl, g, k, c, rfl, hS, by omega, fun b o e => ?_⟩)
      have hb := Heap.lt_size e
      exact mv.heap b o (fun z => by
        rcases List.mem_cons.mp z with z | z
        · exact absurd z (Nat.ne_of_lt hb)
        · exact absurd ((List.mem_singleton.mp z).trans big) (Nat.ne_of_lt (Nat.lt_succ_of_lt hb))) (Heap.get?_push_of_some _ (Heap.get?_push_of_some _ e))
    · match r2, hr2 with
      | .error e, hr2 => exact hr2
      | .ok (.ret x), hr2 =>
        obtain ⟨rfl, g, k, c, rfl, hS, hc, kp⟩ := hr2
        repeat (any_goals (first | assumption | wp_step))
        exact go g k c hS hc kp
def txtV (v : Value) : Str := match v with | .str s _ => s | _ => ""
theorem each_txt : ∀ {vs : List Value}, (∀ v ∈ vs, ∃ k t, v = Value.str k t) → W.EachIs (fun v k => ∃ t, v = Value.str k t) vs (vs.map txtV)
  | [], _ => .nil
  | v :: vs, h => .cons (by obtain ⟨k, t, e⟩ := h v List.mem_cons_self; subst e; exact ⟨t, rfl⟩) (each_txt fun u hu => h u (List.mem_cons_of_mem _ hu))
/-- sorted(set of texts) -/
theorem sorted_setS {a : Addr} {S : Str → Bool} {n : Nat} {Q : Value → Shared → Prop} (R : SetS P w s.heap a S n) (hh : A.handled = none) (hu : A.units + 20 < cLine)
    (hQ : ∀ (s' : Shared) (p : Nat) (out : List Value) (c : Nat) (ss : List Str), (∀ b o, s.heap.get? b = some o → s'.heap.get? b = some o) → s'.gens = s.gens → s'.os = s.os → s.heap.objs.size ≤ p →
      s'.heap.get? p = some (PyProof.Rows.seqObj "list" out.toArray c) → W.EachIs (fun v k => ∃ t, v = Value.str k t) out (ss.mergeSort (W.dataLe false PyData.str)) → ss.Nodup → (∀ k, k ∈ ss ↔ S k = true) → ss.length = n → Q (.ref p) s') :
    wpAny (model P w) A (call (.builtin "sorted") [.ref a]) Q E s := by
  obtain ⟨o, es, ep, t, ho, hex, hd, hel, nd, hm, hb, hf, hn, hr, hl⟩ := R
  refine Calls.call_function_entry PyProof.Rows.kind_sorted PyProof.Rows.plain_sorted PyProof.Rows.entry_sorted (PyProof.Rows.args_sorted1 (.ref a)) ?_
  refine wpAny_bind (wpAny_pure (wpAny_bind (collect_set hh ⟨o, ho, hex.1, hd⟩ hf hb hr hl fun s1 vs k1 hz g1 o1 pm => ?_)))
  have hall : ∀ v ∈ vs, ∃ k t, v = Value.str k t := fun v hv => by
    obtain ⟨e, he, rfl⟩ := List.mem_map.mp (pm.mem_iff.mp hv)
    obtain ⟨⟨k, hk, _⟩, _⟩ := hel e he
    obtain ⟨t, ht⟩ := is_txt hk
    exact ⟨k, t, ht⟩
  have pk : (vs.map txtV).Perm (es.toList.map txtOf) := by
    have := pm.map txtV
    rwa [List.map_map] at this
  have lv : vs.length = n := by rw [pm.length_eq, List.length_map, Array.length_toList, hn]
  have small : vs.length ≤ sizeLine := by rw [lv, ← hn]; exact fits_of_scanBound hb
  refine wpAny_bind (wpAny_newList ?_ small)
  have hoL : (s1.heap.push { cls := Value.type "list", data := Data.seq vs.toArray }).get? s1.heap.objs.size = some (PyProof.Rows.seqObj "list" vs.toArray 0) := Heap.get?_push_size _ rfl
  refine wpAny_bind (wpAny_holding ?_)
  have ea := each_txt hall
  refine W.list_sort_data (enc := PyData.str) (R := fun v k => ∃ t, v = Value.str k t) (bs := vs.map txtV) hoL ea (ea.mono fun v k ⟨t, e⟩ => ⟨[], by subst e; exact .str k t, List.not_mem_nil⟩) (W.AllAlike.of fun _ _ => by simp [W.alike]) (W.Sortable.others fun _ => ⟨by simp, by simp⟩) (by rw [List.length_map]; exact small) (fun b _ => ?_) fun out ho eo => ?_
  · show A.in1.units + 1 + (PyData.str b).depth < cLine
    simp only [PyData.depth]
    show A.units + 1 + 1 + _ < cLine
    omega
  · obtain ⟨c, hc⟩ := sortedHeap_at (out := out.toArray) hoL
    refine wpAny_pure ⟨_, rfl, hQ _ s1.heap.objs.size out c (vs.map txtV) (fun b u e => ?_) g1 o1 hz hc eo (pk.nodup_iff.mpr nd) (fun k => by rw [pk.mem_iff, hm k]) (by rw [List.length_map]; exact lv)⟩
    have q := k1 b u e
    have hlt := Heap.lt_size q
    show (sortedHeap _ s1.heap.objs.size vs out.toArray).get? b = some u
    rw [sortedHeap_old (Nat.ne_of_lt hlt) (by rw [size_push']; exact Nat.lt_succ_of_lt hlt)]
    exact Heap.get?_push_of_some _ q
end
abbrev SetSO (P : Program) (w : World) (a : Addr) (S : Str → Bool) (n : Nat) : HO := .ext fun h => SetS P w h a S n
theorem setSO_new {P : Program} {w : World} {H : Hp} {h : Heap} {a : Addr} {S : Str → Bool} {n : Nat} (R : SetS P w h a S n) : ObjOk P w H h a (SetSO P w a S n) :=
  ⟨R, by obtain ⟨o, _, _, _, ho, _⟩ := R; exact ⟨o, ho⟩, fun _ _ p k => p.at k⟩
section
variable {X : Cx} {k : Nat} {P : Program} {w : World}
def rSetS (K : PySem.W.Frag) (P : Program) (w : World) : List V → Hp → VK → Prop := fun xs H Q => ∃ (a : Addr) (ns : List Str), xs = [V.ref a] ∧ SqL K H a (ns.map V.str) ∧ ns.length < 1000 ∧
  ∀ (p : Addr) (c : Nat), H p = none → c ≤ ns.length → Q (.ref p) (upd H p (SetSO P w p (fun j => decide (j ∈ ns)) c))
theorem strs_at {us : List Value} : ∀ {ns : List Str}, Vals (ns.map V.str) us → ∀ (i : Nat) (v : Value), us[i]? = some v → ∃ k t, ns[i]? = some k ∧ v = .str k t := by
  induction us with
  | nil => intro ns h i v e; simp at e
  | cons u r ih =>
    intro ns h i v e
    cases ns with
    | nil => cases h
    | cons n t =>
      cases h with
      | cons h1 h2 =>
        cases i with
        | zero =>
          obtain ⟨tk, rfl⟩ := h1
          cases e
          exact ⟨n, tk, rfl, rfl⟩
        | succ i => exact ih h2 i v (by simpa using e)
theorem cr_setS {K : PySem.W.Frag} (hK : X.K = K) (hP : X.prog = P) (hw : X.w = w) (hc : X.calm = true) : CallR X (.type "set") (rSetS K P w) := by
  subst hK hw hP
  intro pins s σ H xs us Q I r h
  obtain ⟨a, ns, rfl, hs, few, q⟩ := h
  obtain ⟨its, rv, hl, _⟩ := I.list hs
  rw [Vals.ref1 r]
  have hlen := rv.length
  refine set_of_strs (ns := ns) (I.ok.hd hc) hl.isList (fun i v hv => strs_at rv i v (by simpa using hv)) (by rw [List.length_map] at hlen; simpa using hlen.symm) (by unfold scanBound; omega) fun g t c R hc' kp => ?_
  exact ⟨.ref _, _, I.laid (t' := t) kp (Nat.le_refl _) (setSO_new R), rfl, q _ c (I.hok.fresh (Nat.le_refl _)) hc'⟩
def rSortedSetS (P : Program) (w : World) : List V → Hp → VK → Prop := fun vs H Q => ∃ (a : Addr) (S : Str → Bool) (n : Nat), vs = [V.ref a] ∧ H a = some (SetSO P w a S n) ∧
  ∀ (ss : List Str) (p : Addr), ss.Nodup → (∀ k, k ∈ ss ↔ S k = true) → ss.length = n → H p = none → Q (.ref p) (upd H p (.lst ((ss.mergeSort (W.dataLe false PyData.str)).map V.str)))
theorem vals_txt : ∀ {out : List Value} {ms : List Str}, W.EachIs (fun v k => ∃ t, v = Value.str k t) out ms → Vals (ms.map V.str) out
  | _, _, .nil => .nil
  | _, _, .cons h t => .cons h (vals_txt t)
theorem cr_sortedSetS (hP : X.prog = P) (hw : X.w = w) (hc : X.calm = true) (hr : Room k X.A) : CallR X (.builtin "sorted") (rSortedSetS P w) := by
  subst hw hP
  intro pins s σ H vs us Q I r h
  obtain ⟨a, S, n, rfl, ha, q⟩ := h
  have R : SetS X.prog X.w s.heap a S n := (I.hok a (SetSO X.prog X.w a S n) ha).1
  rw [Vals.ref1 r]
  have un := hr.un
  refine sorted_setS R (I.ok.hd hc) (by omega) fun s' p out c ss kk g o hp hg ho nd hm hl => ?_
  have hn := I.hok.fresh hp
  have hlen : ((ss.mergeSort (W.dataLe false PyData.str)).map V.str).length ≤ sizeLine := by
    rw [List.length_map, List.length_mergeSort, hl]
    obtain ⟨_, es, _, _, _, _, _, _, _, _, hb, _, hn, _⟩ := R
    rw [← hn]; exact fits_of_scanBound hb
  have bare : AllBare s'.gens := by rw [g]; exact I.bare
  have J : L2.Inv X pins σ (upd H p (.lst ((ss.mergeSort (W.dataLe false PyData.str)).map V.str))) { heap := s'.heap, gens := s'.gens, drawn := s'.drawn, toks := s'.toks, os := s.os } :=
    Inv.call (ch := []) I (Un.laid kk hp hn) (I.hok.laid kk hp (show ObjOk X.prog X.w _ s'.heap p (.lst _) from ⟨hlen, out, c, vals_txt ho, hg⟩)) bare fun x z => by cases z
  obtain ⟨h', g', d', t', o'⟩ := s'
  simp only at g o
  subst o
  exact ⟨.ref p, _, J, rfl, q ss p nd hm hl hn⟩
end
end Gd
end

section
set_option maxRecDepth 100000
set_option maxHeartbeats 4000000
/-! Readings over data: sorted(set(list of texts)); strip of letters. -/
namespace Ab
open PySem PySem.Spec PyProof.Rows L2 Gd
section
variable {X : Cx} {B : Bk} {e o : Expr} {te to : TE} {we wo : WE} {tl : TA} {wl : WL} {K : PySem.W.Frag} {PP : Program} {w : World} {p p2 pos pos2 apos : Pos} {k : Nat}
theorem reps_strs {M : List Addr} {H : Hp} : ∀ ns : List Str, Reps M H (ns.map V.str) (ns.map .str)
  | [] => .nil
  | n :: r => .cons (.str _) (reps_strs r)
/-- the texts of a list, each once, ascending -/
def gSortSetS : GL := fun ds m P => match ds with
  | [d] => (match asL d m with
    | some xs => ∃ ns : List Str, xs = ns.map .str ∧ ns.length < 1000 ∧ ∀ ms : List Str, Asc ms → (∀ k, k ∈ ms ↔ k ∈ ns) → ms.length ≤ ns.length → P (.wl (ms.map .str)) m
    | none => False)
  | _ => False
theorem ordS_le (a b : Str) : W.dataLe false PyData.str a b = ordS a b := by
  show (!W.dataLt (.str b) (.str a)) = _
  rw [W.dataLt_str]; rfl
theorem ae_sortSetS (hK : X.K = K) (hP : X.prog = PP) (hw : X.w = w) (hc : X.calm = true) (hr : Room k X.A) (hg : Gl X "sorted") (hm : X.mg "sorted" = none) (hg2 : Gl X "set") (hm2 : X.mg "set" = none) (ha : AL X B [e] tl wl)
    (he2 : starEach [e] X.env = (false, eval e X.env) :: starEach [] X.env := by rfl) (hpl2 : (backTo pos2 (starEach [] X.env)).any (·.1) = false := by rfl)
    (he : starEach [.Call (.Name "set" p2) [e] [] pos2] X.env = (false, eval (.Call (.Name "set" p2) [e] [] pos2) X.env) :: starEach [] X.env := by rfl) (hpl : (backTo pos (starEach [] X.env)).any (·.1) = false := by rfl) :
    AE X B (.Call (.Name "sorted" p) [.Call (.Name "set" p2) [e] [] pos2] [] pos) (tCB (rSortedSetS PP w) (tCons (tCB (rSetS K PP w) tl) tNil)) (wCB gSortSetS wl) :=
  ⟨pe_callB (cr_sortedSetS hP hw hc hr) hg hm (by decide +kernel) (pa_cons (pe_callTy (cr_setS hK hP hw hc) hg2 hm2 (by decide +kernel) ha.pa (by decide) (by decide) he2 hpl2) pa_nil) (by decide) (by decide) he hpl,
   fun N M H σ ρ m P Q x0 S R hw' q => ha.la N M H σ ρ m _ _ x0 S R hw' fun vs ds M1 H1 m1 x1 R1 r1 h1 => by
    unfold gSortSetS at h1
    split at h1
    · obtain ⟨v, rfl, rv⟩ := val1 r1
      split at h1
      · rename_i xs ex
        obtain ⟨ns, rfl, few, h1⟩ := h1
        obtain ⟨a, us, rfl, ha', z⟩ := asL_of R1 rv ex
        rw [strs_of z] at ha'
        refine ⟨a, ns, rfl, .inl (.inl ha'), few, fun p c hp hc' => ⟨p, _, c, rfl, upd_same, fun ss p2 nd mem len hp2 => ?_⟩⟩
        have R2 := R1.alloc (o := SetSO PP w p (fun j => decide (j ∈ ns)) c) hp
        have e1 : ss.mergeSort (W.dataLe false PyData.str) = ss.mergeSort ordS := by
          have : (W.dataLe false PyData.str) = ordS := funext fun a => funext fun b => ordS_le a b
          rw [this]
        rw [e1]
        have pm := List.mergeSort_perm ss ordS
        obtain ⟨x', R', r'⟩ := new_wl R2 hp2 (reps_strs (ss.mergeSort ordS))
        exact q _ _ M1 _ m1 (x1.trans ((Ext.alloc hp).trans x')) R' r' (h1 _ (asc_sort nd) (fun k => by rw [pm.mem_iff, mem k]; simp) (by rw [pm.length_eq, len]; exact hc'))
      · exact h1.elim
    · exact h1.elim⟩
/-- x.strip(letters) -/
def wStrip (wo we : WE) : WE := fun ρ m P => wo ρ m fun d m1 => match d with
  | .im (.str a) => we ρ m1 fun c m2 => (match c with
    | .im (.str b) => a.length ≤ sizeLine ∧ P (.im (.str (Txt.stripChars a b))) m2
    | _ => False)
  | _ => False
theorem ae_strip (ho : AE X B o to wo) (he : AE X B e te we) (hs : starEach [e] X.env = [(false, eval e X.env)] := by rfl) (hbase : attributeBase o "strip" X.env (eval o X.env) = eval o X.env := by rfl) (hline : (apos.endLine == pos.line) = true := by rfl) :
    AE X B (.Call (.Attribute o "strip" apos) [e] [] pos) (tM1 (fun x xs H Q => ∃ a b, x = .str a ∧ xs = [.str b] ∧ a.length ≤ sizeLine ∧ Q (.str (Txt.stripChars a b)) H) to te) (wStrip wo we) :=
  ⟨pe_m1 F.slot_str_strip F.type_str_strip mt_stripChars ho.pe he.pe hs hbase hline, fun N M H σ ρ m P Q x0 S R hw q => ho.le N M H σ ρ m _ _ x0 S R hw fun v d M1 H1 m1 x1 R1 r1 h1 => by
    split at h1
    · cases r1
      refine ⟨⟨_, rfl⟩, he.le N M1 H1 σ ρ m1 _ _ (x0.trans x1) (S.ext x1) R1 h1 fun v2 c M2 H2 m2 x2 R2 r2 h2 => ?_⟩
      split at h2
      · cases r2
        exact ⟨_, _, rfl, rfl, h2.1, q _ (.im (.str _)) M2 H2 m2 (x1.trans x2) R2 (.str _) h2.2⟩
      · exact h2.elim
    · exact h1.elim⟩
/-- x[::-1] of a tuple -/
def wRev (w : WE) : WE := fun ρ m P => w ρ m fun d m1 => match d with
  | .im (.tuple xs) => P (.im (.tuple xs.reverse)) m1
  | _ => False
theorem ae_rev {j : Nat} {p1 p3 : Pos} (h : AE X B e te we) : AE X B (.Subscript e (.Slice none none (some (.UnaryOp .USub (.Constant (.int 1) j p1) p2)) p3) pos) (tRevT te) (wRev we) :=
  ⟨pe_revT h.pe, fun N M H σ ρ m P Q x0 S R hw q => h.le N M H σ ρ m _ _ x0 S R hw fun v d M1 H1 m1 x1 R1 r1 h1 => by
    split at h1
    · cases r1 with
      | tup n e1 z =>
        exact ⟨_, _, rfl, e1, fun p hp => q _ (.im (.tuple _)) M1 _ m1 (x1.trans (.alloc hp)) (R1.alloc hp) (Rep.tup (R1.live.fresh hp) upd_same (z.reverse.keep (Kp.new hp))) h1⟩
    · exact h1.elim⟩
end
end Ab
end

section
set_option maxRecDepth 100000
set_option maxHeartbeats 4000000
namespace K37
open PySem PySem.Spec PyProof.Rows L2 Gd Ab
def topS (i : Nat) : Stmt := PySem.Challenge.pw_gridupgrade_k37_prices_of_any_value.main.body.getD i (.Pass ⟨0, 0, 0, 0⟩)
/-- the built-ins' names are no names of the module; the constants -/
structure Bs (mg : Str → Option Value) (t1 t2 : Tok) : Prop where
  set : mg "set" = none
  bool : mg "bool" = none
  all : mg "all" = none
  zip : mg "zip" = none
  isinstance : mg "isinstance" = none
  str : mg "str" = none
  tuple : mg "tuple" = none
  int : mg "int" = none
  len : mg "len" = none
  range : mg "range" = none
  enumerate : mg "enumerate" = none
  abs : mg "abs" = none
  sorted : mg "sorted" = none
  list : mg "list" = none
  repr : mg "repr" = none
  min : mg "min" = none
  max : mg "max" = none
  any : mg "any" = none
  dict : mg "dict" = none
  sum : mg "sum" = none
  reversed : mg "reversed" = none
  cMOST_LETTERS : mg "MOST_LETTERS" = some (.int 8 t1)
  cHIGHEST_PRICE : mg "HIGHEST_PRICE" = some (.int 1000000 t2)

theorem small {n : Nat} (h : n ≤ 100000) : n ≤ sizeLine := by rw [sizeLine_eq]; omega
end K37
end

section
set_option maxRecDepth 100000
set_option maxHeartbeats 2000000
namespace K37
open PySem PySem.Spec PyProof.Rows L2 Gd Ab
abbrev s_deck : Stmt := topS 12
theorem sc_deck : FnScope ["_law_script", "_law_k", "_law_cell", "_law_own"] ["_law_script", "_law_k"] (defScope s_deck) := ⟨rfl, rfl, rfl, by decide +kernel, rfl, by decide +kernel, by decide +kernel⟩
abbrev s_draw : Stmt := topS 13
theorem sc_draw : FnScope ["_law_deck_here", "_law_many", "_law_prime", "_law_mixed", "_law_digit"] ["_law_deck_here", "_law_many"] (defScope s_draw) := ⟨rfl, rfl, rfl, by decide +kernel, rfl, by decide +kernel, by decide +kernel⟩
section
variable {P : Program} {w : World} {K : PySem.W.Frag} {mg : Str → Option Value} {base : Heap} {t1 t2 : Tok}
/-! ### the deck: three numbers; n: no more than so many were drawn -/
def Deck (H : Hp) (a : Addr) (n : Nat) : Prop := ∃ x y c : Int, H a = some (.lst [.int x, .int y, .int c]) ∧ 0 ≤ x ∧ 0 ≤ y ∧ y < 2305843009213693921 ∧ 0 ≤ c ∧ c ≤ n
theorem Deck.mono {H : Hp} {a : Addr} {n m : Nat} (d : Deck H a n) (h : n ≤ m) : Deck H a m := let ⟨x, y, c, e, a1, a2, a3, a4, a5⟩ := d; ⟨x, y, c, e, a1, a2, a3, a4, by omega⟩
theorem Deck.some {H : Hp} {a : Addr} {n : Nat} (d : Deck H a n) : ∃ o, H a = some o := let ⟨_, _, _, e, _⟩ := d; ⟨_, e⟩
theorem Deck.keep {H H' : Hp} {a : Addr} {n : Nat} {M : List Addr} (d : Deck H a n) (k : Kp M H H') (h : a ∉ M) : Deck H' a n := let ⟨x, y, c, e, r⟩ := d; ⟨x, y, c, k _ _ h e, r⟩
def spDeck (K : PySem.W.Frag) : Sp := fun vs H Q _ => ∃ (a : Addr) (ns : List Int) (k : Nat), vs = [.ref a, .int k] ∧ SqL K H a (ns.map V.int) ∧ k < 100 ∧ ∀ p H', Kp [] H H' → H p = none → Deck H' p 0 → Q (.ref p) H'
/-- behind the cell's choice -/
def tDeck : TS := tSeq
  (tAsg (tOp (rI CMul fun i j => .int (i * j))
      (tOp (rI (fun _ j => j ≠ 0) fun i j => .int (i.fmod j)) (tCB (fun xs H Q => ∃ i, xs = [V.int i] ∧ Q (V.int (if i < 0 then -i else i)) H) (tCons (tVar 2) tNil))
        (tOp (rI CPowW fun i j => .int (i ^ j.toNat)) (tOp (rI CPow fun i j => .int (i ^ j.toNat)) (tC (.int 10)) (tC (.int 60))) (tC (.int 5))))
      (tCB (fun xs H Q => (∃ i, xs = [V.int i] ∧ Q (V.int i) H) ∨ ∃ k, xs = [V.bl k] ∧ Q (V.int (if k = true then 1 else 0)) H)
        (tCons (tOp (rI0 fun i j => .bl (decide (j ≤ i))) (tCB (fun xs H Q => ∃ i, xs = [V.int i] ∧ Q (V.int (if i < 0 then -i else i)) H) (tCons (tVar 2) tNil)) (tOp (rI CPow fun i j => .int (i ^ j.toNat)) (tC (.int 10)) (tC (.int 18)))) tNil))) (gName 3))
  (tRet (tLstS (tCons (tVar 3) (tCons (tOp (rI (fun _ j => j ≠ 0) fun i j => .int (i.fmod j))
    (tOp (rI0 fun i j => .int (i + j)) (tOp (rI0 fun i j => .int (i + j)) (tOp (rI CMul fun i j => .int (i * j)) (tOp (rI (fun _ j => j ≠ 0) fun i j => .int (i.fmod j)) (tVar 2) (tC (.int 2305843009213693951))) (tC (.int 69857)))
      (tOp (rI CMul fun i j => .int (i * j)) (tOp (rI CMul fun i j => .int (i * j)) (tC (.int 7907)) (tVar 1)) (tVar 1))) (tC (.int 23))) (tC (.int 2305843009213693921))) (tCons (tC (.int 0)) tNil)))))
theorem deck_tail {a : Addr} {k : Nat} {H : Hp} {Q : VK} {nx : L2.St → Hp → Prop} {v3 : Option V} (hk : k < 100) (q : ∀ p H', Kp [] H H' → H p = none → Deck H' p 0 → Q (.ref p) H') (cell : Int) :
    tDeck { nx := nx, rt := Q } [some (.ref a), some (.int k), some (.int cell), v3] H := by
  have pw : CPowW (10 ^ Int.toNat 60) 5 := ⟨by decide, by decide +kernel⟩
  refine ⟨.int cell, rfl, cell, rfl, 10, 60, rfl, rfl, ⟨by decide, by decide, by decide⟩, _, 5, rfl, rfl, pw, _, _, rfl, rfl, (by show (10 ^ Int.toNat 60 : Int) ^ Int.toNat 5 ≠ 0; decide +kernel), ?_⟩
  refine ⟨.int cell, rfl, cell, rfl, 10, 18, rfl, rfl, ⟨by decide, by decide, by decide⟩, _, _, rfl, rfl, .inr ⟨_, rfl, ?_⟩⟩
  have one : ∀ b : Bool, (0 : Int) ≤ (if b = true then 1 else 0) ∧ (if b = true then 1 else 0 : Int) ≤ 1 := fun b => by cases b <;> decide
  have o := one (decide (10 ^ Int.toNat 18 ≤ (if cell < 0 then -cell else cell)))
  refine ⟨_, _, rfl, rfl, .inr ⟨by omega, by omega⟩, ?_⟩
  have n0 := Int.fmod_nonneg_of_pos (if cell < 0 then -cell else cell) (b := (10 ^ Int.toNat 60) ^ Int.toNat 5) (by decide +kernel)
  have x0 := Int.mul_nonneg n0 o.1
  have c0 := Int.fmod_nonneg_of_pos cell (b := 2305843009213693951) (by decide)
  have c1 := Int.fmod_lt_of_pos cell (b := 2305843009213693951) (by decide)
  refine ⟨_, rfl, .int cell, rfl, cell, 2305843009213693951, rfl, rfl, (by show (2305843009213693951 : Int) ≠ 0; decide), _, 69857, rfl, rfl, .inr ⟨by decide, by decide⟩, .int k, rfl, 7907, k, rfl, rfl, .inl ⟨by decide, by decide⟩, .int k, rfl, 7907 * k, k, rfl, rfl, .inl ⟨by omega, by omega⟩,
    _, _, rfl, rfl, _, 23, rfl, rfl, _, 2305843009213693921, rfl, rfl, (by show (2305843009213693921 : Int) ≠ 0; decide), (by show 3 ≤ sizeLine; decide), fun p hp _ => ?_⟩
  exact q p _ (Kp.new hp) hp ⟨_, _, _, upd_same, x0, Int.fmod_nonneg_of_pos _ (by decide), Int.fmod_lt_of_pos _ (by decide), Int.le_refl 0, Int.le_refl 0⟩
theorem ok_deck (B : Bs mg t1 t2) (D : Defd K mg "_law_deck" s_deck) : Callee P w K mg base CX0 1 "_law_deck" ["_law_script", "_law_k"] (spDeck K) := by
  refine D.ok sc_deck (fun _ _ _ _ _ _ us hl => match us, hl with | [_, _], _ => rfl) (fun _ _ _ _ ⟨_, _, _, e, _⟩ => by rw [e]; rfl) fun f cdv A outer s H vs Q E hgu hr h => ?_
  obtain ⟨a, ns, k, rfl, hS, hk, q⟩ := h
  refine ⟨_, (pss_cons (ps_set (i := 2) sc_deck.nd rfl (.inl rfl) (pe_op op_add (pe_op op_mul pe_int (pv 1)) pe_int))
        (pss_cons (ps_if (pt_cmpR op_lt (pv 1) (pe_callB call_len (by rfl) B.len PySem.boot_len (pa_cons (pv 0) pa_nil)) (nomark _)) (pss_one (ps_set (i := 2) sc_deck.nd rfl (.inl rfl) (pe_ix (ix_listK (K := K) rfl) (pv 0) (pv 1) (fun _ _ => rfl)))) pss_nil)
        (pss_cons (ps_set (i := 3) sc_deck.nd rfl (.inl rfl) (pe_op op_mul (pe_op op_modN (pe_callB call_abs (by rfl) B.abs (by decide +kernel) (pa_cons (pv 2) pa_nil)) (pe_op op_powW (pe_op op_pow pe_int pe_int) pe_int)) (pe_callTy call_int1 (by rfl) B.int (by decide +kernel) (pa_cons (pe_cmpR op_ge (pe_callB call_abs (by rfl) B.abs (by decide +kernel) (pa_cons (pv 2) pa_nil)) (pe_op op_pow pe_int pe_int) (nomark _)) pa_nil))))
        (pss_one (ps_ret (pe_lstS (pa_cons (pv 3) (pa_cons (pe_op op_modN (pe_op op_add (pe_op op_add (pe_op op_mul (pe_op op_modN (pv 2) pe_int) pe_int) (pe_op op_mul (pe_op op_mul pe_int (pv 1)) (pv 1))) pe_int) pe_int) (pa_cons pe_int pa_nil))))))))), ?_⟩
  refine ⟨_, rfl, 17, k, rfl, rfl, .inl ⟨by decide, by decide⟩, _, 9, rfl, rfl, ?_⟩
  refine ⟨.int k, rfl, .ref a, rfl, .ref a, ns.length, rfl, .inl ⟨_, hS, by simp⟩, k, _, rfl, rfl, _, rfl, ?_⟩
  refine ite2 (fun e => ?_) (fun e => ?_)
  · have hk2 : k < ns.length := by simp at e; omega
    refine ⟨.ref a, rfl, .int k, rfl, a, _, k, .int ns[k], rfl, rfl, hS, atI_nat (by simp [hk2]), ?_⟩
    generalize ns[k] = cell
    exact deck_tail hk q cell
  · exact deck_tail hk q _
theorem prime_at {i : Int} (h0 : 0 ≤ i) (h1 : i < 5) : ∃ pr : Int, atI [V.int 2147483647, V.int 2147483629, V.int 2147483587, V.int 2147483579, V.int 2147483563] i = some (.int pr) ∧ 0 < pr ∧ pr < 2147483648 := by
  obtain ⟨j, rfl⟩ := Int.eq_ofNat_of_zero_le h0
  match j, h1 with
  | 0, _ => exact ⟨_, atI_nat (j := 0) rfl, by decide, by decide⟩
  | 1, _ => exact ⟨_, atI_nat (j := 1) rfl, by decide, by decide⟩
  | 2, _ => exact ⟨_, atI_nat (j := 2) rfl, by decide, by decide⟩
  | 3, _ => exact ⟨_, atI_nat (j := 3) rfl, by decide, by decide⟩
  | 4, _ => exact ⟨_, atI_nat (j := 4) rfl, by decide, by decide⟩
  | j + 5, h => omega
def spDraw : Sp := fun vs H Q _ => ∃ (a : Addr) (n m : Nat), vs = [.ref a, .int m] ∧ Deck H a n ∧ n < 1000000 ∧ 0 < m ∧ m < 1073741824 ∧ ∀ (r : Nat) H', r < m → Kp [a] H H' → Deck H' a (n + 1) → Q (.int r) H'
theorem ok_draw (B : Bs mg t1 t2) (D : Defd K mg "_law_draw" s_draw) : Callee P w K mg base CX0 1 "_law_draw" ["_law_deck_here", "_law_many"] spDraw := by
  refine D.ok sc_draw (fun _ _ _ _ _ _ us hl => match us, hl with | [_, _], _ => rfl) (fun _ _ _ _ ⟨_, _, _, e, _⟩ => by rw [e]; rfl) fun f cdv A outer s H vs Q E hgu hr h => ?_
  obtain ⟨a, n, m, rfl, ⟨x, y, c, hL, hx, hy, hy2, hc, hcn⟩, hn, hm, hm2, q⟩ := h
  refine ⟨_, (pss_cons (ps_if (pt_cmpR op_gt (pe_ix (ix_listK (K := K) rfl) (pv 0) pe_int (fun _ _ => rfl)) pe_int (nomark _)) (pss_cons (ps_set (i := 4) sc_draw.nd rfl (.inl rfl) (pe_op op_modN (pe_ix (ix_listK (K := K) rfl) (pv 0) pe_int (fun _ _ => rfl)) (pv 1)))
        (pss_cons (ps_asg (pe_op op_fdivN (pe_ix (ix_listK (K := K) rfl) (pv 0) pe_int (fun _ _ => rfl)) (pv 1)) (pg_sub (pv 0) pe_int set_list))
        (pss_one (ps_ret (pv 4))))) pss_nil)
        (pss_cons (ps_asg (pe_op op_add (pe_ix (ix_listK (K := K) rfl) (pv 0) pe_int (fun _ _ => rfl)) pe_int) (pg_sub (pv 0) pe_int set_list))
        (pss_cons (ps_set (i := 2) sc_draw.nd rfl (.inl rfl) (pe_ix (ix_listK (K := K) rfl) (pe_lstS (pa_cons pe_int (pa_cons pe_int (pa_cons pe_int (pa_cons pe_int (pa_cons pe_int pa_nil)))))) (pe_op op_modN (pe_ix (ix_listK (K := K) rfl) (pv 0) pe_int (fun _ _ => rfl)) pe_int) (fun _ _ => rfl)))
        (pss_cons (ps_set (i := 3) sc_draw.nd rfl (.inl rfl) (pe_op op_modN (pe_op op_pow (pe_op op_add (pe_op op_add (pe_ix (ix_listK (K := K) rfl) (pv 0) pe_int (fun _ _ => rfl)) (pe_op op_mul (pe_op op_mul pe_int (pe_ix (ix_listK (K := K) rfl) (pv 0) pe_int (fun _ _ => rfl))) (pe_ix (ix_listK (K := K) rfl) (pv 0) pe_int (fun _ _ => rfl)))) pe_int) pe_int) (pv 2)))
        (pss_one (ps_ret (pe_op op_modN (pe_op op_fdivN (pe_op op_modN (pe_op op_mul (pv 3) (pe_op op_add (pe_op op_modN (pv 3) pe_int) (pe_op op_mul pe_int (pe_ix (ix_listK (K := K) rfl) (pv 0) pe_int (fun _ _ => rfl))))) pe_int) pe_int) (pv 1)))))))), ?_⟩
  have fin : ∀ (i : Int) H', Kp [a] H H' → Deck H' a (n + 1) → Q (.int (i.fmod m)) H' := fun i H' k d => by
    have h1 := Int.fmod_nonneg_of_pos i (b := (m : Int)) (by omega)
    have h2 := Int.fmod_lt_of_pos i (b := (m : Int)) (by omega)
    obtain ⟨r, er⟩ := Int.eq_ofNat_of_zero_le h1
    rw [er]
    exact q r H' (by omega) k d
  refine ⟨.ref a, rfl, a, _, 0, .int x, rfl, rfl, .inl (.inl hL), rfl, _, _, rfl, rfl, _, rfl, ?_⟩
  refine ite2 (fun e => ?_) (fun e => ?_)
  · have hx0 : 0 < x := of_decide_eq_true e
    refine ⟨.ref a, rfl, a, _, 0, .int x, rfl, rfl, .inl (.inl hL), rfl, .int m, rfl, x, m, rfl, rfl, by omega, ?_⟩
    refine ⟨.ref a, rfl, a, _, 0, .int x, rfl, rfl, .inl (.inl hL), rfl, .int m, rfl, x, m, rfl, rfl, ⟨by omega, by omega⟩, ?_⟩
    refine ⟨.ref a, rfl, a, _, 0, 0, rfl, rfl, hL, rfl, _, rfl, ?_⟩
    exact fin x _ (Kp.put (List.mem_singleton.mpr rfl)) ⟨x.fdiv m, y, c, upd_same, Int.fdiv_nonneg hx (by omega), hy, hy2, hc, by omega⟩
  · refine ⟨.ref a, rfl, a, _, 2, .int c, rfl, rfl, .inl (.inl hL), rfl, c, 1, rfl, rfl, .ref a, rfl, a, _, 2, 2, rfl, rfl, hL, rfl, ?_⟩
    refine ⟨by show 5 ≤ sizeLine; decide, fun p hp _ => ?_⟩
    generalize eH : upd H a _ = H1 at hp ⊢
    have k1 : Kp [a] H H1 := eH ▸ Kp.put (List.mem_singleton.mpr rfl)
    have hL1 : H1 a = some (.lst [.int x, .int y, .int (c + 1)]) := eH ▸ upd_same
    generalize eH2 : upd H1 p _ = H2
    have hP : H2 p = some (.lst [.int 2147483647, .int 2147483629, .int 2147483587, .int 2147483579, .int 2147483563]) := eH2 ▸ upd_same
    have k2 : Kp [a] H1 H2 := eH2 ▸ Kp.new hp
    have hL2 : H2 a = some (.lst [.int x, .int y, .int (c + 1)]) := by rw [← eH2, upd_ne (ne_of_none hL1 hp)]; exact hL1
    have deck : Deck H2 a (n + 1) := ⟨x, y, c + 1, hL2, hx, hy, hy2, by omega, by omega⟩
    refine ⟨.ref a, rfl, a, _, 2, .int (c + 1), rfl, rfl, .inl (.inl hL2), rfl, c + 1, 5, rfl, rfl, (by show (5 : Int) ≠ 0; decide), ?_⟩
    obtain ⟨pr, ep, hp0, hp1⟩ := prime_at (i := (c + 1).fmod 5) (Int.fmod_nonneg_of_pos _ (by decide)) (Int.fmod_lt_of_pos _ (by decide))
    refine ⟨p, _, _, _, rfl, rfl, .inl (.inl hP), ep, ?_⟩
    have sq : 0 ≤ 98317 * (c + 1) * (c + 1) ∧ 98317 * (c + 1) * (c + 1) ≤ 98317000000000000 := by
      have h0 : 0 ≤ 98317 * (c + 1) := by omega
      have h1 : 98317 * (c + 1) ≤ 98317000000 := by omega
      have h2 : 0 ≤ c + 1 := by omega
      have h3 : c + 1 ≤ 1000000 := by omega
      exact ⟨Int.mul_nonneg h0 h2, Int.le_trans (Int.mul_le_mul h1 h3 h2 (by decide)) (by decide)⟩
    refine ⟨.ref a, rfl, a, _, 1, .int y, rfl, rfl, .inl (.inl hL2), rfl, .ref a, rfl, a, _, 2, .int (c + 1), rfl, rfl, .inl (.inl hL2), rfl, 98317, c + 1, rfl, rfl, .inl ⟨by decide, by decide⟩, .ref a, rfl, a, _, 2, .int (c + 1), rfl, rfl, .inl (.inl hL2), rfl,
      98317 * (c + 1), c + 1, rfl, rfl, .inl ⟨by omega, by omega⟩, y, _, rfl, rfl, _, 43, rfl, rfl, _, 3, rfl, rfl, ⟨by decide, by decide, by omega⟩, .int pr, rfl, _, pr, rfl, rfl, by omega, ?_⟩
    dsimp only
    generalize em : ((y + 98317 * (c + 1) * (c + 1) + 43) ^ Int.toNat 3).fmod pr = mx
    have m0 : 0 ≤ mx := em ▸ Int.fmod_nonneg_of_pos _ hp0
    have m1 : mx < pr := em ▸ Int.fmod_lt_of_pos _ hp0
    refine ⟨.int mx, rfl, .int mx, rfl, mx, 10007, rfl, rfl, (by show (10007 : Int) ≠ 0; decide), .ref a, rfl, a, _, 2, .int (c + 1), rfl, rfl, .inl (.inl hL2), rfl, 83, c + 1, rfl, rfl, .inl ⟨by decide, by decide⟩, _, _, rfl, rfl, mx, _, rfl, rfl, .inl ⟨by omega, by omega⟩, _, 2305843009213693907, rfl, rfl, (by show (2305843009213693907 : Int) ≠ 0; decide), _, 89, rfl, rfl, ⟨by decide, by decide⟩, .int m, rfl, _, m, rfl, rfl, by omega, ?_⟩
    exact fin _ H2 (k1.trans k2) deck
/-! ### the deck as a list that may change -/
def dkC (n : Nat) (c : Cell) : Prop := ∃ x y z : Int, c = .lst [.im (.int x), .im (.int y), .im (.int z)] ∧ 0 ≤ x ∧ 0 ≤ y ∧ y < 2305843009213693921 ∧ 0 ≤ z ∧ z ≤ n
theorem dkC.mono {n k : Nat} (h : n ≤ k) {c : Cell} (d : dkC n c) : dkC k c := let ⟨x, y, z, e, a1, a2, a3, a4, a5⟩ := d; ⟨x, y, z, e, a1, a2, a3, a4, by omega⟩
theorem deck_of {N M : List Addr} {H : Hp} {m : Store} {i n : Nat} {c : Cell} (R : Rel N M H m) (e : m[i]? = some c) (h : dkC n c) : ∃ a, M[i]? = some a ∧ Deck H a n := by
  obtain ⟨a, ha, rc⟩ := R.of e
  obtain ⟨x, y, z, rfl, h1, h2, h3, h4, h5⟩ := h
  obtain ⟨us, hu, r⟩ := rc
  refine ⟨a, ha, x, y, z, ?_, h1, h2, h3, h4, h5⟩
  cases r with
  | cons r1 r => cases r with
    | cons r2 r => cases r with
      | cons r3 r =>
        cases r
        cases r1; cases r2; cases r3
        exact hu
/-- m with a deck at i, n draws behind it -/
abbrev Dk (m : Store) (i n : Nat) : Prop := ∃ c, m[i]? = some c ∧ dkC n c
def aDraw : ASp := fun ds m P _ => ∃ i n k : Nat, ds = [.mu i, .im (.int k)] ∧ Dk m i n ∧ n < 1000000 ∧ 0 < k ∧ k < 1073741824 ∧ ∀ (r : Nat) c, r < k → dkC (n + 1) c → P (.im (.int r)) (m.set i c)
theorem draw_a (C : Callee P w K mg base CX0 1 "_law_draw" ["_law_deck_here", "_law_many"] spDraw) : Callee P w K mg base CX0 1 "_law_draw" ["_law_deck_here", "_law_many"] (lift aDraw) := C.imp fun vs H Q E h => by
  obtain ⟨N, M, m, ds, Pd, EA, R, r, ⟨i, n, k, rfl, ⟨c, ec, hc⟩, hn, h0, h1, q⟩, _, q'⟩ := h
  obtain ⟨v, u, rfl, rv, ru⟩ := val2 r
  obtain ⟨a, ha, dk⟩ := deck_of R ec hc
  obtain ⟨_, a', ha', rfl⟩ := rv
  rw [ha] at ha'
  cases ha'
  cases ru
  refine ⟨a, n, k, rfl, dk, hn, h0, h1, fun r H' hr kp dk' => ?_⟩
  have am : a ∈ M := List.mem_of_getElem? ha
  obtain ⟨x, y, z, e', b1, b2, b3, b4, b5⟩ := dk'
  have x' : Ext M H M H' := ⟨List.prefix_refl _, kp.more fun b hb => by rw [List.mem_singleton.mp hb]; exact am, fun a h h' => absurd h h'⟩
  refine q' _ _ M H' (m.set i (.lst [.im (.int x), .im (.int y), .im (.int z)])) x' ⟨R.nd, by rw [List.length_set]; exact R.len, fun j b c' g1 g2 => ?_, fun b hb => ?_⟩ (.int _) (q r _ hr ⟨x, y, z, rfl, b1, b2, b3, b4, b5⟩)
  · by_cases z' : j = i
    · subst z'
      rw [ha] at g1
      cases g1
      rw [List.getElem?_set_self (by rw [← R.len]; exact (List.getElem?_eq_some_iff.mp ha).1)] at g2
      cases g2
      exact ⟨_, e', .cons (.int _) (.cons (.int _) (.cons (.int _) .nil))⟩
    · rw [List.getElem?_set_ne (Ne.symm z')] at g2
      refine (R.cell j b c' g1 g2).ext x' fun o ho => kp b o (fun hb => ?_) ho
      rw [List.mem_singleton.mp hb] at g1
      exact z' ((List.getElem?_inj (List.getElem?_eq_some_iff.mp g1).1 R.nd).mp (g1.trans ha.symm))
  · obtain ⟨o, ho⟩ := R.there b hb
    by_cases z' : b = a
    · exact ⟨_, by rw [z']; exact e'⟩
    · exact ⟨o, kp b o (fun h => z' (List.mem_singleton.mp h)) ho⟩
end
end K37
end

section
set_option maxRecDepth 100000
set_option maxHeartbeats 4000000
namespace K37
open PySem PySem.Spec PyProof.Rows L2 Gd Ab
abbrev s_any : Stmt := topS 14
theorem sc_any : FnScope ["_law_deck_here", "_law_items"] ["_law_deck_here", "_law_items"] (defScope s_any) := ⟨rfl, rfl, rfl, by decide +kernel, rfl, by decide +kernel, by decide +kernel⟩
abbrev s_names : Stmt := topS 16
theorem sc_names : FnScope ["_law_deck_here", "_law_many", "_law_stem", "_law_first", "_law_letters", "_law_at"] ["_law_deck_here", "_law_many"] (defScope s_names) := ⟨rfl, rfl, rfl, by decide +kernel, rfl, by decide +kernel, by decide +kernel⟩
section
variable {P : Program} {w : World} {K : PySem.W.Frag} {mg : Str → Option Value} {base : Heap} {t1 t2 : Tok}
def aAny : ASp := fun ds m P _ => ∃ i n d xs, ds = [.mu i, d] ∧ Dk m i n ∧ n < 1000000 ∧ (∀ c, asL d (m.set i c) = some xs) ∧ asL d m = some xs ∧ 0 < xs.length ∧ xs.length < 1000000 ∧ ∀ x ∈ xs, ∀ c, dkC (n + 1) c → P (.im x) (m.set i c)
theorem len_asL {d : AV} {m : Store} {xs : List PyData} {P : AV → Store → Prop} (h : asL d m = some xs) (q : P (.im (.int xs.length)) m) : gLen [d] m P := by
  cases d with
  | im x => cases x <;> first | (cases h; done) | (cases h; exact q)
  | pr x y => cases h
  | wl ys => cases h; exact q
  | mu j =>
    unfold asL at h
    simp only at h
    split at h
    · rename_i ys e
      have := ims_eq h
      subst this
      simp only [gLen, e]
      rw [List.length_map]
      exact q
    · cases h
theorem ix_asL {d : AV} {m : Store} {xs : List PyData} {P : AV → Store → Prop} {r : Nat} {x : PyData} (h : asL d m = some xs) (e : xs[r]? = some x) (q : P (.im x) m) : gIx d (.im (.int r)) m P := by
  have ea : L2.atI xs (r : Int) = some x := atI_nat e
  cases d with
  | im y => cases y <;> first | (cases h; done) | (cases h; simp only [gIx, asQ, asT, asL, ea]; exact q)
  | pr x y => cases h
  | wl ys => cases h; simp only [gIx, asQ, asT, asL, ea]; exact q
  | mu j =>
    unfold asL at h
    simp only at h
    split at h
    · rename_i ys e2
      have := ims_eq h
      subst this
      have ea2 : L2.atI (xs.map AV.im) (r : Int) = some (.im x) := atI_nat (by rw [List.getElem?_map, e]; rfl)
      simp only [gIx, e2, ea2]
      exact q
    · cases h
theorem ok_any (hB : Bs mg t1 t2) (D : Defd K mg "_law_any" s_any) (C_law_draw : Callee P w K mg base CX0 1 "_law_draw" ["_law_deck_here", "_law_many"] (lift aDraw)) : Callee P w K mg base CX0 2 "_law_any" ["_law_deck_here", "_law_items"] (lift aAny) := by
  refine okA D sc_any (fun _ _ _ _ _ _ us hl => match us, hl with | [_, _], _ => rfl) (fun ds m Q EA ⟨_, _, _, _, e, _⟩ => by rw [e]; rfl) fun f cdv A outer s H E B hgu hr => ?_
  refine ⟨_, _, (ss_one (s_ret (ae_ix hr (ae_v (pv 1)) (ae_call C_law_draw hgu (hr.mono (by omega)) (by rfl) pass0 (al_cons (ae_v (pv 0)) (al_cons (ae_callB ca_len (by rfl) hB.len PySem.boot_len (al_cons (ae_v (pv 1)) al_nil)) al_nil))) (fun _ _ => rfl)))), ?_⟩
  rintro _ m Q ⟨i, n, d, xs, rfl, hd, hn, h1, h2, h0, hm, q⟩
  simp only [startA, List.map_cons, List.map_nil, List.length_cons, List.length_nil, List.replicate, List.cons_append, List.nil_append, Nat.reduceAdd, Nat.reduceSub, Nat.zero_add, Nat.sub_self, List.getElem?_cons_zero, List.getElem?_cons_succ, wRet, wOp, wV, wCall, wCons, wNil, wCB]
  refine len_asL h2 ⟨i, n, xs.length, rfl, hd, hn, h0, by omega, fun r c hr hc => ?_⟩
  refine ix_asL (h1 c) (List.getElem?_eq_getElem hr) ?_
  have := q xs[r] (List.getElem_mem _) c hc
  simp only [retA, AV.und, true_and, List.take_of_length_le (Nat.le_of_eq (List.length_set ..))]
  exact this
end
end K37
end

section
set_option maxRecDepth 100000
set_option maxHeartbeats 4000000
namespace K37
open PySem PySem.Spec PyProof.Rows L2 Gd
theorem wts_len : ∀ xs : List PyData, xs.length ≤ wts xs
  | [] => Nat.le_refl _
  | x :: r => by
    have := wts_len r
    simp only [wts, List.length_cons]
    omega
theorem str_append_toList (a b : Str) : (a ++ b).cps.toList = a.cps.toList ++ b.cps.toList := by
  show (a.cps ++ b.cps).toList = _
  rw [Array.toList_append]
theorem mem1 {a : Addr} : a ∈ [a] := List.mem_singleton.mpr rfl
theorem kp1 {a b : Addr} {H H' : Hp} {o : HO} (k : Kp [a] H H') (n : b ≠ a) (e : H b = some o) : H' b = some o := k b o (fun z => n (List.mem_singleton.mp z)) e
abbrev s_odd : Stmt := topS 17
theorem sc_odd : FnScope ["_law_deck_here", "_law_thing", "_law_some"] ["_law_deck_here", "_law_thing"] (defScope s_odd) := ⟨rfl, rfl, rfl, by decide +kernel, rfl, by decide +kernel, by decide +kernel⟩
section
variable {P : Program} {w : World} {K : PySem.W.Frag} {mg : Str → Option Value} {base : Heap} {t1 t2 : Tok}
def spAny : Sp := fun vs H Q _ => ∃ (a b : Addr) (n : Nat) (us : List V), vs = [.ref a, .ref b] ∧ Deck H a n ∧ n < 1000000 ∧ b ≠ a ∧ H b = some (.lst us) ∧ 0 < us.length ∧ us.length < 1000000 ∧ ∀ (i : Nat) v H', us[i]? = some v → Kp [a] H H' → Deck H' a (n + 1) → Q v H'
theorem ok_anyO (B : Bs mg t1 t2) (D : Defd K mg "_law_any" s_any) (C_law_draw : Callee P w K mg base CX0 1 "_law_draw" ["_law_deck_here", "_law_many"] spDraw) : Callee P w K mg base CX0 2 "_law_any" ["_law_deck_here", "_law_items"] spAny := by
  refine D.ok sc_any (fun _ _ _ _ _ _ us hl => match us, hl with | [_, _], _ => rfl) (fun _ _ _ _ ⟨_, _, _, _, e, _⟩ => by rw [e]; rfl) fun f cdv A outer s H vs Q E hgu hr h => ?_
  obtain ⟨a, b, n, us, rfl, dk, hn, ne, hb, h0, h1, q⟩ := h
  refine ⟨_, (pss_one (ps_ret (pe_ix (ix_listK (K := K) rfl) (pv 1) (pown C_law_draw hgu (hr.mono (by omega)) (by rfl) pass0 (pa_cons (pv 0) (pa_cons (pe_callB call_len (by rfl) B.len PySem.boot_len (pa_cons (pv 1) pa_nil)) pa_nil))) (fun _ _ => rfl)))), ?_⟩
  refine ⟨.ref b, rfl, .ref a, rfl, .ref b, rfl, .ref b, us.length, rfl, .inl ⟨us, .inl (.inl hb), rfl⟩, a, n, us.length, rfl, dk, hn, h0, Nat.lt_trans h1 (by decide), fun r H' hr' k dk' => ?_⟩
  exact ⟨b, us, r, us[r], rfl, rfl, .inl (.inl (kp1 k ne hb)), atI_nat (by simp [hr']), q r _ H' (by simp [hr']) k dk'⟩
end
/-- how large an odd thing is -/
structure Od (B W D : Nat) (d : PyData) : Prop where
  g : good B d
  w : wt d ≤ W
  d : d.depth ≤ D
def Ods (B W D : Nat) (ds : List PyData) : Prop := ∀ d ∈ ds, Od B W D d
section
variable {P : Program} {w : World} {K : PySem.W.Frag} {mg : Str → Option Value} {base : Heap} {t1 t2 : Tok}
theorem none_back {H H' : Hp} {p : Addr} (k : Kp [] H H') (h : H' p = none) : H p = none := by
  cases c : H p with
  | none => rfl
  | some o => have := k p o List.not_mem_nil c; rw [h] at this; cases this
theorem ev_pow {M : List Addr} {σ : L2.St} {H : Hp} : EvE M (tOp (rI CPow fun i j => V.int (i ^ j.toNat)) (tC (.int 10)) (tC (.int 20))) σ H (.int (10 ^ 20)) := fun H1 _ R q => ⟨10, 20, rfl, rfl, ⟨by decide, by decide, by decide⟩, q _ H1 .refl (.int _)⟩
/-- some + [..] * 2 -/
theorem app_two {M : List Addr} {ta : TA} {ds : List PyData} {σ : L2.St} {H : Hp} {i : Nat} {p : Addr} {vs : List V} {R : V → Hp → Prop} (e2 : σ[i]? = some (some (.ref p))) (ep : H p = some (.lst vs)) (hv : vs.length ≤ 1000) (ev : EvL M ta σ H ds) (hd : ds.length ≤ 1000)
    (q : ∀ p4 us H4, Kp [] H H4 → H p4 = none → H4 p4 = some (.lst (vs ++ us)) → Reps M H4 us (ds ++ ds) → R (.ref p4) H4) : tOp rCat (tVar i) (tOp rRep (tLstS ta) (tC (.int 2))) σ H R := by
  refine ⟨.ref p, e2, ev.run fun us H2 k2 rs => ?_⟩
  have lu := rs.length
  refine ⟨by rw [sizeLine_eq]; omega, fun p2 h2 _ => ?_⟩
  refine ⟨p2, 2, us, rfl, rfl, upd_same, by decide, by decide, ?_, fun p3 h3 => ?_⟩
  · show us.length * 2 ≤ sizeLine
    rw [sizeLine_eq]; omega
  · have e3 : (List.replicate (2 : Int).toNat us).flatten = us ++ us := by
      show us ++ (us ++ []) = us ++ us
      rw [List.append_nil]
    rw [e3]
    have k3 : Kp [] H2 (upd (upd H2 p2 (.lst us)) p3 (.lst (us ++ us))) := (Kp.new h2).trans (Kp.new h3)
    refine ⟨p, p3, vs, us ++ us, rfl, rfl, k3 _ _ List.not_mem_nil (k2 _ _ List.not_mem_nil ep), upd_same, by rw [List.length_append, sizeLine_eq]; omega, fun p4 h4 => ?_⟩
    exact q p4 _ _ ((k2.trans k3).trans (Kp.new h4)) (none_back (k2.trans k3) h4) upd_same (((rs.append rs).keep k3.same).keep (Kp.new h4))
def base19 : List PyData := [.none, .bool true, .bool false, .int 0, .int 1, .int (-1), .int 12, .int (10 ^ 20), .str "", .str "a", .str "A", .str "ab", .tuple [], .list [], .dict [], .tuple [.int 0], .tuple [.str "a"], .tuple [.tuple [.str "a", .int 1]], .list [.int 0]]
theorem base_od {B W D : Nat} (hB : 10 ^ 20 ≤ B) : Ods (B + 1) (2 * W + 500) (D + 3) base19 := by
  have c0 : ∀ c ∈ ("" : Str).cps.toList, c < 128 := by decide +kernel
  have c1 : ∀ c ∈ ("a" : Str).cps.toList, c < 128 := by decide +kernel
  have c2 : ∀ c ∈ ("A" : Str).cps.toList, c < 128 := by decide +kernel
  have c3 : ∀ c ∈ ("ab" : Str).cps.toList, c < 128 := by decide +kernel
  have l0 : ("" : Str).length = 0 := rfl
  have l1 : ("a" : Str).length = 1 := rfl
  have l2 : ("A" : Str).length = 1 := rfl
  have l3 : ("ab" : Str).length = 2 := rfl
  intro d hd
  simp only [base19, List.mem_cons, List.not_mem_nil, or_false] at hd
  rcases hd with rfl | rfl | rfl | rfl | rfl | rfl | rfl | rfl | rfl | rfl | rfl | rfl | rfl | rfl | rfl | rfl | rfl | rfl | rfl
  all_goals
    refine ⟨?_, ?_, ?_⟩
    · first
        | trivial
        | exact c0 | exact c1 | exact c2 | exact c3
        | rfl
        | (show Int.natAbs _ ≤ _; omega)
        | exact ⟨show Int.natAbs _ ≤ _ by omega, trivial⟩
        | exact ⟨c1, trivial⟩
        | exact ⟨⟨c1, show Int.natAbs _ ≤ _ by omega, trivial⟩, trivial⟩
    · simp only [wt, wts]; omega
    · simp only [PyData.depth, PyData.depthAll, PyData.depthKv]; omega
theorem int_plain (i : Int) : ∀ c ∈ (Str.ofString (toString i)).cps.toList, c < 128 := fun c hc => by
  rw [Str.ofString_eq_toList] at hc
  have hc : c ∈ (toString i).toList.map Char.toNat := by simpa using hc
  obtain ⟨ch, h1, rfl⟩ := List.mem_map.mp hc
  exact int_ascii i ch h1
theorem cutS_plain {x : Str} {lo hi : Option Int} : (cutS x lo hi).length ≤ x.length ∧ ∀ c ∈ (cutS x lo hi).cps.toList, c ∈ x.cps.toList := by
  have e : (cutS x lo hi).cps.toList = (x.cps.toList.drop (HT.sIx x.length 0 lo)).take (HT.sIx x.length x.length hi - HT.sIx x.length 0 lo) := by simp [cutS]
  have s := cut_sub x.cps.toList (HT.sIx x.length 0 lo) (HT.sIx x.length x.length hi - HT.sIx x.length 0 lo)
  rw [← e] at s
  have l := s.length_le
  rw [Array.length_toList, Array.length_toList] at l
  exact ⟨l, fun c hc => s.subset hc⟩
def spOdd : Sp := fun vs H Q _ => ∃ (M : List Addr) (a : Addr) (n : Nat) (v : V) (d : PyData) (B W D : Nat), vs = [.ref a, v] ∧ a ∈ M ∧ Live M H ∧ Deck H a n ∧ n < 900000 ∧ Rep M H v d ∧ Od B W D d ∧ 10 ^ 20 ≤ B ∧ B < 2 ^ 399 ∧ W ≤ 20000 ∧
  ∀ v' d' H', Kp [a] H H' → Rep M H' v' d' → Od (B + 1) (2 * W + 500) (D + 3) d' → Deck H' a (n + 1) → Q v' H'
theorem nums {M : List Addr} {te : TE} {σ : L2.St} {H : Hp} {d : PyData} {i : Int} {B : Nat} (hd : isInt d = true) (e : i = num d) (hi : i.natAbs ≤ B) (hB : B < 2 ^ 399) (h : EvE M te σ H d) :
    EvL M (tCons (tOp (rNum fun i j => V.int (i + j)) te (tC (.int 1))) (tCons (tOp (rNum fun i j => V.int (i - j)) te (tC (.int 1))) (tCons (tCB rStrN (tCons te tNil)) (tCons (tOp (rNum fun i j => V.bl (i == j)) te (tC (.int 1))) (tCons (tUn rNegN te) tNil))))) σ H
      [.int (i + 1), .int (i - 1), .str (strN d), .bool (i == 1), .int (-i)] := by
  subst e
  have small := log2_small (B := B) (Nat.lt_trans hB (Nat.pow_lt_pow_right (by decide) (by decide))) hi
  exact ev_cons (ev_num hd h fun _ _ _ => .int _) (ev_cons (ev_num hd h fun _ _ _ => .int _) (ev_cons (ev_strN hd (by omega) h) (ev_cons (ev_num hd h fun _ _ _ => .bl _) (ev_cons (ev_negN hd h) ev_nil))))
theorem strN_od {d : PyData} {B : Nat} (hd : isInt d = true) (hi : (num d).natAbs ≤ B) (hB : B < 2 ^ 399) : (strN d).length ≤ 401 ∧ ∀ c ∈ (strN d).cps.toList, c < 128 := by
  match d, hd with
  | .bool true, _ => exact ⟨by decide +kernel, by decide +kernel⟩
  | .bool false, _ => exact ⟨by decide +kernel, by decide +kernel⟩
  | .int i, _ =>
    have small := log2_small (B := B) (Nat.lt_trans hB (Nat.pow_lt_pow_right (by decide) (by decide))) hi
    refine ⟨?_, int_plain i⟩
    have := PySem.int_text_length_le (a := i) (k := 400) (by decide) small
    show (Str.ofString (toString i)).length ≤ 401
    rw [PySem.ofString_length]
    exact this
theorem num_od {d : PyData} {i : Int} {B W D : Nat} (hd : isInt d = true) (e : i = num d) (hi : i.natAbs ≤ B) (hB : B < 2 ^ 399) : Ods (B + 1) (2 * W + 500) (D + 3) [.int (i + 1), .int (i - 1), .str (strN d), .bool (i == 1), .int (-i)] := by
  subst e
  obtain ⟨l, c⟩ := strN_od hd hi hB
  intro y hy
  simp only [List.mem_cons, List.not_mem_nil, or_false] at hy
  rcases hy with rfl | rfl | rfl | rfl | rfl
  · exact ⟨by show Int.natAbs _ ≤ _; omega, by simp only [wt]; omega, by simp only [PyData.depth]; omega⟩
  · exact ⟨by show Int.natAbs _ ≤ _; omega, by simp only [wt]; omega, by simp only [PyData.depth]; omega⟩
  · exact ⟨c, by simp only [wt]; omega, by simp only [PyData.depth]; omega⟩
  · exact ⟨trivial, by simp only [wt]; omega, by simp only [PyData.depth]; omega⟩
  · exact ⟨by show Int.natAbs _ ≤ _; omega, by simp only [wt]; omega, by simp only [PyData.depth]; omega⟩
theorem ok_odd (B : Bs mg t1 t2) (D : Defd K mg "_law_odd" s_odd) (C_law_any : Callee P w K mg base CX0 2 "_law_any" ["_law_deck_here", "_law_items"] spAny) : Callee P w K mg base CX0 3 "_law_odd" ["_law_deck_here", "_law_thing"] spOdd := by
  refine D.ok sc_odd (fun _ _ _ _ _ _ us hl => match us, hl with | [_, _], _ => rfl) (fun _ _ _ _ ⟨_, _, _, _, _, _, _, _, e, _⟩ => by rw [e]; rfl) fun f cdv A outer s H vs Q E hgu hr h => ?_
  obtain ⟨M, a, n, v, d, bB, bW, bD, rfl, haM, live, dk, hn, r, od, hB0, hB1, hW, q⟩ := h
  have up : ∀ {H1 H2 : Hp}, Kp [a] H1 H2 → Kp M H1 H2 := fun k => k.more fun b hb => (List.mem_singleton.mp hb) ▸ haM
  refine ⟨_, (pss_cons (ps_set (i := 2) sc_odd.nd rfl (.inl rfl) (pe_lstS (pa_cons pe_non (pa_cons pe_bl (pa_cons pe_bl (pa_cons pe_int (pa_cons pe_int (pa_cons (pe_un un_neg pe_int) (pa_cons pe_int (pa_cons (pe_op op_pow pe_int pe_int) (pa_cons pe_str (pa_cons pe_str (pa_cons pe_str (pa_cons pe_str (pa_cons (pe_tup pa_nil) (pa_cons (pe_lstS pa_nil) (pa_cons pe_dnewK (pa_cons (pe_tup (pa_cons pe_int pa_nil)) (pa_cons (pe_tup (pa_cons pe_str pa_nil)) (pa_cons (pe_tup (pa_cons (pe_tup (pa_cons pe_str (pa_cons pe_int pa_nil))) pa_nil)) (pa_cons (pe_lstS (pa_cons pe_int pa_nil)) pa_nil)))))))))))))))))))))
        (pss_cons (ps_if (pt_val (pe_callB call_isTup (by rfl) B.isinstance (by decide +kernel) (pa_cons (pv 1) (pa_cons (pe_bltn (v := .ty "tuple") (by rfl) B.tuple (by decide +kernel) rfl) pa_nil)))) (pss_one (ps_set (i := 2) sc_odd.nd rfl (.inl rfl) (pe_op op_cat (pv 2) (pe_op op_rep (pe_lstS (pa_cons (pe_callTy call_listT (by rfl) B.list (by decide +kernel) (pa_cons (pv 1) pa_nil)) (pa_cons (pe_slice sl_tupA (pv 1) po_none (po_some (pe_un un_neg pe_int))) (pa_cons (pe_op op_catA (pv 1) (pe_slice sl_tupA (pv 1) (po_some (pe_un un_neg pe_int)) po_none)) (pa_cons (pe_revT (pv 1)) (pa_cons (pe_tup (pa_cons (pv 1) pa_nil)) (pa_cons (pe_slice sl_tupA (pv 1) (po_some pe_int) po_none) pa_nil))))))) pe_int)))) (pss_one (ps_if (pt_val (pe_callB call_isStr (by rfl) B.isinstance (by decide +kernel) (pa_cons (pv 1) (pa_cons (pe_bltn (v := .ty "str") (by rfl) B.str (by decide +kernel) rfl) pa_nil)))) (pss_one (ps_set (i := 2) sc_odd.nd rfl (.inl rfl) (pe_op op_cat (pv 2) (pe_op op_rep (pe_lstS (pa_cons (pe_op op_add_str (pv 1) pe_str) (pa_cons (pe_slice sl_str (pv 1) po_none (po_some (pe_un un_neg pe_int))) (pa_cons (pe_bm0 PySem.F.plainAttrs_str PySem.F.slot_str_upper PySem.F.type_str_upper mt_upper (pv 1)) (pa_cons (pe_op op_add_str (pv 1) pe_str) (pa_cons (pe_tup (pa_cons (pv 1) pa_nil)) (pa_cons (pe_lstS (pa_cons (pv 1) pa_nil)) pa_nil))))))) pe_int)))) (pss_one (ps_if (pt_val (pe_callB call_isInt (by rfl) B.isinstance (by decide +kernel) (pa_cons (pv 1) (pa_cons (pe_bltn (v := .ty "int") (by rfl) B.int (by decide +kernel) rfl) pa_nil)))) (pss_one (ps_set (i := 2) sc_odd.nd rfl (.inl rfl) (pe_op op_cat (pv 2) (pe_op op_rep (pe_lstS (pa_cons (pe_op op_addN (pv 1) pe_int) (pa_cons (pe_op op_subN (pv 1) pe_int) (pa_cons (pe_callTy call_strN (by rfl) B.str (by decide +kernel) (pa_cons (pv 1) pa_nil)) (pa_cons (pe_cmpR op_eqN (pv 1) pe_int (nomark _)) (pa_cons (pe_un un_negN (pv 1)) pa_nil)))))) pe_int)))) pss_nil)))))
        (pss_one (ps_ret (pown C_law_any hgu (hr.mono (by omega)) (by rfl) pass0 (pa_cons (pv 0) (pa_cons (pv 2) pa_nil))))))), ?_⟩
  obtain ⟨oa, ea⟩ := dk.some
  have ev : EvL M _ [some (.ref a), some v, none] H base19 := ev_cons ev_non (ev_cons (ev_bl true) (ev_cons (ev_bl false) (ev_cons (ev_int 0) (ev_cons (ev_int 1) (ev_cons (ev_neg 1) (ev_cons (ev_int 12) (ev_cons ev_pow (ev_cons (ev_str "") (ev_cons (ev_str "a") (ev_cons (ev_str "A") (ev_cons (ev_str "ab")
    (ev_cons (ev_tup live ev_nil (by decide)) (ev_cons (ev_lst live ev_nil (by decide)) (ev_cons (ev_emp live) (ev_cons (ev_tup live (ev_cons (ev_int 0) ev_nil) (by decide)) (ev_cons (ev_tup live (ev_cons (ev_str "a") ev_nil) (by decide))
    (ev_cons (ev_tup live (ev_cons (ev_tup live (ev_cons (ev_str "a") (ev_cons (ev_int 1) ev_nil)) (by decide)) ev_nil) (by decide)) (ev_cons (ev_lst live (ev_cons (ev_int 0) ev_nil) (by decide)) ev_nil))))))))))))))))))
  refine seq_i (asg_i (lst_i (ev.run fun vs19 H2 k2 r19 => ⟨by rw [r19.length]; exact small (by decide), fun p hp _ => ?_⟩)))
  have l19 : vs19.length = 19 := r19.length
  have b19 : Ods (bB + 1) (2 * bW + 500) (bD + 3) base19 := base_od hB0
  have fin : ∀ (p' : Addr) (us : List V) (ds : List PyData) (H' : Hp), Kp [] H H' → H p' = none → H' p' = some (.lst us) → Reps M H' us ds → Ods (bB + 1) (2 * bW + 500) (bD + 3) ds → 0 < us.length → us.length ≤ 1000 →
      tCall spAny [] E0 (tCons (tVar 0) (tCons (tVar 2) tNil)) [some (.ref a), some v, some (.ref p')] H' Q := fun p' us ds H' k hp' e rs ods l0 l1 => by
    have ne : p' ≠ a := (ne_of_none ea hp').symm
    refine ⟨.ref a, rfl, .ref p', rfl, a, p', n, us, rfl, dk.keep k List.not_mem_nil, by omega, ne, e, l0, by omega, fun i v' H3 ei k3 dk3 => ?_⟩
    obtain ⟨d', ed, rd⟩ := rs.at ei
    exact q v' d' H3 (k.same.trans k3) (rd.keep (up k3)) (ods d' (List.mem_of_getElem? ed)) dk3
  have kp : Kp [] H (upd H2 p (.lst vs19)) := k2.trans (Kp.new hp)
  have np : H p = none := none_back k2 hp
  have r19' : Reps M (upd H2 p (.lst vs19)) vs19 base19 := r19.keep (Kp.new hp)
  have ep : (upd H2 p (.lst vs19)) p = some (.lst vs19) := upd_same
  generalize upd H2 p (.lst vs19) = H3 at kp r19' ep ⊢
  have r3 := r.keep (kp.same (M := M))
  have live3 := live.grow kp
  have two : ∀ {x : List PyData}, Ods (bB + 1) (2 * bW + 500) (bD + 3) x → Ods (bB + 1) (2 * bW + 500) (bD + 3) (base19 ++ (x ++ x)) := fun h d hd => by
    rcases List.mem_append.mp hd with hd | hd
    · exact b19 d hd
    · exact (List.mem_append.mp hd).elim (h d) (h d)
  refine ⟨v, rfl, M, v, d, rfl, r3, _, rfl, ?_⟩
  have lB : bB ≤ bB + 1 := Nat.le_succ _
  have sg : good (bB + 1) d := od.g.mono lB
  have sw := od.w
  have sd := od.d
  have ev1 : EvE M (tVar 1) [some (.ref a), some v, some (.ref p)] H3 d := ev_var rfl r3
  -- behind a list that grew by six
  have app : ∀ (ta : TA) (x : List PyData), EvL M ta [some (.ref a), some v, some (.ref p)] H3 x → x.length ≤ 8 → Ods (bB + 1) (2 * bW + 500) (bD + 3) x → tOp rCat (tVar 2) (tOp rRep (tLstS ta) (tC (.int 2))) [some (.ref a), some v, some (.ref p)] H3
      fun x H1 => tCall spAny [] E0 (tCons (tVar 0) (tCons (tVar 2) tNil)) [some (.ref a), some v, some x] H1 Q := fun ta x ev hx ods =>
    app_two rfl ep (by omega) ev (by omega) fun p4 us H4 k4 n4 e4 rs => by
      have lu := rs.length
      rw [List.length_append] at lu
      exact fin p4 _ _ H4 (kp.trans k4) (none_back kp n4) e4 ((r19'.keep k4.same).append rs) (two ods) (by rw [List.length_append]; omega) (by rw [List.length_append]; omega)
  have pick : ∀ {x : List PyData} {y : PyData}, y ∈ x → x.all (fun _ => true) = true := fun _ => by simp
  match d, r3, sg, sw, sd, ev1 with
  | .tuple ds, r3, sg, sw, sd, ev1 =>
    refine iteT (asg_i ?_)
    have g : goods (bB + 1) ds := sg
    simp only [wt] at sw
    simp only [PyData.depth] at sd
    have gi := goods_iff.mp g
    have di := depthAll_le.mp (Nat.le_refl (PyData.depthAll ds))
    have dl : ds.length ≤ 20000 := Nat.le_trans (wts_len ds) (by omega)
    obtain ⟨a1, b1, e1⟩ := ev_cut (K := K) (tl := tNoPart) (th := tPart (tUn (rU fun i => V.int (-i)) (tC (.int 1)))) (lo := none) (hi := some (-1)) live3 ev1 (fun H1 R h => po_no R h) (fun H1 R h => ⟨1, rfl, -1, rfl, h⟩)
    obtain ⟨a2, b2, e2⟩ := ev_cut (K := K) (tl := tPart (tUn (rU fun i => V.int (-i)) (tC (.int 1)))) (th := tNoPart) (lo := some (-1)) (hi := none) live3 ev1 (fun H1 R h => ⟨1, rfl, -1, rfl, h⟩) (fun H1 R h => po_no R h)
    obtain ⟨a3, b3, e3⟩ := ev_cut (K := K) (tl := tPart (tC (.int 1))) (th := tNoPart) (lo := some 1) (hi := none) live3 ev1 (fun H1 R h => ⟨1, rfl, h⟩) (fun H1 R h => po_no R h)
    have s1 := cut_sub ds a1 b1
    have s2 := cut_sub ds a2 b2
    have s3 := cut_sub ds a3 b3
    have w1 := wts_sub s1
    have w2 := wts_sub s2
    have w3 := wts_sub s3
    refine app _ _ (ev_cons (ev_list live3 ev1) (ev_cons e1 (ev_cons (ev_cat (K := K) live3 ev1 e2 (by have := s2.length_le; omega)) (ev_cons (ev_rev live3 ev1) (ev_cons (ev_tup live3 (ev_cons ev1 ev_nil) (by simp)) (ev_cons e3 ev_nil)))))) (by simp) fun y hy => ?_
    simp only [List.mem_cons, List.not_mem_nil, or_false] at hy
    have part : ∀ xs : List PyData, xs.Sublist ds → Od (bB + 1) (2 * bW + 500) (bD + 3) (.tuple xs) := fun xs hs =>
      ⟨goods_iff.mpr fun x hx => gi x (hs.subset hx), by have := wts_sub hs; simp only [wt]; omega, by
        have : PyData.depthAll xs ≤ PyData.depthAll ds := depthAll_le.mpr fun x hx => di x (hs.subset hx)
        simp only [PyData.depth]; omega⟩
    rcases hy with rfl | rfl | rfl | rfl | rfl | rfl
    · exact ⟨g, by simp only [wt]; omega, by simp only [PyData.depth]; omega⟩
    · exact part _ s1
    · refine ⟨goods_iff.mpr fun x hx => ?_, by simp only [wt, wts_append]; omega, ?_⟩
      · rcases List.mem_append.mp hx with hx | hx
        · exact gi x hx
        · exact gi x (s2.subset hx)
      · have : PyData.depthAll (ds ++ (ds.drop a2).take b2) ≤ PyData.depthAll ds := depthAll_le.mpr fun x hx => by
          rcases List.mem_append.mp hx with hx | hx
          · exact di x hx
          · exact di x (s2.subset hx)
        simp only [PyData.depth]; omega
    · refine ⟨goods_iff.mpr fun x hx => gi x (List.mem_reverse.mp hx), by simp only [wt, wts_reverse]; omega, ?_⟩
      have : PyData.depthAll ds.reverse ≤ PyData.depthAll ds := depthAll_le.mpr fun x hx => di x (List.mem_reverse.mp hx)
      simp only [PyData.depth]; omega
    · exact ⟨⟨g, trivial⟩, by simp only [wt, wts]; omega, by simp only [PyData.depth, PyData.depthAll]; omega⟩
    · exact part _ s3
  | .str x, r3, sg, sw, sd, ev1 =>
    refine iteF ⟨v, rfl, M, v, _, rfl, r3, _, rfl, iteT (asg_i ?_)⟩
    have g : ∀ c ∈ x.cps.toList, c < 128 := sg
    simp only [wt] at sw
    have l1 : ("a" : Str).length = 1 := rfl
    have l2 : (" " : Str).length = 1 := rfl
    have c1 : ∀ c ∈ ("a" : Str).cps.toList, c < 128 := by decide +kernel
    have c2 : ∀ c ∈ (" " : Str).cps.toList, c < 128 := by decide +kernel
    have add : ∀ y : Str, y.length = 1 → (∀ c ∈ y.cps.toList, c < 128) → Od (bB + 1) (2 * bW + 500) (bD + 3) (.str (x ++ y)) := fun y hl hc => by
      refine ⟨fun c h => ?_, ?_, by simp only [PyData.depth]; omega⟩
      · rw [str_append_toList] at h
        exact (List.mem_append.mp h).elim (g c) (hc c)
      · simp only [wt, strLen_append]; omega
    refine app _ _ (ev_cons (ev_adds ev1 (ev_str "a") (by omega)) (ev_cons (ev_cutS (tl := tNoPart) (th := tPart (tUn (rU fun i => V.int (-i)) (tC (.int 1)))) (lo := none) (hi := some (-1)) ev1 (by omega) (fun H1 R h => po_no R h) (fun H1 R h => ⟨1, rfl, -1, rfl, h⟩))
      (ev_cons (ev_upper (K := K) ev1 (by omega)) (ev_cons (ev_adds ev1 (ev_str " ") (by omega)) (ev_cons (ev_tup live3 (ev_cons ev1 ev_nil) (by simp)) (ev_cons (ev_lst live3 (ev_cons ev1 ev_nil) (by simp)) ev_nil)))))) (by simp) fun y hy => ?_
    simp only [List.mem_cons, List.not_mem_nil, or_false] at hy
    rcases hy with rfl | rfl | rfl | rfl | rfl | rfl
    · exact add _ l1 c1
    · obtain ⟨z1, z2⟩ := cutS_plain (x := x) (lo := none) (hi := some (-1))
      exact ⟨fun c hc => g c (z2 c hc), by simp only [wt]; omega, by simp only [PyData.depth]; omega⟩
    · obtain ⟨z1, z2⟩ := upper_plain x g
      exact ⟨z2, by simp only [wt]; omega, by simp only [PyData.depth]; omega⟩
    · exact add _ l2 c2
    · exact ⟨⟨g, trivial⟩, by simp only [wt, wts]; omega, by simp only [PyData.depth, PyData.depthAll]; omega⟩
    · exact ⟨⟨g, trivial⟩, by simp only [wt, wts]; omega, by simp only [PyData.depth, PyData.depthAll]; omega⟩
  | .int i, r3, sg, sw, sd, ev1 =>
    refine iteF ⟨v, rfl, M, v, _, rfl, r3, _, rfl, iteF ⟨v, rfl, M, v, _, rfl, r3, _, rfl, iteT (asg_i ?_)⟩⟩
    have ho : i.natAbs ≤ bB := od.g
    refine app _ _ (nums rfl (i := i) rfl ho hB1 ev1) (by simp) (num_od rfl rfl ho hB1)
  | .bool b, r3, sg, sw, sd, ev1 =>
    refine iteF ⟨v, rfl, M, v, _, rfl, r3, _, rfl, iteF ⟨v, rfl, M, v, _, rfl, r3, _, rfl, iteT (asg_i ?_)⟩⟩
    have ho : (num (.bool b)).natAbs ≤ bB := by cases b <;> simp [num] <;> omega
    refine app _ _ (nums rfl (i := num (.bool b)) rfl ho hB1 ev1) (by simp) (num_od rfl rfl ho hB1)
  | .none, r3, sg, sw, sd, ev1 | .list _, r3, sg, sw, sd, ev1 | .dict _, r3, sg, sw, sd, ev1 =>
    refine iteF ⟨v, rfl, M, v, _, rfl, r3, _, rfl, iteF ⟨v, rfl, M, v, _, rfl, r3, _, rfl, iteF ?_⟩⟩
    exact fin p vs19 base19 H3 kp np ep r19' b19 (by omega) (by omega)
end
end K37
end

section
set_option maxRecDepth 100000
set_option maxHeartbeats 4000000
namespace K37
open PySem PySem.Spec PyProof.Rows L2 Gd
abbrev s_bent : Stmt := topS 18
theorem sc_bent : FnScope ["_law_deck_here", "_law_thing", "_law_deep", "_law_at"] ["_law_deck_here", "_law_thing", "_law_deep"] (defScope s_bent) := ⟨rfl, rfl, rfl, by decide +kernel, rfl, by decide +kernel, by decide +kernel⟩
section
variable {P : Program} {w : World} {K : PySem.W.Frag} {mg : Str → Option Value} {base : Heap} {t1 t2 : Tok}
def spBent (m : Nat) : Sp := fun vs H Q _ => ∃ (M : List Addr) (a : Addr) (n : Nat) (v : V) (d : PyData) (k B W D : Nat), vs = [.ref a, v, .int k] ∧ a ∈ M ∧ Live M H ∧ k ≤ m ∧ Deck H a n ∧ n + 2 * k < 800000 ∧ Rep M H v d ∧ Od B W D d ∧ 10 ^ 20 ≤ B ∧ B < 2 ^ 399 ∧ W ≤ 20000 ∧
  ∀ v' d' H', Kp [a] H H' → Rep M H' v' d' → Od (B + 1) (2 * W + 500) (D + 3) d' → Deck H' a (n + 2 * k + 1) → Q v' H'
theorem Od.at {B W D n : Nat} {ds : List PyData} {x : PyData} (o : Od B W D (.tuple ds)) (h : ds[n]? = some x) : Od B (wt x) (D - 1) x ∧ wts ds = wts (ds.take n) + (wt x + 1) + wts (ds.drop (n + 1)) ∧ wts ds + 1 ≤ W ∧ 1 ≤ D := by
  have m := List.mem_of_getElem? h
  have w := o.w
  have d := o.d
  simp only [wt] at w
  simp only [PyData.depth] at d
  have di := depthAll_le.mp (Nat.le_refl (PyData.depthAll ds)) x m
  exact ⟨⟨goods_iff.mp o.g x m, Nat.le_refl _, by omega⟩, wts_at h, by omega, by omega⟩
theorem Od.put {B W D n : Nat} {ds : List PyData} {x y : PyData} (o : Od B W D (.tuple ds)) (h : ds[n]? = some x) (oy : Od (B + 1) (2 * wt x + 500) (D - 1 + 3) y) : Od (B + 1) (2 * W + 500) (D + 3) (.tuple (ds.take n ++ [y] ++ ds.drop (n + 1))) := by
  obtain ⟨ox, ew, hw, hd⟩ := o.at h
  have g := goods_iff.mp o.g
  have d := o.d
  simp only [PyData.depth] at d
  have di := depthAll_le.mp (Nat.le_refl (PyData.depthAll ds))
  have mem : ∀ z ∈ ds.take n ++ [y] ++ ds.drop (n + 1), z ∈ ds ∨ z = y := fun z hz => by
    rcases List.mem_append.mp hz with hz | hz
    · rcases List.mem_append.mp hz with hz | hz
      · exact .inl (List.mem_of_mem_take hz)
      · exact .inr (List.mem_singleton.mp hz)
    · exact .inl (List.mem_of_mem_drop hz)
  refine ⟨goods_iff.mpr fun z hz => ?_, ?_, ?_⟩
  · rcases mem z hz with hz | rfl
    · exact (g z hz).mono (Nat.le_succ _)
    · exact oy.g
  · have := oy.w
    simp only [wt, wts_append, wts]
    omega
  · have : PyData.depthAll (ds.take n ++ [y] ++ ds.drop (n + 1)) ≤ D + 2 := depthAll_le.mpr fun z hz => by
      rcases mem z hz with hz | rfl
      · have := di z hz; omega
      · have := oy.d; omega
    simp only [PyData.depth]; omega
theorem ok_bent0 (m k : Nat) (B : Bs mg t1 t2) (D : Defd K mg "_law_bent" s_bent) (C_law_draw : Callee P w K mg base CX0 1 "_law_draw" ["_law_deck_here", "_law_many"] spDraw) (C_law_odd : Callee P w K mg base CX0 3 "_law_odd" ["_law_deck_here", "_law_thing"] spOdd)
    (sub : Sp) (hk : 3 ≤ k) (C_law_bent : Callee P w K mg base CX0 k "_law_bent" ["_law_deck_here", "_law_thing", "_law_deep"] sub) (hsub : ∀ vs H Q E m', m = m' + 1 → spBent m' vs H Q E → sub vs H Q E) :
    Callee P w K mg base CX0 (k + 1) "_law_bent" ["_law_deck_here", "_law_thing", "_law_deep"] (spBent m) := by
  refine D.ok sc_bent (fun _ _ _ _ _ _ us hl => match us, hl with | [_, _, _], _ => rfl) (fun _ _ _ _ ⟨_, _, _, _, _, _, _, _, _, e, _⟩ => by rw [e]; rfl) fun f cdv A outer s H vs Q E hgu hr h => ?_
  obtain ⟨M, a, n, v, d, kk, bB, bW, bD, rfl, haM, live, hkm, dk, hn, r, od, hB0, hB1, hW, q⟩ := h
  refine ⟨_, (pss_cons (ps_if (PW.pt (pw_or (pt_cmpR op_eq (pv 2) pe_int (nomark _)) (pw_or (pt_not (pt_val (pe_callB call_isTup (by rfl) B.isinstance (by decide +kernel) (pa_cons (pv 1) (pa_cons (pe_bltn (v := .ty "tuple") (by rfl) B.tuple (by decide +kernel) rfl) pa_nil))))) (pw_or (pt_cmpR (op_eqE hr) (pv 1) (pe_tup pa_nil) (nomark _)) (pw_or1 (pt_cmpR op_eq (pown C_law_draw hgu (hr.mono (by omega)) (by rfl) pass0 (pa_cons (pv 0) (pa_cons pe_int pa_nil))) pe_int (nomark _))))))) (pss_one (ps_ret (pown C_law_odd hgu (hr.mono (by omega)) (by rfl) pass0 (pa_cons (pv 0) (pa_cons (pv 1) pa_nil))))) pss_nil)
        (pss_cons (ps_set (i := 3) sc_bent.nd rfl (.inl rfl) (pown C_law_draw hgu (hr.mono (by omega)) (by rfl) pass0 (pa_cons (pv 0) (pa_cons (pe_callB call_len (by rfl) B.len PySem.boot_len (pa_cons (pv 1) pa_nil)) pa_nil))))
        (pss_one (ps_ret (pe_op op_catA (pe_op op_catA (pe_slice sl_tupA (pv 1) po_none (po_some (pv 3))) (pe_tup (pa_cons (pown C_law_bent hgu (hr.mono (by omega)) (by rfl) pass0 (pa_cons (pv 0) (pa_cons (pe_ix (ix_tupK (K := K) rfl) (pv 1) (pv 3) (fun _ _ => rfl)) (pa_cons (pe_op op_sub (pv 2) pe_int) pa_nil)))) pa_nil))) (pe_slice sl_tupA (pv 1) (po_some (pe_op op_add (pv 3) pe_int)) po_none)))))), ?_⟩
  obtain ⟨oa, ea⟩ := dk.some
  have up : ∀ {H1 H2 : Hp}, Kp [a] H1 H2 → Kp M H1 H2 := fun k => k.more fun b hb => (List.mem_singleton.mp hb) ▸ haM
  have lup : ∀ {H1 H2 : Hp}, Kp [a] H1 H2 → (∃ o, H2 a = some o) → Live M H1 → Live M H2 := fun k e l b hb => by
    by_cases z : b = a
    · rw [z]; exact e
    · obtain ⟨o, eo⟩ := l b hb; exact ⟨o, k b o (fun q => z (List.mem_singleton.mp q)) eo⟩
  have odd : ∀ n0 H', Kp [a] H H' → Deck H' a n0 → n0 ≤ n + 2 * kk → tCall spOdd [] E0 (tCons (tVar 0) (tCons (tVar 1) tNil)) [some (.ref a), some v, some (.int kk), none] H' Q := fun n0 H' k' dk' hn0 =>
    ⟨.ref a, rfl, v, rfl, M, a, n0, v, d, bB, bW, bD, rfl, haM, lup k' dk'.some live, dk', by omega, r.keep (up k'), od, hB0, hB1, hW, fun v' d' H2 k2 r2 o2 dk2 => q v' d' H2 (k'.trans k2) r2 o2 (dk2.mono (by omega))⟩
  have draw5 : ∀ H' {R : Bool → Hp → Prop}, Kp [] H H' → (∀ (b : Bool) H2, Kp [a] H H2 → Deck H2 a (n + 1) → R b H2) → tTest (tOp rEq (tCall spDraw [] E0 (tCons (tVar 0) (tCons (tC (V.int 5)) tNil))) (tC (V.int 0))) [some (.ref a), some v, some (.int kk), none] H' R := fun H' R k' q' =>
    ⟨.ref a, rfl, a, n, 5, rfl, dk.keep k' List.not_mem_nil, by omega, by decide, by decide, fun r' H2 _ k2 dk2 => ⟨rfl, _, rfl, q' _ H2 (k'.same.trans k2) dk2⟩⟩
  refine seq_i ⟨.int kk, rfl, rfl, _, rfl, ?_⟩
  refine ite2 (fun e0 => ?_) (fun e0 => ?_)
  · exact iteT (odd n H .refl dk (by omega))
  have k1 : 1 ≤ kk := by
    rcases Nat.eq_zero_or_pos kk with h | h
    · subst h; exact absurd (decide_eq_true rfl) e0
    · exact h
  by_cases hT : isTup d = false
  · exact ⟨v, rfl, M, v, d, rfl, r, false, by rw [hT], iteT (iteT (odd n H .refl dk (by omega)))⟩
  obtain ⟨ds, rfl⟩ : ∃ ds, d = .tuple ds := by cases d <;> first | exact ⟨_, rfl⟩ | exact absurd rfl hT
  refine ⟨v, rfl, M, v, _, rfl, r, true, rfl, iteF ?_⟩
  have r0 := r
  cases r with
  | @tup p vs _ np ep rs =>
  refine ⟨.ref p, rfl, Nat.zero_le _, fun p2 h2 => ⟨p, p2, vs, rfl, rfl, Kp.new h2 _ _ List.not_mem_nil ep, upd_same, _, rfl, ?_⟩⟩
  have kE : Kp [] H (upd H p2 (.tup [])) := Kp.new h2
  refine ite2 (fun e1 => iteT (odd n _ kE.same (dk.keep kE List.not_mem_nil) (by omega))) (fun e1 => ?_)
  have vne : vs ≠ [] := fun h => e1 (by rw [h]; rfl)
  have vl : 0 < vs.length := List.length_pos_iff.mpr vne
  have ll := rs.length
  have w0 := od.w
  simp only [wt] at w0
  have lw := wts_len ds
  refine draw5 _ kE fun b H2 k2 dk2 => ?_
  cases b with
  | true => exact iteT (odd (n + 1) H2 k2 dk2 (by omega))
  | false =>
  refine iteF ?_
  dsimp only [tNext]
  refine seq_i (asg_i ?_)
  have npa : p ∉ [a] := fun z => np ((List.mem_singleton.mp z) ▸ haM)
  have rs2 := rs.keep (up k2)
  have ep2 := k2 _ _ npa ep
  refine ⟨.ref a, rfl, .ref p, rfl, .ref p, vs.length, rfl, .inr ⟨vs, .inl (.inl ep2), rfl⟩, a, n + 1, vs.length, rfl, dk2, by omega, vl, by omega, fun at_ H3 hat k3 dk3 => ?_⟩
  have k03 : Kp [a] H H3 := k2.trans k3
  have ep3 := k3 _ _ npa ep2
  have rs3 := rs2.keep (up k3)
  have live3 : Live M H3 := lup k03 dk3.some live
  have hd : at_ < ds.length := by omega
  have ev1 : EvE M (tVar 1) [some (.ref a), some (.ref p), some (.int kk), some (.int at_)] H3 (.tuple ds) := ev_var rfl (.tup np ep3 rs3)
  obtain ⟨u, eu, ru⟩ : ∃ u, vs[at_]? = some u ∧ Rep M H3 u ds[at_] := by
    have hv : vs[at_]? = some vs[at_] := List.getElem?_eq_getElem (by omega)
    obtain ⟨x, ex, rx⟩ := rs3.at hv
    refine ⟨_, hv, ?_⟩
    rw [List.getElem?_eq_getElem hd] at ex
    cases ex
    exact rx
  have eat : ds[at_]? = some ds[at_] := List.getElem?_eq_getElem hd
  generalize ds[at_] = x at ru eat
  obtain ⟨ox, ew, hw, hD⟩ := od.at eat
  have tl : (ds.take at_).length = at_ := by rw [List.length_take]; omega
  refine (ev_take (K := K) (n := at_) (th := tPart (tVar 3)) live3 ev1 (fun H1 R h => ⟨.int at_, rfl, at_, rfl, h⟩)).run fun v1 H4 k4 r1 => ?_
  refine ⟨.ref a, rfl, .ref p, rfl, .int at_, rfl, p, vs, at_, u, rfl, rfl, .inl (.inl (k4 _ _ List.not_mem_nil ep3)), atI_nat eu, .int kk, rfl, kk, 1, rfl, rfl, ?_⟩
  obtain ⟨m', rfl⟩ : ∃ m', m = m' + 1 := ⟨m - 1, by omega⟩
  have ek : (kk : Int) - 1 = ((kk - 1 : Nat) : Int) := by omega
  refine hsub _ _ _ _ m' rfl ⟨M, a, n + 2, u, x, kk - 1, bB, wt x, bD - 1, ?_, haM, live3.grow k4, by omega, dk3.keep k4 List.not_mem_nil, by omega, ru.keep k4.same, ox, hB0, hB1, by omega, fun v' d' H5 k5 r5 o5 dk5 => ?_⟩
  · show [V.ref a, u, V.int ((kk : Int) - 1)] = _
    rw [ek]
  refine ⟨by show 1 ≤ sizeLine; decide, fun p6 h6 => ?_⟩
  have live5 : Live M H5 := lup k5 dk5.some (live3.grow k4)
  have r6 : Rep M (upd H5 p6 (.tup [v'])) (.ref p6) (.tuple [d']) := .tup (live5.fresh h6) upd_same (.cons (r5.keep (Kp.new h6)) .nil)
  have k6 : Kp [] H5 (upd H5 p6 (.tup [v'])) := Kp.new h6
  have od' := od.put eat o5
  generalize upd H5 p6 (.tup [v']) = H6 at r6 k6
  have k36 : Kp [a] H3 H6 := (k4.same.trans k5).trans k6.same
  have live6 := live5.grow k6
  refine cat_v (K := K) live6 (r1.keep (up (k5.trans k6.same))) r6 (by rw [tl]; show at_ + 1 ≤ 100000; omega) fun x7 H7 k7 r7 => ?_
  have live7 := live6.grow k7
  have k37 := k36.trans k7.same
  have ev7 : EvE M (tVar 1) [some (.ref a), some (.ref p), some (.int kk), some (.int at_)] H7 (.tuple ds) := ev_var rfl (.tup np (k37 _ _ npa ep3) (rs3.keep (up k37)))
  refine (ev_drop (K := K) (n := at_ + 1) (tl := tPart (tOp (rI0 fun i j => V.int (i + j)) (tVar 3) (tC (V.int 1)))) live7 ev7 (fun H1 R h => ⟨.int at_, rfl, at_, 1, rfl, rfl, _, rfl, h⟩)).run fun v8 H8 k8 r8 => ?_
  refine cat_v (K := K) (live7.grow k8) (r7.keep k8.same) r8 (by rw [List.length_append, tl, List.length_drop]; show at_ + 1 + _ ≤ 100000; omega) fun x9 H9 k9 r9 => ?_
  exact q x9 _ H9 (k03.trans (k37.trans (k8.trans k9).same)) r9 od' ((dk5.keep (k6.trans (k7.trans (k8.trans k9))) List.not_mem_nil).mono (by omega))
theorem ok_bent (B : Bs mg t1 t2) (D : Defd K mg "_law_bent" s_bent) (C_law_draw : Callee P w K mg base CX0 1 "_law_draw" ["_law_deck_here", "_law_many"] spDraw) (C_law_odd : Callee P w K mg base CX0 3 "_law_odd" ["_law_deck_here", "_law_thing"] spOdd) :
    ∀ m : Nat, Callee P w K mg base CX0 (4 + m) "_law_bent" ["_law_deck_here", "_law_thing", "_law_deep"] (spBent m)
  | 0 => ok_bent0 0 3 B D C_law_draw C_law_odd (fun _ _ _ _ => False) (Nat.le_refl 3) (D.ok sc_bent (fun _ _ _ _ _ _ us hl => match us, hl with | [_, _, _], _ => rfl) (fun _ _ _ _ h => h.elim) (fun _ _ _ _ _ _ _ _ _ _ _ h => h.elim)) fun _ _ _ _ m' h => absurd h (by omega)
  | m + 1 => ok_bent0 (m + 1) (4 + m) B D C_law_draw C_law_odd (spBent m) (by omega) (ok_bent B D C_law_draw C_law_odd m) fun _ _ _ _ m' h h2 => by
      cases (by omega : m' = m)
      exact h2
end
end K37
end

section
set_option maxRecDepth 100000
set_option maxHeartbeats 4000000
namespace K37
open PySem PySem.Spec PyProof.Rows L2 Gd Ab
section
variable {P : Program} {w : World} {K : PySem.W.Frag} {mg : Str → Option Value} {base : Heap} {t1 t2 : Tok}
theorem deck_put {N M : List Addr} {H H' : Hp} {m : Store} {i n : Nat} {a : Addr} (R : Rel N M H m) (ha : M[i]? = some a) (kp : Kp [a] H H') (dk : Deck H' a n) : ∃ c, dkC n c ∧ Ext M H M H' ∧ Rel N M H' (m.set i c) := by
  have am : a ∈ M := List.mem_of_getElem? ha
  obtain ⟨x, y, z, e', b1, b2, b3, b4, b5⟩ := dk
  have x' : Ext M H M H' := ⟨List.prefix_refl _, kp.more fun b hb => by rw [List.mem_singleton.mp hb]; exact am, fun a h h' => absurd h h'⟩
  refine ⟨.lst [.im (.int x), .im (.int y), .im (.int z)], ⟨x, y, z, rfl, b1, b2, b3, b4, b5⟩, x', R.nd, by rw [List.length_set]; exact R.len, fun j b c' g1 g2 => ?_, fun b hb => ?_⟩
  · by_cases z' : j = i
    · subst z'
      rw [ha] at g1
      cases g1
      rw [List.getElem?_set_self (by rw [← R.len]; exact (List.getElem?_eq_some_iff.mp ha).1)] at g2
      cases g2
      exact ⟨_, e', .cons (.int _) (.cons (.int _) (.cons (.int _) .nil))⟩
    · rw [List.getElem?_set_ne (Ne.symm z')] at g2
      refine (R.cell j b c' g1 g2).ext x' fun o ho => kp b o (fun hb => ?_) ho
      rw [List.mem_singleton.mp hb] at g1
      exact z' ((List.getElem?_inj (List.getElem?_eq_some_iff.mp g1).1 R.nd).mp (g1.trans ha.symm))
  · obtain ⟨o, ho⟩ := R.there b hb
    by_cases z' : b = a
    · exact ⟨_, by rw [z']; exact e'⟩
    · exact ⟨o, kp b o (fun h => z' (List.mem_singleton.mp h)) ho⟩
/-- data, bent at some place no deeper than k -/
def aBent (top : Nat) : ASp := fun ds m P _ => ∃ (i n : Nat) (d : PyData) (k B W D : Nat), ds = [.mu i, .im d, .im (.int k)] ∧ Dk m i n ∧ k ≤ top ∧ n + 2 * k < 800000 ∧ Od B W D d ∧ 10 ^ 20 ≤ B ∧ B < 2 ^ 399 ∧ W ≤ 20000 ∧ ∀ d' c, Od (B + 1) (2 * W + 500) (D + 3) d' → dkC (n + 2 * k + 1) c → P (.im d') (m.set i c)
theorem bent_a {k top : Nat} (C : Callee P w K mg base CX0 k "_law_bent" ["_law_deck_here", "_law_thing", "_law_deep"] (spBent top)) : Callee P w K mg base CX0 k "_law_bent" ["_law_deck_here", "_law_thing", "_law_deep"] (lift (aBent top)) := C.imp fun vs H Q E h => by
  obtain ⟨N, M, m, ds, Pd, EA, R, r, ⟨i, n, d, k, Bd, W, D, rfl, ⟨c, ec, hc⟩, hk, hn, od, h1, h2, h3, q⟩, _, q'⟩ := h
  obtain ⟨v, u, x, rfl, rv, ru, rx⟩ := val3 r
  obtain ⟨a, ha, dk⟩ := deck_of R ec hc
  obtain ⟨_, a', ha', rfl⟩ := rv
  rw [ha] at ha'
  cases ha'
  cases rx
  have am : a ∈ M := List.mem_of_getElem? ha
  refine ⟨M ++ N, a, n, u, d, k, Bd, W, D, rfl, List.mem_append_left _ am, R.live, hk, dk, hn, ru, od, h1, h2, h3, fun v' d' H' kp rr od' dk' => ?_⟩
  obtain ⟨c', hc', x', R'⟩ := deck_put R ha kp dk'
  exact q' v' (.im d') M H' _ x' R' rr (q d' c' od' hc')
end
end K37
end

section
set_option maxRecDepth 100000
set_option maxHeartbeats 4000000
namespace K37
open PySem PySem.Spec PyProof.Rows L2 Gd Ab
section
variable {P : Program} {w : World} {K : PySem.W.Frag} {mg : Str → Option Value} {base : Heap} {t1 t2 : Tok}
def aNames : ASp := fun ds m P _ => ∃ i n k : Nat, ds = [.mu i, .im (.int k)] ∧ Dk m i n ∧ n + 2 < 1000000 ∧ k ≤ 26 ∧ ∀ ss c, (∀ s ∈ ss, Nm s) → Asc ss → ss.length = k → dkC (n + 2) c → P (.wl (ss.map .str)) (m.set i c)
def letter (f a : Nat) : Str := ⟨#[97 + (f + 5 * a) % 26]⟩
theorem letter_at : ∀ r, r < 26 → L2.atI ("abcdefghijklmnopqrstuvwxyz" : Str).cps.toList (r : Nat) = some (97 + r) := by decide +kernel
theorem letter_ok (f a : Nat) : okS (letter f a) := by
  show PyData.strOk _ = true
  unfold PyData.strOk letter
  simp
  omega
theorem letter_inj {f a b : Nat} {x : Str} (ha : a < 26) (hb : b < 26) (h : x ++ letter f a = x ++ letter f b) : a = b := by
  have h1 : (x ++ letter f a).cps = (x ++ letter f b).cps := by rw [h]
  have h2 : x.cps ++ (letter f a).cps = x.cps ++ (letter f b).cps := h1
  have h3 := Array.append_inj_right h2 rfl
  unfold letter at h3
  simp at h3
  omega
theorem ok_names (hB : Bs mg t1 t2) (D : Defd K mg "_law_names" s_names) (C_law_draw : Callee P w K mg base CX0 1 "_law_draw" ["_law_deck_here", "_law_many"] (lift aDraw)) (C_law_any : Callee P w K mg base CX0 2 "_law_any" ["_law_deck_here", "_law_items"] (lift aAny)) : Callee P w K mg base CX0 3 "_law_names" ["_law_deck_here", "_law_many"] (lift aNames) := by
  refine okA D sc_names (fun _ _ _ _ _ _ us hl => match us, hl with | [_, _], _ => rfl) (fun ds m Q EA ⟨_, _, _, e, _⟩ => by rw [e]; rfl) fun f cdv A outer s H E B hgu hr => ?_
  refine ⟨_, _, (ss_cons (s_asg (ae_tup (al_cons (ae_call C_law_any hgu (hr.mono (by omega)) (by rfl) pass0 (al_cons (ae_v (pv 0)) (al_cons (ae_lst (al_cons ae_str (al_cons ae_str (al_cons ae_str (al_cons ae_str (al_cons ae_str al_nil)))))) al_nil))) (al_cons (ae_call C_law_draw hgu (hr.mono (by omega)) (by rfl) pass0 (al_cons (ae_v (pv 0)) (al_cons ae_int al_nil))) al_nil))) (g_tup (K := K) rfl rfl (gs_cons (g_name (pg_name (i := 2) sc_names.nd rfl (.inr rfl))) (gs_cons (g_name (pg_name (i := 3) sc_names.nd rfl (.inr rfl))) gs_nil))))
        (ss_cons (s_set (i := 4) sc_names.nd rfl (.inr rfl) ae_str)
        (ss_one (s_ret (ae_callB (ca_sorted hr) (by rfl) hB.sorted (by decide +kernel) (al_cons (ae_lc (own := [("_law_at", 5)]) (g := (gName 5)) rfl sc_names.nd (ai_r1 (by rfl) hB.range (al_cons (ae_v (pv 1)) al_nil)) (blkOk_by (N := ["_law_deck_here", "_law_many", "_law_stem", "_law_first", "_law_letters", "_law_at"]) (sc := defScope s_names) (by decide +kernel)) (fun _ _ _ _ _ => (g_name (pg_name (i := 5) sc_names.nd rfl (.inl rfl)))) (own_name (by decide)) (mono_name _) (fun _ _ _ _ _ => ts_nil) (fun _ _ _ _ _ => (ae_op oa_add (ae_v (pv 2)) (ae_ix hr (ae_v (pv 4)) (ae_op oa_mod (ae_op oa_add (ae_v (pv 3)) (ae_op oa_mul ae_int (ae_v (pv 5)))) ae_int) (fun _ _ => rfl))))) al_nil)))))), ?_⟩
  rintro _ m Q ⟨i, n, k, rfl, ⟨c0, hm, hc0⟩, hn, hk, q⟩
  simp only [startA, List.map_cons, List.map_nil, List.length_cons, List.length_nil, List.replicate, List.cons_append, List.nil_append, Nat.reduceAdd, Nat.reduceSub, Nat.zero_add, Nat.sub_self, List.getElem?_cons_zero, List.getElem?_cons_succ, Option.map_some, wRet, wRetN, wSeq, wNext, wDrop, wIfS, wAsg, wgN, wgTup, wgCons, wgNil, wPar, wOr, wAnd, Ab.wNot, wIf, wOp, wUn, wCB, wCons, wNil, wTup, wLst, wLstM, wV, wC, wB, wCh, Ab.wTru, wNotT, wAndT, wOrT, wSl, wNo, wSome, wCall, wIsI, wIsI2, wStrip, wRev, gPop, wDNew, wDNewM, wSlW, gSlW, gAddM, gTimes, itemsA, wML, wYes, gIn, gInS, gIx, gEqv, gLt, gOrd, gAdd, gMinus, gInt, gNeg, gIs, gSl, gLen, gAbs, gTwo, gI1, gApp, gExt, gTupOf, gListOf, gListM, ims, asQ, asT, asL, dat, tru, at0, at1, at2, id_eq, AV.und, keyA, Ab.isNon, wipeS, List.set_cons_zero, List.set_cons_succ, wgSub, gSt, retA, List.take_length, takeSet, takeSet2, List.foldl_cons, List.foldl_nil, List.zip_cons_cons, List.zip_nil_right, keepS_nil, keepS_cons, keepO_none, keepO_im, keepO_wl, List.length_set, List.length_append, List.set_set, true_and, any_pr, snocAt, snocTake, ims_map, ims_mapF, atD, Option.isSome_some, Option.isSome_none, if_true, if_false, Bool.false_eq_true, ite_true, ite_false]
  refine ⟨by decide, i, n, _, _, rfl, ⟨c0, hm, hc0⟩, by omega, fun _ => rfl, rfl, by decide, by decide, fun x hx c hc => ?_⟩
  have hi : i < m.length := (List.getElem?_eq_some_iff.mp hm).1
  have okx : ∃ z : Str, x = .str z ∧ okS z ∧ z.length ≤ 10 ∧ ∀ c ∈ z.cps.toList, c < 128 := by
    simp only [List.mem_cons, List.not_mem_nil, or_false] at hx
    rcases hx with h | h | h | h | h <;> exact ⟨_, h, by decide +kernel, by decide +kernel, by decide +kernel⟩
  obtain ⟨z, rfl, oz, lz, pz⟩ := okx
  simp only [startA, List.map_cons, List.map_nil, List.length_cons, List.length_nil, List.replicate, List.cons_append, List.nil_append, Nat.reduceAdd, Nat.reduceSub, Nat.zero_add, Nat.sub_self, List.getElem?_cons_zero, List.getElem?_cons_succ, Option.map_some, wRet, wRetN, wSeq, wNext, wDrop, wIfS, wAsg, wgN, wgTup, wgCons, wgNil, wPar, wOr, wAnd, Ab.wNot, wIf, wOp, wUn, wCB, wCons, wNil, wTup, wLst, wLstM, wV, wC, wB, wCh, Ab.wTru, wNotT, wAndT, wOrT, wSl, wNo, wSome, wCall, wIsI, wIsI2, wStrip, wRev, gPop, wDNew, wDNewM, wSlW, gSlW, gAddM, gTimes, itemsA, wML, wYes, gIn, gInS, gIx, gEqv, gLt, gOrd, gAdd, gMinus, gInt, gNeg, gIs, gSl, gLen, gAbs, gTwo, gI1, gApp, gExt, gTupOf, gListOf, gListM, ims, asQ, asT, asL, dat, tru, at0, at1, at2, id_eq, AV.und, keyA, Ab.isNon, wipeS, List.set_cons_zero, List.set_cons_succ, wgSub, gSt, retA, List.take_length, takeSet, takeSet2, List.foldl_cons, List.foldl_nil, List.zip_cons_cons, List.zip_nil_right, keepS_nil, keepS_cons, keepO_none, keepO_im, keepO_wl, List.length_set, List.length_append, List.set_set, true_and, any_pr, snocAt, snocTake, ims_map, ims_mapF, atD, Option.isSome_some, Option.isSome_none, if_true, if_false, Bool.false_eq_true, ite_true, ite_false]
  refine ⟨i, n + 1, 26, rfl, ⟨c, by rw [List.getElem?_set_self hi], hc⟩, by omega, by decide, by decide, fun f c2 hf hc2 => ?_⟩
  simp only [startA, List.map_cons, List.map_nil, List.length_cons, List.length_nil, List.replicate, List.cons_append, List.nil_append, Nat.reduceAdd, Nat.reduceSub, Nat.zero_add, Nat.sub_self, List.getElem?_cons_zero, List.getElem?_cons_succ, Option.map_some, wRet, wRetN, wSeq, wNext, wDrop, wIfS, wAsg, wgN, wgTup, wgCons, wgNil, wPar, wOr, wAnd, Ab.wNot, wIf, wOp, wUn, wCB, wCons, wNil, wTup, wLst, wLstM, wV, wC, wB, wCh, Ab.wTru, wNotT, wAndT, wOrT, wSl, wNo, wSome, wCall, wIsI, wIsI2, wStrip, wRev, gPop, wDNew, wDNewM, wSlW, gSlW, gAddM, gTimes, itemsA, wML, wYes, gIn, gInS, gIx, gEqv, gLt, gOrd, gAdd, gMinus, gInt, gNeg, gIs, gSl, gLen, gAbs, gTwo, gI1, gApp, gExt, gTupOf, gListOf, gListM, ims, asQ, asT, asL, dat, tru, at0, at1, at2, id_eq, AV.und, keyA, Ab.isNon, wipeS, List.set_cons_zero, List.set_cons_succ, wgSub, gSt, retA, List.take_length, takeSet, takeSet2, List.foldl_cons, List.foldl_nil, List.zip_cons_cons, List.zip_nil_right, keepS_nil, keepS_cons, keepO_none, keepO_im, keepO_wl, List.length_set, List.length_append, List.set_set, true_and, any_pr, snocAt, snocTake, ims_map, ims_mapF, atD, Option.isSome_some, Option.isSome_none, if_true, if_false, Bool.false_eq_true, ite_true, ite_false, List.set_set, wLc, wLcs, wiR1]
  have len2 : (z ++ letter f 0).length ≤ 100 := by
    have : (z ++ letter f 0).length = z.length + 1 := by
      show (z.cps ++ (letter f 0).cps).size = _
      rw [Array.size_append]; rfl
    omega
  refine ⟨by decide, rfl, ⟨by omega, by omega⟩, by rw [sizeLine_eq]; simp [rngL]; omega, ?_⟩
  unfold rngL
  refine lc_map (List.range (k : Int).toNat) _ (fun a => some (.im (.str (z ++ letter f a)))) trivial (by simp) (fun a ha Kt hk' => ?_) (fun a _ y hy => by cases hy; rfl) ?_
  · have ha26 : a < 26 := by have := List.mem_range.mp ha; omega
    have em : ((f : Int) + 5 * (0 + (a : Nat))).fmod 26 = ((f + 5 * a) % 26 : Nat) := by rw [Int.fmod_eq_emod_of_nonneg _ (by decide)]; omega
    simp only [startA, List.map_cons, List.map_nil, List.length_cons, List.length_nil, List.replicate, List.cons_append, List.nil_append, Nat.reduceAdd, Nat.reduceSub, Nat.zero_add, Nat.sub_self, List.getElem?_cons_zero, List.getElem?_cons_succ, Option.map_some, wRet, wRetN, wSeq, wNext, wDrop, wIfS, wAsg, wgN, wgTup, wgCons, wgNil, wPar, wOr, wAnd, Ab.wNot, wIf, wOp, wUn, wCB, wCons, wNil, wTup, wLst, wLstM, wV, wC, wB, wCh, Ab.wTru, wNotT, wAndT, wOrT, wSl, wNo, wSome, wCall, wIsI, wIsI2, wStrip, wRev, gPop, wDNew, wDNewM, wSlW, gSlW, gAddM, gTimes, itemsA, wML, wYes, gIn, gInS, gIx, gEqv, gLt, gOrd, gAdd, gMinus, gInt, gNeg, gIs, gSl, gLen, gAbs, gTwo, gI1, gApp, gExt, gTupOf, gListOf, gListM, ims, asQ, asT, asL, dat, tru, at0, at1, at2, id_eq, AV.und, keyA, Ab.isNon, wipeS, List.set_cons_zero, List.set_cons_succ, wgSub, gSt, retA, List.take_length, takeSet, takeSet2, List.foldl_cons, List.foldl_nil, List.zip_cons_cons, List.zip_nil_right, keepS_nil, keepS_cons, keepO_none, keepO_im, keepO_wl, List.length_set, List.length_append, List.set_set, true_and, any_pr, snocAt, snocTake, ims_map, ims_mapF, atD, Option.isSome_some, Option.isSome_none, if_true, if_false, Bool.false_eq_true, ite_true, ite_false, turnL, em]
    refine ⟨.inl ⟨by omega, by omega⟩, by decide, ?_⟩
    rw [letter_at _ (Nat.mod_lt _ (by decide))]
    simp only [startA, List.map_cons, List.map_nil, List.length_cons, List.length_nil, List.replicate, List.cons_append, List.nil_append, Nat.reduceAdd, Nat.reduceSub, Nat.zero_add, Nat.sub_self, List.getElem?_cons_zero, List.getElem?_cons_succ, Option.map_some, wRet, wRetN, wSeq, wNext, wDrop, wIfS, wAsg, wgN, wgTup, wgCons, wgNil, wPar, wOr, wAnd, Ab.wNot, wIf, wOp, wUn, wCB, wCons, wNil, wTup, wLst, wLstM, wV, wC, wB, wCh, Ab.wTru, wNotT, wAndT, wOrT, wSl, wNo, wSome, wCall, wIsI, wIsI2, wStrip, wRev, gPop, wDNew, wDNewM, wSlW, gSlW, gAddM, gTimes, itemsA, wML, wYes, gIn, gInS, gIx, gEqv, gLt, gOrd, gAdd, gMinus, gInt, gNeg, gIs, gSl, gLen, gAbs, gTwo, gI1, gApp, gExt, gTupOf, gListOf, gListM, ims, asQ, asT, asL, dat, tru, at0, at1, at2, id_eq, AV.und, keyA, Ab.isNon, wipeS, List.set_cons_zero, List.set_cons_succ, wgSub, gSt, retA, List.take_length, takeSet, takeSet2, List.foldl_cons, List.foldl_nil, List.zip_cons_cons, List.zip_nil_right, keepS_nil, keepS_cons, keepO_none, keepO_im, keepO_wl, List.length_set, List.length_append, List.set_set, true_and, any_pr, snocAt, snocTake, ims_map, ims_mapF, atD, Option.isSome_some, Option.isSome_none, if_true, if_false, Bool.false_eq_true, ite_true, ite_false]
    refine ⟨by decide, by rw [sizeLine_eq]; have : (⟨#[97 + (f + 5 * a) % 26]⟩ : Str).length = 1 := rfl; omega, hk'⟩
  · rw [List.filterMap_eq_map']
    rw [ims_mapF (fun a => PyData.str (z ++ letter f a))]
    have e : (List.range (k : Int).toNat).map (fun a => PyData.str (z ++ letter f a)) = (((List.range k).map fun a => z ++ letter f a)).map .str := by
      rw [List.map_map, Int.toNat_natCast]; rfl
    have nd : ((List.range k).map fun a => z ++ letter f a).Nodup := by
      unfold List.Nodup
      rw [List.pairwise_map]
      refine (List.nodup_range (n := k)).imp_of_mem fun {a b} h1 h2 n e => ?_
      have := List.mem_range.mp h1
      have := List.mem_range.mp h2
      exact n (letter_inj (by omega) (by omega) e)
    simp only [gSorted, asL, e, sort_strs]
    refine ⟨alike_strs _, sortable_strs _, shallow_strs _, ?_⟩
    have pm := List.mergeSort_perm ((List.range k).map fun a => z ++ letter f a) ordS
    refine ⟨by simp [AV.und], ?_⟩
    rw [List.take_of_length_le (by simp)]
    refine q _ _ (fun s hs => ?_) (asc_sort nd) (by rw [pm.length_eq]; simp) hc2
    obtain ⟨a, _, rfl⟩ := List.mem_map.mp (pm.mem_iff.mp hs)
    refine ⟨okS_app oz (letter_ok f a), fun c hc => ?_, ?_⟩
    · have e : (z ++ letter f a).cps.toList = z.cps.toList ++ (letter f a).cps.toList := Array.toList_append
      rw [e] at hc
      rcases List.mem_append.mp hc with h | h
      · exact pz c h
      · simp only [letter, List.mem_singleton] at h; omega
    · have : (z ++ letter f a).length = z.length + 1 := by
        show (z.cps ++ (letter f a).cps).size = _
        rw [Array.size_append]; rfl
      omega
end
end K37
end

section
set_option maxRecDepth 100000
set_option maxHeartbeats 4000000
namespace K37
open PySem PySem.Spec PyProof.Rows L2 Gd Ab
abbrev s_is_integer : Stmt := topS 1
theorem sc_is_integer : FnScope ["value"] ["value"] (defScope s_is_integer) := ⟨rfl, rfl, rfl, by decide +kernel, rfl, by decide +kernel, by decide +kernel⟩
abbrev s_is_ascending : Stmt := topS 2
theorem sc_is_ascending : FnScope ["values", "following", "value"] ["values"] (defScope s_is_ascending) := ⟨rfl, rfl, rfl, by decide +kernel, rfl, by decide +kernel, by decide +kernel⟩
abbrev s_is_name : Stmt := topS 5
theorem sc_is_name : FnScope ["value", "letter"] ["value"] (defScope s_is_name) := ⟨rfl, rfl, rfl, by decide +kernel, rfl, by decide +kernel, by decide +kernel⟩
section
variable {P : Program} {w : World} {K : PySem.W.Frag} {mg : Str → Option Value} {base : Heap} {t1 t2 : Tok}
def integerB : PyData → Bool
  | .int _ => true
  | _ => false
def aIsInt : ASp := aPure fun xs d => ∃ v, xs = [v] ∧ d = .bool (integerB v)
theorem ok_is_integer (hB : Bs mg t1 t2) (D : Defd K mg "is_integer" s_is_integer) : Callee P w K mg base CX0 1 "is_integer" ["value"] (lift aIsInt) := by
  refine okA D sc_is_integer (fun _ _ _ _ _ _ us hl => match us, hl with | [_], _ => rfl) (fun ds m Q EA ⟨xs, d, e, ⟨_, h, _⟩, _⟩ => by rw [e, h]; rfl) fun f cdv A outer s H E B hgu hr => ?_
  refine ⟨_, _, (ss_one (s_ret (ae_and (K := K) rfl (ae_isI call_isInt (by rfl) hB.isinstance (by decide +kernel) (ae_v (pv 0)) (pe_bltn (v := .ty "int") (by rfl) hB.int (by decide +kernel) rfl)) (ae_one (ae_not (K := K) rfl (ae_isI call_isBool (by rfl) hB.isinstance (by decide +kernel) (ae_v (pv 0)) (pe_bltn (v := .ty "bool") (by rfl) hB.bool (by decide +kernel) rfl))))))), ?_⟩
  rintro _ m Q ⟨_, _, rfl, ⟨v, rfl, rfl⟩, q⟩
  cases v <;> (simp only [startA, List.map_cons, List.map_nil, List.length_cons, List.length_nil, List.replicate, List.cons_append, List.nil_append, Nat.reduceAdd, Nat.reduceSub, Nat.zero_add, Nat.sub_self, List.getElem?_cons_zero, List.getElem?_cons_succ, Option.map_some, wRet, wRetN, wSeq, wNext, wDrop, wIfS, wAsg, wgN, wgTup, wgCons, wgNil, wPar, wOr, wAnd, Ab.wNot, wIf, wOp, wUn, wCB, wCons, wNil, wTup, wLst, wLstM, wV, wC, wB, wCh, Ab.wTru, wNotT, wAndT, wOrT, wSl, wNo, wSome, wCall, wIsI, wIsI2, wStrip, wRev, gPop, wDNew, wDNewM, wSlW, gSlW, gAddM, gTimes, itemsA, wML, wYes, gIn, gInS, gIx, gEqv, gLt, gOrd, gAdd, gMinus, gInt, gNeg, gIs, gSl, gLen, gAbs, gTwo, gI1, gApp, gExt, gTupOf, gListOf, gListM, ims, asQ, asT, asL, dat, tru, at0, at1, at2, id_eq, AV.und, keyA, Ab.isNon, wipeS, List.set_cons_zero, List.set_cons_succ, wgSub, gSt, retA, List.take_length, takeSet, takeSet2, List.foldl_cons, List.foldl_nil, List.zip_cons_cons, List.zip_nil_right, keepS_nil, keepS_cons, keepO_none, keepO_im, keepO_wl, List.length_set, List.length_append, List.set_set, true_and, any_pr, snocAt, snocTake, ims_map, ims_mapF, atD, Option.isSome_some, Option.isSome_none, if_true, if_false, Bool.false_eq_true, ite_true, ite_false, Gd.isInt, Gd.isBool, Bool.not_true, Bool.not_false]; exact q)
def isLet (c : Nat) : Bool := decide (97 ≤ c) && decide (c ≤ 122)
def wordB : PyData → Bool
  | .str x => decide (1 ≤ x.length) && (decide (x.length ≤ 8) && x.cps.toList.all isLet)
  | _ => false
theorem let_ge (c : Nat) : (!decide ([c] < [97])) = decide (97 ≤ c) := by
  have : ([c] < [97]) ↔ c < 97 := by rw [List.cons_lt_cons_iff]; simp
  rw [Bool.eq_iff_iff]
  simp only [Bool.not_eq_true', decide_eq_false_iff_not, decide_eq_true_eq, this]
  omega
theorem let_le (c : Nat) : (!decide ([122] < [c])) = decide (c ≤ 122) := by
  have : ([122] < [c]) ↔ 122 < c := by rw [List.cons_lt_cons_iff]; simp
  rw [Bool.eq_iff_iff]
  simp only [Bool.not_eq_true', decide_eq_false_iff_not, decide_eq_true_eq, this]
  omega
theorem bools_map' {α : Type} (f : α → Bool) : ∀ l : List α, bools (l.map fun a => PyData.bool (f a)) = some (l.map f)
  | [] => rfl
  | _ :: r => by rw [List.map_cons, bools, bools_map' f r]; rfl
def aIsName : ASp := aPure fun xs d => ∃ v, xs = [v] ∧ (∀ x, v = .str x → x.length ≤ 100000) ∧ d = .bool (wordB v)
theorem ok_is_name (hB : Bs mg t1 t2) (D : Defd K mg "is_name" s_is_name) : Callee P w K mg base CX0 1 "is_name" ["value"] (lift aIsName) := by
  refine okA D sc_is_name (fun _ _ _ _ _ _ us hl => match us, hl with | [_], _ => rfl) (fun ds m Q EA ⟨xs, d, e, ⟨_, h, _⟩, _⟩ => by rw [e, h]; rfl) fun f cdv A outer s H E B hgu hr => ?_
  refine ⟨_, _, (ss_cons (s_if (AW.at (aw_or (at_not (at_tru (K := K) rfl (ae_isI call_isStr (by rfl) hB.isinstance (by decide +kernel) (ae_v (pv 0)) (pe_bltn (v := .ty "str") (by rfl) hB.str (by decide +kernel) rfl)))) (aw_or1 (at_not (at_ch oa_le oa_le ae_int (ae_callB ca_len (by rfl) hB.len PySem.boot_len (al_cons (ae_v (pv 0)) al_nil)) (ae_globI (pe_glob (v := .int 8) (by rfl) hB.cMOST_LETTERS ⟨_, rfl⟩))))))) (ss_one (s_ret ae_bl)) ss_nil)
        (ss_one (s_ret (ae_callB (ca_all rfl) (by rfl) hB.all (by decide +kernel) (al_cons (ae_lc (own := [("letter", 1)]) (g := (gName 1)) rfl sc_is_name.nd (ai_any (K := K) rfl (ae_v (pv 0))) (blkOk_by (N := ["value", "letter"]) (sc := defScope s_is_name) (by decide +kernel)) (fun _ _ _ _ _ => (g_name (pg_name (i := 1) sc_is_name.nd rfl (.inl rfl)))) (own_name (by decide)) (mono_name _) (fun _ _ _ _ _ => ts_nil) (fun _ _ _ _ _ => (ae_ch oa_le oa_le ae_str (ae_v (pv 1)) ae_str))) al_nil))))), ?_⟩
  rintro _ m Q ⟨_, _, rfl, ⟨v, rfl, hx, rfl⟩, q⟩
  refine wSeq_of fun N1 n1 => ?_
  cases v with
  | str x =>
    have hx := hx x rfl
    have h1 : decide ((1 : Int) ≤ (x.length : Int)) = decide (1 ≤ x.length) := by rw [decide_eq_decide]; omega
    have h2 : decide ((x.length : Int) ≤ 8) = decide (x.length ≤ 8) := by rw [decide_eq_decide]; omega
    unfold wordB at q
    simp only [startA, List.map_cons, List.map_nil, List.length_cons, List.length_nil, List.replicate, List.cons_append, List.nil_append, Nat.reduceAdd, Nat.reduceSub, Nat.zero_add, Nat.sub_self, List.getElem?_cons_zero, List.getElem?_cons_succ, Option.map_some, wRet, wRetN, wSeq, wNext, wDrop, wIfS, wAsg, wgN, wgTup, wgCons, wgNil, wPar, wOr, wAnd, Ab.wNot, wIf, wOp, wUn, wCB, wCons, wNil, wTup, wLst, wLstM, wV, wC, wB, wCh, Ab.wTru, wNotT, wAndT, wOrT, wSl, wNo, wSome, wCall, wIsI, wIsI2, wStrip, wRev, gPop, wDNew, wDNewM, wSlW, gSlW, gAddM, gTimes, itemsA, wML, wYes, gIn, gInS, gIx, gEqv, gLt, gOrd, gAdd, gMinus, gInt, gNeg, gIs, gSl, gLen, gAbs, gTwo, gI1, gApp, gExt, gTupOf, gListOf, gListM, ims, asQ, asT, asL, dat, tru, at0, at1, at2, id_eq, AV.und, keyA, Ab.isNon, wipeS, List.set_cons_zero, List.set_cons_succ, wgSub, gSt, retA, List.take_length, takeSet, takeSet2, List.foldl_cons, List.foldl_nil, List.zip_cons_cons, List.zip_nil_right, keepS_nil, keepS_cons, keepO_none, keepO_im, keepO_wl, List.length_set, List.length_append, List.set_set, true_and, any_pr, snocAt, snocTake, ims_map, ims_mapF, atD, Option.isSome_some, Option.isSome_none, if_true, if_false, Bool.false_eq_true, ite_true, ite_false, isStr, Bool.not_true, h1, h2]
    refine ⟨by rw [sizeLine_eq]; omega, ?_⟩
    cases c1 : decide (1 ≤ x.length) with
    | false => simp only [startA, List.map_cons, List.map_nil, List.length_cons, List.length_nil, List.replicate, List.cons_append, List.nil_append, Nat.reduceAdd, Nat.reduceSub, Nat.zero_add, Nat.sub_self, List.getElem?_cons_zero, List.getElem?_cons_succ, Option.map_some, wRet, wRetN, wSeq, wNext, wDrop, wIfS, wAsg, wgN, wgTup, wgCons, wgNil, wPar, wOr, wAnd, Ab.wNot, wIf, wOp, wUn, wCB, wCons, wNil, wTup, wLst, wLstM, wV, wC, wB, wCh, Ab.wTru, wNotT, wAndT, wOrT, wSl, wNo, wSome, wCall, wIsI, wIsI2, wStrip, wRev, gPop, wDNew, wDNewM, wSlW, gSlW, gAddM, gTimes, itemsA, wML, wYes, gIn, gInS, gIx, gEqv, gLt, gOrd, gAdd, gMinus, gInt, gNeg, gIs, gSl, gLen, gAbs, gTwo, gI1, gApp, gExt, gTupOf, gListOf, gListM, ims, asQ, asT, asL, dat, tru, at0, at1, at2, id_eq, AV.und, keyA, Ab.isNon, wipeS, List.set_cons_zero, List.set_cons_succ, wgSub, gSt, retA, List.take_length, takeSet, takeSet2, List.foldl_cons, List.foldl_nil, List.zip_cons_cons, List.zip_nil_right, keepS_nil, keepS_cons, keepO_none, keepO_im, keepO_wl, List.length_set, List.length_append, List.set_set, true_and, any_pr, snocAt, snocTake, ims_map, ims_mapF, atD, Option.isSome_some, Option.isSome_none, if_true, if_false, Bool.false_eq_true, ite_true, ite_false, Bool.not_false, c1, Bool.false_and] at q ⊢; exact q
    | true =>
      cases c2 : decide (x.length ≤ 8) with
      | false => simp only [startA, List.map_cons, List.map_nil, List.length_cons, List.length_nil, List.replicate, List.cons_append, List.nil_append, Nat.reduceAdd, Nat.reduceSub, Nat.zero_add, Nat.sub_self, List.getElem?_cons_zero, List.getElem?_cons_succ, Option.map_some, wRet, wRetN, wSeq, wNext, wDrop, wIfS, wAsg, wgN, wgTup, wgCons, wgNil, wPar, wOr, wAnd, Ab.wNot, wIf, wOp, wUn, wCB, wCons, wNil, wTup, wLst, wLstM, wV, wC, wB, wCh, Ab.wTru, wNotT, wAndT, wOrT, wSl, wNo, wSome, wCall, wIsI, wIsI2, wStrip, wRev, gPop, wDNew, wDNewM, wSlW, gSlW, gAddM, gTimes, itemsA, wML, wYes, gIn, gInS, gIx, gEqv, gLt, gOrd, gAdd, gMinus, gInt, gNeg, gIs, gSl, gLen, gAbs, gTwo, gI1, gApp, gExt, gTupOf, gListOf, gListM, ims, asQ, asT, asL, dat, tru, at0, at1, at2, id_eq, AV.und, keyA, Ab.isNon, wipeS, List.set_cons_zero, List.set_cons_succ, wgSub, gSt, retA, List.take_length, takeSet, takeSet2, List.foldl_cons, List.foldl_nil, List.zip_cons_cons, List.zip_nil_right, keepS_nil, keepS_cons, keepO_none, keepO_im, keepO_wl, List.length_set, List.length_append, List.set_set, true_and, any_pr, snocAt, snocTake, ims_map, ims_mapF, atD, Option.isSome_some, Option.isSome_none, if_true, if_false, Bool.false_eq_true, ite_true, ite_false, Bool.not_false, c1, c2, Bool.false_and, Bool.and_false] at q ⊢; exact q
      | true =>
        simp only [startA, List.map_cons, List.map_nil, List.length_cons, List.length_nil, List.replicate, List.cons_append, List.nil_append, Nat.reduceAdd, Nat.reduceSub, Nat.zero_add, Nat.sub_self, List.getElem?_cons_zero, List.getElem?_cons_succ, Option.map_some, wRet, wRetN, wSeq, wNext, wDrop, wIfS, wAsg, wgN, wgTup, wgCons, wgNil, wPar, wOr, wAnd, Ab.wNot, wIf, wOp, wUn, wCB, wCons, wNil, wTup, wLst, wLstM, wV, wC, wB, wCh, Ab.wTru, wNotT, wAndT, wOrT, wSl, wNo, wSome, wCall, wIsI, wIsI2, wStrip, wRev, gPop, wDNew, wDNewM, wSlW, gSlW, gAddM, gTimes, itemsA, wML, wYes, gIn, gInS, gIx, gEqv, gLt, gOrd, gAdd, gMinus, gInt, gNeg, gIs, gSl, gLen, gAbs, gTwo, gI1, gApp, gExt, gTupOf, gListOf, gListM, ims, asQ, asT, asL, dat, tru, at0, at1, at2, id_eq, AV.und, keyA, Ab.isNon, wipeS, List.set_cons_zero, List.set_cons_succ, wgSub, gSt, retA, List.take_length, takeSet, takeSet2, List.foldl_cons, List.foldl_nil, List.zip_cons_cons, List.zip_nil_right, keepS_nil, keepS_cons, keepO_none, keepO_im, keepO_wl, List.length_set, List.length_append, List.set_set, true_and, any_pr, snocAt, snocTake, ims_map, ims_mapF, atD, Option.isSome_some, Option.isSome_none, if_true, if_false, Bool.false_eq_true, ite_true, ite_false, Bool.not_true, c1, c2, Bool.true_and] at q ⊢
        refine n1 _ _ ?_
        simp only [startA, List.map_cons, List.map_nil, List.length_cons, List.length_nil, List.replicate, List.cons_append, List.nil_append, Nat.reduceAdd, Nat.reduceSub, Nat.zero_add, Nat.sub_self, List.getElem?_cons_zero, List.getElem?_cons_succ, Option.map_some, wRet, wRetN, wSeq, wNext, wDrop, wIfS, wAsg, wgN, wgTup, wgCons, wgNil, wPar, wOr, wAnd, Ab.wNot, wIf, wOp, wUn, wCB, wCons, wNil, wTup, wLst, wLstM, wV, wC, wB, wCh, Ab.wTru, wNotT, wAndT, wOrT, wSl, wNo, wSome, wCall, wIsI, wIsI2, wStrip, wRev, gPop, wDNew, wDNewM, wSlW, gSlW, gAddM, gTimes, itemsA, wML, wYes, gIn, gInS, gIx, gEqv, gLt, gOrd, gAdd, gMinus, gInt, gNeg, gIs, gSl, gLen, gAbs, gTwo, gI1, gApp, gExt, gTupOf, gListOf, gListM, ims, asQ, asT, asL, dat, tru, at0, at1, at2, id_eq, AV.und, keyA, Ab.isNon, wipeS, List.set_cons_zero, List.set_cons_succ, wgSub, gSt, retA, List.take_length, takeSet, takeSet2, List.foldl_cons, List.foldl_nil, List.zip_cons_cons, List.zip_nil_right, keepS_nil, keepS_cons, keepO_none, keepO_im, keepO_wl, List.length_set, List.length_append, List.set_set, true_and, any_pr, snocAt, snocTake, ims_map, ims_mapF, atD, Option.isSome_some, Option.isSome_none, if_true, if_false, Bool.false_eq_true, ite_true, ite_false, wLc, wLcs, wiAny]
        refine ⟨by rw [sizeLine_eq, List.length_map, Array.length_toList]; exact Nat.le_trans hx (by decide), lc_map x.cps.toList _ (fun c => some (.im (.bool (isLet c)))) trivial (by simp) (fun c hc Kt hk => ?_) (fun b _ z hz => by cases hz; rfl) ?_⟩
        · simp only [startA, List.map_cons, List.map_nil, List.length_cons, List.length_nil, List.replicate, List.cons_append, List.nil_append, Nat.reduceAdd, Nat.reduceSub, Nat.zero_add, Nat.sub_self, List.getElem?_cons_zero, List.getElem?_cons_succ, Option.map_some, wRet, wRetN, wSeq, wNext, wDrop, wIfS, wAsg, wgN, wgTup, wgCons, wgNil, wPar, wOr, wAnd, Ab.wNot, wIf, wOp, wUn, wCB, wCons, wNil, wTup, wLst, wLstM, wV, wC, wB, wCh, Ab.wTru, wNotT, wAndT, wOrT, wSl, wNo, wSome, wCall, wIsI, wIsI2, wStrip, wRev, gPop, wDNew, wDNewM, wSlW, gSlW, gAddM, gTimes, itemsA, wML, wYes, gIn, gInS, gIx, gEqv, gLt, gOrd, gAdd, gMinus, gInt, gNeg, gIs, gSl, gLen, gAbs, gTwo, gI1, gApp, gExt, gTupOf, gListOf, gListM, ims, asQ, asT, asL, dat, tru, at0, at1, at2, id_eq, AV.und, keyA, Ab.isNon, wipeS, List.set_cons_zero, List.set_cons_succ, wgSub, gSt, retA, List.take_length, takeSet, takeSet2, List.foldl_cons, List.foldl_nil, List.zip_cons_cons, List.zip_nil_right, keepS_nil, keepS_cons, keepO_none, keepO_im, keepO_wl, List.length_set, List.length_append, List.set_set, true_and, any_pr, snocAt, snocTake, ims_map, ims_mapF, atD, Option.isSome_some, Option.isSome_none, if_true, if_false, Bool.false_eq_true, ite_true, ite_false, turnL]
          have ea : (Str.ofString "a").cps.toList = [97] := rfl
          have ez : (Str.ofString "z").cps.toList = [122] := rfl
          rw [ea, ez, let_ge, let_le]
          unfold isLet at hk
          cases c3 : decide (97 ≤ c) with
          | false => rw [c3, Bool.false_and] at hk; simpa using hk
          | true => rw [c3, Bool.true_and] at hk; simpa using hk
        · rw [List.filterMap_eq_map', ims_mapF]
          simp only [startA, List.map_cons, List.map_nil, List.length_cons, List.length_nil, List.replicate, List.cons_append, List.nil_append, Nat.reduceAdd, Nat.reduceSub, Nat.zero_add, Nat.sub_self, List.getElem?_cons_zero, List.getElem?_cons_succ, Option.map_some, wRet, wRetN, wSeq, wNext, wDrop, wIfS, wAsg, wgN, wgTup, wgCons, wgNil, wPar, wOr, wAnd, Ab.wNot, wIf, wOp, wUn, wCB, wCons, wNil, wTup, wLst, wLstM, wV, wC, wB, wCh, Ab.wTru, wNotT, wAndT, wOrT, wSl, wNo, wSome, wCall, wIsI, wIsI2, wStrip, wRev, gPop, wDNew, wDNewM, wSlW, gSlW, gAddM, gTimes, itemsA, wML, wYes, gIn, gInS, gIx, gEqv, gLt, gOrd, gAdd, gMinus, gInt, gNeg, gIs, gSl, gLen, gAbs, gTwo, gI1, gApp, gExt, gTupOf, gListOf, gListM, ims, asQ, asT, asL, dat, tru, at0, at1, at2, id_eq, AV.und, keyA, Ab.isNon, wipeS, List.set_cons_zero, List.set_cons_succ, wgSub, gSt, retA, List.take_length, takeSet, takeSet2, List.foldl_cons, List.foldl_nil, List.zip_cons_cons, List.zip_nil_right, keepS_nil, keepS_cons, keepO_none, keepO_im, keepO_wl, List.length_set, List.length_append, List.set_set, true_and, any_pr, snocAt, snocTake, ims_map, ims_mapF, atD, Option.isSome_some, Option.isSome_none, if_true, if_false, Bool.false_eq_true, ite_true, ite_false, gAll, bools_map']
          have e : (x.cps.toList.map isLet).all id = x.cps.toList.all isLet := by rw [List.all_map]; rfl
          rw [e]
          exact q
  | _ => simp only [startA, List.map_cons, List.map_nil, List.length_cons, List.length_nil, List.replicate, List.cons_append, List.nil_append, Nat.reduceAdd, Nat.reduceSub, Nat.zero_add, Nat.sub_self, List.getElem?_cons_zero, List.getElem?_cons_succ, Option.map_some, wRet, wRetN, wSeq, wNext, wDrop, wIfS, wAsg, wgN, wgTup, wgCons, wgNil, wPar, wOr, wAnd, Ab.wNot, wIf, wOp, wUn, wCB, wCons, wNil, wTup, wLst, wLstM, wV, wC, wB, wCh, Ab.wTru, wNotT, wAndT, wOrT, wSl, wNo, wSome, wCall, wIsI, wIsI2, wStrip, wRev, gPop, wDNew, wDNewM, wSlW, gSlW, gAddM, gTimes, itemsA, wML, wYes, gIn, gInS, gIx, gEqv, gLt, gOrd, gAdd, gMinus, gInt, gNeg, gIs, gSl, gLen, gAbs, gTwo, gI1, gApp, gExt, gTupOf, gListOf, gListM, ims, asQ, asT, asL, dat, tru, at0, at1, at2, id_eq, AV.und, keyA, Ab.isNon, wipeS, List.set_cons_zero, List.set_cons_succ, wgSub, gSt, retA, List.take_length, takeSet, takeSet2, List.foldl_cons, List.foldl_nil, List.zip_cons_cons, List.zip_nil_right, keepS_nil, keepS_cons, keepO_none, keepO_im, keepO_wl, List.length_set, List.length_append, List.set_set, true_and, any_pr, snocAt, snocTake, ims_map, ims_mapF, atD, Option.isSome_some, Option.isSome_none, if_true, if_false, Bool.false_eq_true, ite_true, ite_false, isStr, Bool.not_false]; exact q
def ascB : List Str → Bool
  | x :: y :: r => decide (x.cps.toList < y.cps.toList) && ascB (y :: r)
  | _ => true
theorem ascB_iff : ∀ ss : List Str, ascB ss = true ↔ Asc ss
  | [] => by simp [ascB]
  | [x] => by simp [ascB]
  | x :: y :: r => by
    have ih := ascB_iff (y :: r)
    rw [ascB, Bool.and_eq_true, decide_eq_true_eq, ih]
    constructor
    · rintro ⟨h1, h2⟩
      refine List.pairwise_cons.mpr ⟨fun z hz => ?_, h2⟩
      rcases List.mem_cons.mp hz with e | e
      · rw [e]; exact h1
      · exact sLt.tr h1 ((List.pairwise_cons.mp h2).1 z e)
    · intro h
      have := List.pairwise_cons.mp h
      exact ⟨this.1 y List.mem_cons_self, this.2⟩
theorem zip_asc : ∀ ss : List Str, (ss.zip ss.tail).all (fun p => decide (p.1.cps.toList < p.2.cps.toList)) = ascB ss
  | [] => rfl
  | [x] => rfl
  | x :: y :: r => by
    show (decide _ && ((y :: r).zip r).all _) = _
    rw [ascB]
    congr 1
    exact zip_asc (y :: r)
/-- texts in a list -/
def aAsc : ASp := fun ds m P _ => ∃ ss : List Str, ds = [.wl (ss.map .str)] ∧ ss.length ≤ 100000 ∧ P (.im (.bool (ascB ss))) m
theorem ok_is_ascending (hB : Bs mg t1 t2) (D : Defd K mg "is_ascending" s_is_ascending) : Callee P w K mg base CX0 1 "is_ascending" ["values"] (lift aAsc) := by
  refine okA D sc_is_ascending (fun _ _ _ _ _ _ us hl => match us, hl with | [_], _ => rfl) (fun ds m Q EA ⟨_, e, _⟩ => by rw [e]; rfl) fun f cdv A outer s H E B hgu hr => ?_
  refine ⟨_, _, (ss_one (s_ret (ae_callB (ca_all rfl) (by rfl) hB.all (by decide +kernel) (al_cons (ae_lc (own := [("value", 2), ("following", 1)]) (g := (gTup K 2 (gCons (gName 2) (gCons (gName 1) gNil)))) rfl sc_is_ascending.nd (ai_zip (K := K) rfl (by rfl) hB.zip (al_cons (ae_v (pv 0)) (al_cons (ae_slice (ae_v (pv 0)) (ao_some ae_int) ao_none) al_nil))) (blkOk_by (N := ["values", "following", "value"]) (sc := defScope s_is_ascending) (by decide +kernel)) (fun _ _ _ _ _ => (by exact (g_tup (K := K) rfl rfl (gs_cons (g_name (pg_name (i := 2) sc_is_ascending.nd rfl (.inl rfl))) (gs_cons (g_name (pg_name (i := 1) sc_is_ascending.nd rfl (.inl rfl))) gs_nil))))) (own_tup (owns_cons (mono_name _) (mono_cons (mono_name _) mono_nil) (own_name (by decide)) (owns_cons (mono_name _) mono_nil (own_name (by decide)) owns_nil))) (mono_tup (mono_cons (mono_name _) (mono_cons (mono_name _) mono_nil))) (fun _ _ _ _ _ => ts_nil) (fun _ _ _ _ _ => (ae_cmp (oa_lt hr) (ae_v (pv 2)) (ae_v (pv 1)) (nomark _)))) al_nil)))), ?_⟩
  rintro _ m Q ⟨ss, rfl, hl, q⟩
  have ec : cutD (ss.map PyData.str) (some 1) none = ss.tail.map .str := by
    unfold Ab.cutD
    cases ss with
    | nil => rfl
    | cons x r =>
      have h1 : HT.sIx ((x :: r).map PyData.str).length 0 (some 1) = 1 := by simp [HT.sIx]
      have h2 : HT.sIx ((x :: r).map PyData.str).length ((x :: r).map PyData.str).length none = r.length + 1 := by simp [HT.sIx]
      rw [h1, h2]
      show ((r.map PyData.str).take (r.length + 1 - 1)) = r.map .str
      exact List.take_of_length_le (by rw [List.length_map]; omega)
  simp only [startA, List.map_cons, List.map_nil, List.length_cons, List.length_nil, List.replicate, List.cons_append, List.nil_append, Nat.reduceAdd, Nat.reduceSub, Nat.zero_add, Nat.sub_self, List.getElem?_cons_zero, List.getElem?_cons_succ, Option.map_some, wRet, wRetN, wSeq, wNext, wDrop, wIfS, wAsg, wgN, wgTup, wgCons, wgNil, wPar, wOr, wAnd, Ab.wNot, wIf, wOp, wUn, wCB, wCons, wNil, wTup, wLst, wLstM, wV, wC, wB, wCh, Ab.wTru, wNotT, wAndT, wOrT, wSl, wNo, wSome, wCall, wIsI, wIsI2, wStrip, wRev, gPop, wDNew, wDNewM, wSlW, gSlW, gAddM, gTimes, itemsA, wML, wYes, gIn, gInS, gIx, gEqv, gLt, gOrd, gAdd, gMinus, gInt, gNeg, gIs, gSl, gLen, gAbs, gTwo, gI1, gApp, gExt, gTupOf, gListOf, gListM, ims, asQ, asT, asL, dat, tru, at0, at1, at2, id_eq, AV.und, keyA, Ab.isNon, wipeS, List.set_cons_zero, List.set_cons_succ, wgSub, gSt, retA, List.take_length, takeSet, takeSet2, List.foldl_cons, List.foldl_nil, List.zip_cons_cons, List.zip_nil_right, keepS_nil, keepS_cons, keepO_none, keepO_im, keepO_wl, List.length_set, List.length_append, List.set_set, true_and, any_pr, snocAt, snocTake, ims_map, ims_mapF, atD, Option.isSome_some, Option.isSome_none, if_true, if_false, Bool.false_eq_true, ite_true, ite_false, wLc, wLcs, wiZip, ec, zipD]
  have hz : (ss.map PyData.str).zip (ss.tail.map PyData.str) = (ss.zip ss.tail).map fun p => (PyData.str p.1, PyData.str p.2) := by rw [List.zip_map]; rfl
  have hzl : (ss.zip ss.tail).length ≤ ss.length := by rw [List.length_zip]; omega
  rw [hz, List.map_map]
  refine ⟨by rw [sizeLine_eq, List.length_map]; omega, lc_map (ss.zip ss.tail) _ (fun p => some (.im (.bool (decide (p.1.cps.toList < p.2.cps.toList))))) trivial (by simp) (fun p hp Kt hk => ?_) (fun b _ z hz => by cases hz; rfl) ?_⟩
  · simp only [startA, List.map_cons, List.map_nil, List.length_cons, List.length_nil, List.replicate, List.cons_append, List.nil_append, Nat.reduceAdd, Nat.reduceSub, Nat.zero_add, Nat.sub_self, List.getElem?_cons_zero, List.getElem?_cons_succ, Option.map_some, wRet, wRetN, wSeq, wNext, wDrop, wIfS, wAsg, wgN, wgTup, wgCons, wgNil, wPar, wOr, wAnd, Ab.wNot, wIf, wOp, wUn, wCB, wCons, wNil, wTup, wLst, wLstM, wV, wC, wB, wCh, Ab.wTru, wNotT, wAndT, wOrT, wSl, wNo, wSome, wCall, wIsI, wIsI2, wStrip, wRev, gPop, wDNew, wDNewM, wSlW, gSlW, gAddM, gTimes, itemsA, wML, wYes, gIn, gInS, gIx, gEqv, gLt, gOrd, gAdd, gMinus, gInt, gNeg, gIs, gSl, gLen, gAbs, gTwo, gI1, gApp, gExt, gTupOf, gListOf, gListM, ims, asQ, asT, asL, dat, tru, at0, at1, at2, id_eq, AV.und, keyA, Ab.isNon, wipeS, List.set_cons_zero, List.set_cons_succ, wgSub, gSt, retA, List.take_length, takeSet, takeSet2, List.foldl_cons, List.foldl_nil, List.zip_cons_cons, List.zip_nil_right, keepS_nil, keepS_cons, keepO_none, keepO_im, keepO_wl, List.length_set, List.length_append, List.set_set, true_and, any_pr, snocAt, snocTake, ims_map, ims_mapF, atD, Option.isSome_some, Option.isSome_none, if_true, if_false, Bool.false_eq_true, ite_true, ite_false, turnL, Function.comp, gLt]
    exact hk
  · rw [List.filterMap_eq_map', ims_mapF]
    simp only [startA, List.map_cons, List.map_nil, List.length_cons, List.length_nil, List.replicate, List.cons_append, List.nil_append, Nat.reduceAdd, Nat.reduceSub, Nat.zero_add, Nat.sub_self, List.getElem?_cons_zero, List.getElem?_cons_succ, Option.map_some, wRet, wRetN, wSeq, wNext, wDrop, wIfS, wAsg, wgN, wgTup, wgCons, wgNil, wPar, wOr, wAnd, Ab.wNot, wIf, wOp, wUn, wCB, wCons, wNil, wTup, wLst, wLstM, wV, wC, wB, wCh, Ab.wTru, wNotT, wAndT, wOrT, wSl, wNo, wSome, wCall, wIsI, wIsI2, wStrip, wRev, gPop, wDNew, wDNewM, wSlW, gSlW, gAddM, gTimes, itemsA, wML, wYes, gIn, gInS, gIx, gEqv, gLt, gOrd, gAdd, gMinus, gInt, gNeg, gIs, gSl, gLen, gAbs, gTwo, gI1, gApp, gExt, gTupOf, gListOf, gListM, ims, asQ, asT, asL, dat, tru, at0, at1, at2, id_eq, AV.und, keyA, Ab.isNon, wipeS, List.set_cons_zero, List.set_cons_succ, wgSub, gSt, retA, List.take_length, takeSet, takeSet2, List.foldl_cons, List.foldl_nil, List.zip_cons_cons, List.zip_nil_right, keepS_nil, keepS_cons, keepO_none, keepO_im, keepO_wl, List.length_set, List.length_append, List.set_set, true_and, any_pr, snocAt, snocTake, ims_map, ims_mapF, atD, Option.isSome_some, Option.isSome_none, if_true, if_false, Bool.false_eq_true, ite_true, ite_false, gAll, bools_map']
    have e : ((ss.zip ss.tail).map fun p => decide (p.1.cps.toList < p.2.cps.toList)).all id = ascB ss := by rw [← zip_asc ss, List.all_map]; rfl
    rw [e]
    simpa [startA, List.map_cons, List.map_nil, List.length_cons, List.length_nil, List.replicate, List.cons_append, List.nil_append, Nat.reduceAdd, Nat.reduceSub, Nat.zero_add, Nat.sub_self, List.getElem?_cons_zero, List.getElem?_cons_succ, Option.map_some, wRet, wRetN, wSeq, wNext, wDrop, wIfS, wAsg, wgN, wgTup, wgCons, wgNil, wPar, wOr, wAnd, Ab.wNot, wIf, wOp, wUn, wCB, wCons, wNil, wTup, wLst, wLstM, wV, wC, wB, wCh, Ab.wTru, wNotT, wAndT, wOrT, wSl, wNo, wSome, wCall, wIsI, wIsI2, wStrip, wRev, gPop, wDNew, wDNewM, wSlW, gSlW, gAddM, gTimes, itemsA, wML, wYes, gIn, gInS, gIx, gEqv, gLt, gOrd, gAdd, gMinus, gInt, gNeg, gIs, gSl, gLen, gAbs, gTwo, gI1, gApp, gExt, gTupOf, gListOf, gListM, ims, asQ, asT, asL, dat, tru, at0, at1, at2, id_eq, AV.und, keyA, Ab.isNon, wipeS, List.set_cons_zero, List.set_cons_succ, wgSub, gSt, retA, List.take_length, takeSet, takeSet2, List.foldl_cons, List.foldl_nil, List.zip_cons_cons, List.zip_nil_right, keepS_nil, keepS_cons, keepO_none, keepO_im, keepO_wl, List.length_set, List.length_append, List.set_set, true_and, any_pr, snocAt, snocTake, ims_map, ims_mapF, atD, Option.isSome_some, Option.isSome_none, if_true, if_false, Bool.false_eq_true, ite_true, ite_false] using q
end
end K37
end

section
set_option maxRecDepth 100000
set_option maxHeartbeats 4000000
namespace K37
open PySem PySem.Spec PyProof.Rows L2 Gd Ab
abbrev s_is_price : Stmt := topS 10
theorem sc_is_price : FnScope ["value"] ["value"] (defScope s_is_price) := ⟨rfl, rfl, rfl, by decide +kernel, rfl, by decide +kernel, by decide +kernel⟩
abbrev s_is_name_with_price : Stmt := topS 9
theorem sc_is_name_with_price : FnScope ["value"] ["value"] (defScope s_is_name_with_price) := ⟨rfl, rfl, rfl, by decide +kernel, rfl, by decide +kernel, by decide +kernel⟩
abbrev s_are_prices : Stmt := topS 8
theorem sc_are_prices : FnScope ["value", "pair"] ["value"] (defScope s_are_prices) := ⟨rfl, rfl, rfl, by decide +kernel, rfl, by decide +kernel, by decide +kernel⟩
section
variable {P : Program} {w : World} {K : PySem.W.Frag} {mg : Str → Option Value} {base : Heap} {t1 t2 : Tok}
def priceB : PyData → Bool
  | .int i => decide (1 ≤ i) && decide (i ≤ 1000000)
  | _ => false
def aIsPrice : ASp := aPure fun xs d => ∃ v, xs = [v] ∧ d = .bool (priceB v)
theorem ok_is_price (hB : Bs mg t1 t2) (D : Defd K mg "is_price" s_is_price) (Cis_integer : Callee P w K mg base CX0 1 "is_integer" ["value"] (lift aIsInt)) : Callee P w K mg base CX0 2 "is_price" ["value"] (lift aIsPrice) := by
  refine okA D sc_is_price (fun _ _ _ _ _ _ us hl => match us, hl with | [_], _ => rfl) (fun ds m Q EA ⟨xs, d, e, ⟨_, h, _⟩, _⟩ => by rw [e, h]; rfl) fun f cdv A outer s H E B hgu hr => ?_
  refine ⟨_, _, (ss_one (s_ret (ae_and (K := K) rfl (ae_call Cis_integer hgu (hr.mono (by omega)) (by rfl) pass0 (al_cons (ae_v (pv 0)) al_nil)) (ae_one (ae_ch oa_le oa_le ae_int (ae_v (pv 0)) (ae_globI (pe_glob (v := .int 1000000) (by rfl) hB.cHIGHEST_PRICE ⟨_, rfl⟩))))))), ?_⟩
  rintro _ m Q ⟨_, _, rfl, ⟨v, rfl, rfl⟩, q⟩
  simp only [startA, List.map_cons, List.map_nil, List.length_cons, List.length_nil, List.replicate, List.cons_append, List.nil_append, Nat.reduceAdd, Nat.reduceSub, Nat.zero_add, Nat.sub_self, List.getElem?_cons_zero, List.getElem?_cons_succ, Option.map_some, wRet, wRetN, wSeq, wNext, wDrop, wIfS, wAsg, wgN, wgTup, wgCons, wgNil, wPar, wOr, wAnd, Ab.wNot, wIf, wOp, wUn, wCB, wCons, wNil, wTup, wLst, wLstM, wV, wC, wB, wCh, Ab.wTru, wNotT, wAndT, wOrT, wSl, wNo, wSome, wCall, wIsI, wIsI2, wStrip, wRev, gPop, wDNew, wDNewM, wSlW, gSlW, gAddM, gTimes, itemsA, wML, wYes, gIn, gInS, gIx, gEqv, gLt, gOrd, gAdd, gMinus, gInt, gNeg, gIs, gSl, gLen, gAbs, gTwo, gI1, gApp, gExt, gTupOf, gListOf, gListM, ims, asQ, asT, asL, dat, tru, at0, at1, at2, id_eq, AV.und, keyA, Ab.isNon, wipeS, List.set_cons_zero, List.set_cons_succ, wgSub, gSt, retA, List.take_length, takeSet, takeSet2, List.foldl_cons, List.foldl_nil, List.zip_cons_cons, List.zip_nil_right, keepS_nil, keepS_cons, keepO_none, keepO_im, keepO_wl, List.length_set, List.length_append, List.set_set, true_and, any_pr, snocAt, snocTake, ims_map, ims_mapF, atD, Option.isSome_some, Option.isSome_none, if_true, if_false, Bool.false_eq_true, ite_true, ite_false]
  refine ⟨[v], _, rfl, ⟨v, rfl, rfl⟩, ?_⟩
  cases v with
  | int i =>
    have q : Q (.im (.bool (decide (1 ≤ i) && decide (i ≤ 1000000)))) m := q
    simp only [startA, List.map_cons, List.map_nil, List.length_cons, List.length_nil, List.replicate, List.cons_append, List.nil_append, Nat.reduceAdd, Nat.reduceSub, Nat.zero_add, Nat.sub_self, List.getElem?_cons_zero, List.getElem?_cons_succ, Option.map_some, wRet, wRetN, wSeq, wNext, wDrop, wIfS, wAsg, wgN, wgTup, wgCons, wgNil, wPar, wOr, wAnd, Ab.wNot, wIf, wOp, wUn, wCB, wCons, wNil, wTup, wLst, wLstM, wV, wC, wB, wCh, Ab.wTru, wNotT, wAndT, wOrT, wSl, wNo, wSome, wCall, wIsI, wIsI2, wStrip, wRev, gPop, wDNew, wDNewM, wSlW, gSlW, gAddM, gTimes, itemsA, wML, wYes, gIn, gInS, gIx, gEqv, gLt, gOrd, gAdd, gMinus, gInt, gNeg, gIs, gSl, gLen, gAbs, gTwo, gI1, gApp, gExt, gTupOf, gListOf, gListM, ims, asQ, asT, asL, dat, tru, at0, at1, at2, id_eq, AV.und, keyA, Ab.isNon, wipeS, List.set_cons_zero, List.set_cons_succ, wgSub, gSt, retA, List.take_length, takeSet, takeSet2, List.foldl_cons, List.foldl_nil, List.zip_cons_cons, List.zip_nil_right, keepS_nil, keepS_cons, keepO_none, keepO_im, keepO_wl, List.length_set, List.length_append, List.set_set, true_and, any_pr, snocAt, snocTake, ims_map, ims_mapF, atD, Option.isSome_some, Option.isSome_none, if_true, if_false, Bool.false_eq_true, ite_true, ite_false, integerB]
    cases c : decide (1 ≤ i) with
    | false => rw [c, Bool.false_and] at q; simpa [startA, List.map_cons, List.map_nil, List.length_cons, List.length_nil, List.replicate, List.cons_append, List.nil_append, Nat.reduceAdd, Nat.reduceSub, Nat.zero_add, Nat.sub_self, List.getElem?_cons_zero, List.getElem?_cons_succ, Option.map_some, wRet, wRetN, wSeq, wNext, wDrop, wIfS, wAsg, wgN, wgTup, wgCons, wgNil, wPar, wOr, wAnd, Ab.wNot, wIf, wOp, wUn, wCB, wCons, wNil, wTup, wLst, wLstM, wV, wC, wB, wCh, Ab.wTru, wNotT, wAndT, wOrT, wSl, wNo, wSome, wCall, wIsI, wIsI2, wStrip, wRev, gPop, wDNew, wDNewM, wSlW, gSlW, gAddM, gTimes, itemsA, wML, wYes, gIn, gInS, gIx, gEqv, gLt, gOrd, gAdd, gMinus, gInt, gNeg, gIs, gSl, gLen, gAbs, gTwo, gI1, gApp, gExt, gTupOf, gListOf, gListM, ims, asQ, asT, asL, dat, tru, at0, at1, at2, id_eq, AV.und, keyA, Ab.isNon, wipeS, List.set_cons_zero, List.set_cons_succ, wgSub, gSt, retA, List.take_length, takeSet, takeSet2, List.foldl_cons, List.foldl_nil, List.zip_cons_cons, List.zip_nil_right, keepS_nil, keepS_cons, keepO_none, keepO_im, keepO_wl, List.length_set, List.length_append, List.set_set, true_and, any_pr, snocAt, snocTake, ims_map, ims_mapF, atD, Option.isSome_some, Option.isSome_none, if_true, if_false, Bool.false_eq_true, ite_true, ite_false] using q
    | true => rw [c, Bool.true_and] at q; simpa [startA, List.map_cons, List.map_nil, List.length_cons, List.length_nil, List.replicate, List.cons_append, List.nil_append, Nat.reduceAdd, Nat.reduceSub, Nat.zero_add, Nat.sub_self, List.getElem?_cons_zero, List.getElem?_cons_succ, Option.map_some, wRet, wRetN, wSeq, wNext, wDrop, wIfS, wAsg, wgN, wgTup, wgCons, wgNil, wPar, wOr, wAnd, Ab.wNot, wIf, wOp, wUn, wCB, wCons, wNil, wTup, wLst, wLstM, wV, wC, wB, wCh, Ab.wTru, wNotT, wAndT, wOrT, wSl, wNo, wSome, wCall, wIsI, wIsI2, wStrip, wRev, gPop, wDNew, wDNewM, wSlW, gSlW, gAddM, gTimes, itemsA, wML, wYes, gIn, gInS, gIx, gEqv, gLt, gOrd, gAdd, gMinus, gInt, gNeg, gIs, gSl, gLen, gAbs, gTwo, gI1, gApp, gExt, gTupOf, gListOf, gListM, ims, asQ, asT, asL, dat, tru, at0, at1, at2, id_eq, AV.und, keyA, Ab.isNon, wipeS, List.set_cons_zero, List.set_cons_succ, wgSub, gSt, retA, List.take_length, takeSet, takeSet2, List.foldl_cons, List.foldl_nil, List.zip_cons_cons, List.zip_nil_right, keepS_nil, keepS_cons, keepO_none, keepO_im, keepO_wl, List.length_set, List.length_append, List.set_set, true_and, any_pr, snocAt, snocTake, ims_map, ims_mapF, atD, Option.isSome_some, Option.isSome_none, if_true, if_false, Bool.false_eq_true, ite_true, ite_false] using q
  | _ => simp only [startA, List.map_cons, List.map_nil, List.length_cons, List.length_nil, List.replicate, List.cons_append, List.nil_append, Nat.reduceAdd, Nat.reduceSub, Nat.zero_add, Nat.sub_self, List.getElem?_cons_zero, List.getElem?_cons_succ, Option.map_some, wRet, wRetN, wSeq, wNext, wDrop, wIfS, wAsg, wgN, wgTup, wgCons, wgNil, wPar, wOr, wAnd, Ab.wNot, wIf, wOp, wUn, wCB, wCons, wNil, wTup, wLst, wLstM, wV, wC, wB, wCh, Ab.wTru, wNotT, wAndT, wOrT, wSl, wNo, wSome, wCall, wIsI, wIsI2, wStrip, wRev, gPop, wDNew, wDNewM, wSlW, gSlW, gAddM, gTimes, itemsA, wML, wYes, gIn, gInS, gIx, gEqv, gLt, gOrd, gAdd, gMinus, gInt, gNeg, gIs, gSl, gLen, gAbs, gTwo, gI1, gApp, gExt, gTupOf, gListOf, gListM, ims, asQ, asT, asL, dat, tru, at0, at1, at2, id_eq, AV.und, keyA, Ab.isNon, wipeS, List.set_cons_zero, List.set_cons_succ, wgSub, gSt, retA, List.take_length, takeSet, takeSet2, List.foldl_cons, List.foldl_nil, List.zip_cons_cons, List.zip_nil_right, keepS_nil, keepS_cons, keepO_none, keepO_im, keepO_wl, List.length_set, List.length_append, List.set_set, true_and, any_pr, snocAt, snocTake, ims_map, ims_mapF, atD, Option.isSome_some, Option.isSome_none, if_true, if_false, Bool.false_eq_true, ite_true, ite_false, integerB]; exact q
def pairB : PyData → Bool
  | .tuple [x, y] => wordB x && priceB y
  | _ => false
/-- texts in it are short -/
def Sml (v : PyData) : Prop := wt v ≤ 100000
theorem Sml.str {x : Str} (h : Sml (.str x)) : x.length ≤ 100000 := by unfold Sml at h; simp only [wt] at h; omega
theorem wts_mem {x : PyData} : ∀ {xs : List PyData}, x ∈ xs → wt x ≤ wts xs
  | y :: r, h => by
    rcases List.mem_cons.mp h with e | e
    · subst e; simp only [wts]; omega
    · have := wts_mem e; simp only [wts]; omega
theorem wts_len' : ∀ xs : List PyData, xs.length ≤ wts xs
  | [] => Nat.le_refl _
  | x :: r => by
    have := wts_len' r
    simp only [wts, List.length_cons]; omega
theorem Sml.mem {xs : List PyData} {x : PyData} (h : Sml (.tuple xs)) (hx : x ∈ xs) : Sml x := by
  have := wts_mem hx
  unfold Sml at *
  simp only [wt] at h; omega
def aIsPair : ASp := aPure fun xs d => ∃ v, xs = [v] ∧ Sml v ∧ d = .bool (pairB v)
theorem ok_is_pair (hB : Bs mg t1 t2) (D : Defd K mg "is_name_with_price" s_is_name_with_price) (Cis_name : Callee P w K mg base CX0 1 "is_name" ["value"] (lift aIsName)) (Cis_price : Callee P w K mg base CX0 2 "is_price" ["value"] (lift aIsPrice)) : Callee P w K mg base CX0 3 "is_name_with_price" ["value"] (lift aIsPair) := by
  refine okA D sc_is_name_with_price (fun _ _ _ _ _ _ us hl => match us, hl with | [_], _ => rfl) (fun ds m Q EA ⟨xs, d, e, ⟨_, h, _⟩, _⟩ => by rw [e, h]; rfl) fun f cdv A outer s H E B hgu hr => ?_
  refine ⟨_, _, (ss_one (s_ret (ae_and (K := K) rfl (ae_isI call_isTup (by rfl) hB.isinstance (by decide +kernel) (ae_v (pv 0)) (pe_bltn (v := .ty "tuple") (by rfl) hB.tuple (by decide +kernel) rfl)) (ae_and (K := K) rfl (ae_cmp (oa_eq hr) (ae_callB ca_len (by rfl) hB.len PySem.boot_len (al_cons (ae_v (pv 0)) al_nil)) ae_int (nomark _)) (ae_and (K := K) rfl (ae_call Cis_name hgu (hr.mono (by omega)) (by rfl) pass0 (al_cons (ae_ix hr (ae_v (pv 0)) ae_int (fun _ _ => rfl)) al_nil)) (ae_one (ae_call Cis_price hgu (hr.mono (by omega)) (by rfl) pass0 (al_cons (ae_ix hr (ae_v (pv 0)) ae_int (fun _ _ => rfl)) al_nil)))))))), ?_⟩
  rintro _ m Q ⟨_, _, rfl, ⟨v, rfl, sm, rfl⟩, q⟩
  cases v with
  | tuple xs =>
    simp only [startA, List.map_cons, List.map_nil, List.length_cons, List.length_nil, List.replicate, List.cons_append, List.nil_append, Nat.reduceAdd, Nat.reduceSub, Nat.zero_add, Nat.sub_self, List.getElem?_cons_zero, List.getElem?_cons_succ, Option.map_some, wRet, wRetN, wSeq, wNext, wDrop, wIfS, wAsg, wgN, wgTup, wgCons, wgNil, wPar, wOr, wAnd, Ab.wNot, wIf, wOp, wUn, wCB, wCons, wNil, wTup, wLst, wLstM, wV, wC, wB, wCh, Ab.wTru, wNotT, wAndT, wOrT, wSl, wNo, wSome, wCall, wIsI, wIsI2, wStrip, wRev, gPop, wDNew, wDNewM, wSlW, gSlW, gAddM, gTimes, itemsA, wML, wYes, gIn, gInS, gIx, gEqv, gLt, gOrd, gAdd, gMinus, gInt, gNeg, gIs, gSl, gLen, gAbs, gTwo, gI1, gApp, gExt, gTupOf, gListOf, gListM, ims, asQ, asT, asL, dat, tru, at0, at1, at2, id_eq, AV.und, keyA, Ab.isNon, wipeS, List.set_cons_zero, List.set_cons_succ, wgSub, gSt, retA, List.take_length, takeSet, takeSet2, List.foldl_cons, List.foldl_nil, List.zip_cons_cons, List.zip_nil_right, keepS_nil, keepS_cons, keepO_none, keepO_im, keepO_wl, List.length_set, List.length_append, List.set_set, true_and, any_pr, snocAt, snocTake, ims_map, ims_mapF, atD, Option.isSome_some, Option.isSome_none, if_true, if_false, Bool.false_eq_true, ite_true, ite_false, isTup]
    by_cases h2 : xs.length = 2
    · match xs, h2 with
      | [x, y], _ =>
      have a0 : L2.atI [x, y] 0 = some x := atI_nat (j := 0) rfl
      have a1 : L2.atI [x, y] 1 = some y := atI_nat (j := 1) rfl
      simp only [startA, List.map_cons, List.map_nil, List.length_cons, List.length_nil, List.replicate, List.cons_append, List.nil_append, Nat.reduceAdd, Nat.reduceSub, Nat.zero_add, Nat.sub_self, List.getElem?_cons_zero, List.getElem?_cons_succ, Option.map_some, wRet, wRetN, wSeq, wNext, wDrop, wIfS, wAsg, wgN, wgTup, wgCons, wgNil, wPar, wOr, wAnd, Ab.wNot, wIf, wOp, wUn, wCB, wCons, wNil, wTup, wLst, wLstM, wV, wC, wB, wCh, Ab.wTru, wNotT, wAndT, wOrT, wSl, wNo, wSome, wCall, wIsI, wIsI2, wStrip, wRev, gPop, wDNew, wDNewM, wSlW, gSlW, gAddM, gTimes, itemsA, wML, wYes, gIn, gInS, gIx, gEqv, gLt, gOrd, gAdd, gMinus, gInt, gNeg, gIs, gSl, gLen, gAbs, gTwo, gI1, gApp, gExt, gTupOf, gListOf, gListM, ims, asQ, asT, asL, dat, tru, at0, at1, at2, id_eq, AV.und, keyA, Ab.isNon, wipeS, List.set_cons_zero, List.set_cons_succ, wgSub, gSt, retA, List.take_length, takeSet, takeSet2, List.foldl_cons, List.foldl_nil, List.zip_cons_cons, List.zip_nil_right, keepS_nil, keepS_cons, keepO_none, keepO_im, keepO_wl, List.length_set, List.length_append, List.set_set, true_and, any_pr, snocAt, snocTake, ims_map, ims_mapF, atD, Option.isSome_some, Option.isSome_none, if_true, if_false, Bool.false_eq_true, ite_true, ite_false, a0, a1]
      have q2 : Q (.im (.bool (wordB x && priceB y))) m := q
      have e2 : decide (((2 : Nat) : Int) = 2) = true := by decide
      rw [if_pos e2]
      refine ⟨[x], _, rfl, ⟨x, rfl, fun z e => (e ▸ sm.mem List.mem_cons_self : Sml (.str z)).str, rfl⟩, ?_⟩
      cases c : wordB x with
      | false => rw [c, Bool.false_and] at q2; simpa [startA, List.map_cons, List.map_nil, List.length_cons, List.length_nil, List.replicate, List.cons_append, List.nil_append, Nat.reduceAdd, Nat.reduceSub, Nat.zero_add, Nat.sub_self, List.getElem?_cons_zero, List.getElem?_cons_succ, Option.map_some, wRet, wRetN, wSeq, wNext, wDrop, wIfS, wAsg, wgN, wgTup, wgCons, wgNil, wPar, wOr, wAnd, Ab.wNot, wIf, wOp, wUn, wCB, wCons, wNil, wTup, wLst, wLstM, wV, wC, wB, wCh, Ab.wTru, wNotT, wAndT, wOrT, wSl, wNo, wSome, wCall, wIsI, wIsI2, wStrip, wRev, gPop, wDNew, wDNewM, wSlW, gSlW, gAddM, gTimes, itemsA, wML, wYes, gIn, gInS, gIx, gEqv, gLt, gOrd, gAdd, gMinus, gInt, gNeg, gIs, gSl, gLen, gAbs, gTwo, gI1, gApp, gExt, gTupOf, gListOf, gListM, ims, asQ, asT, asL, dat, tru, at0, at1, at2, id_eq, AV.und, keyA, Ab.isNon, wipeS, List.set_cons_zero, List.set_cons_succ, wgSub, gSt, retA, List.take_length, takeSet, takeSet2, List.foldl_cons, List.foldl_nil, List.zip_cons_cons, List.zip_nil_right, keepS_nil, keepS_cons, keepO_none, keepO_im, keepO_wl, List.length_set, List.length_append, List.set_set, true_and, any_pr, snocAt, snocTake, ims_map, ims_mapF, atD, Option.isSome_some, Option.isSome_none, if_true, if_false, Bool.false_eq_true, ite_true, ite_false] using q2
      | true =>
        rw [c, Bool.true_and] at q2
        simp only [startA, List.map_cons, List.map_nil, List.length_cons, List.length_nil, List.replicate, List.cons_append, List.nil_append, Nat.reduceAdd, Nat.reduceSub, Nat.zero_add, Nat.sub_self, List.getElem?_cons_zero, List.getElem?_cons_succ, Option.map_some, wRet, wRetN, wSeq, wNext, wDrop, wIfS, wAsg, wgN, wgTup, wgCons, wgNil, wPar, wOr, wAnd, Ab.wNot, wIf, wOp, wUn, wCB, wCons, wNil, wTup, wLst, wLstM, wV, wC, wB, wCh, Ab.wTru, wNotT, wAndT, wOrT, wSl, wNo, wSome, wCall, wIsI, wIsI2, wStrip, wRev, gPop, wDNew, wDNewM, wSlW, gSlW, gAddM, gTimes, itemsA, wML, wYes, gIn, gInS, gIx, gEqv, gLt, gOrd, gAdd, gMinus, gInt, gNeg, gIs, gSl, gLen, gAbs, gTwo, gI1, gApp, gExt, gTupOf, gListOf, gListM, ims, asQ, asT, asL, dat, tru, at0, at1, at2, id_eq, AV.und, keyA, Ab.isNon, wipeS, List.set_cons_zero, List.set_cons_succ, wgSub, gSt, retA, List.take_length, takeSet, takeSet2, List.foldl_cons, List.foldl_nil, List.zip_cons_cons, List.zip_nil_right, keepS_nil, keepS_cons, keepO_none, keepO_im, keepO_wl, List.length_set, List.length_append, List.set_set, true_and, any_pr, snocAt, snocTake, ims_map, ims_mapF, atD, Option.isSome_some, Option.isSome_none, if_true, if_false, Bool.false_eq_true, ite_true, ite_false]
        refine ⟨[y], _, rfl, ⟨y, rfl, rfl⟩, ?_⟩
        simpa [startA, List.map_cons, List.map_nil, List.length_cons, List.length_nil, List.replicate, List.cons_append, List.nil_append, Nat.reduceAdd, Nat.reduceSub, Nat.zero_add, Nat.sub_self, List.getElem?_cons_zero, List.getElem?_cons_succ, Option.map_some, wRet, wRetN, wSeq, wNext, wDrop, wIfS, wAsg, wgN, wgTup, wgCons, wgNil, wPar, wOr, wAnd, Ab.wNot, wIf, wOp, wUn, wCB, wCons, wNil, wTup, wLst, wLstM, wV, wC, wB, wCh, Ab.wTru, wNotT, wAndT, wOrT, wSl, wNo, wSome, wCall, wIsI, wIsI2, wStrip, wRev, gPop, wDNew, wDNewM, wSlW, gSlW, gAddM, gTimes, itemsA, wML, wYes, gIn, gInS, gIx, gEqv, gLt, gOrd, gAdd, gMinus, gInt, gNeg, gIs, gSl, gLen, gAbs, gTwo, gI1, gApp, gExt, gTupOf, gListOf, gListM, ims, asQ, asT, asL, dat, tru, at0, at1, at2, id_eq, AV.und, keyA, Ab.isNon, wipeS, List.set_cons_zero, List.set_cons_succ, wgSub, gSt, retA, List.take_length, takeSet, takeSet2, List.foldl_cons, List.foldl_nil, List.zip_cons_cons, List.zip_nil_right, keepS_nil, keepS_cons, keepO_none, keepO_im, keepO_wl, List.length_set, List.length_append, List.set_set, true_and, any_pr, snocAt, snocTake, ims_map, ims_mapF, atD, Option.isSome_some, Option.isSome_none, if_true, if_false, Bool.false_eq_true, ite_true, ite_false] using q2
    · have e2 : decide ((xs.length : Int) = 2) = false := decide_eq_false (by omega)
      have e3 : pairB (.tuple xs) = false := by
        match xs, h2 with
        | [], _ | [_], _ | _ :: _ :: _ :: _, _ => rfl
        | [_, _], h => exact absurd rfl h
      rw [e3] at q
      simp only [startA, List.map_cons, List.map_nil, List.length_cons, List.length_nil, List.replicate, List.cons_append, List.nil_append, Nat.reduceAdd, Nat.reduceSub, Nat.zero_add, Nat.sub_self, List.getElem?_cons_zero, List.getElem?_cons_succ, Option.map_some, wRet, wRetN, wSeq, wNext, wDrop, wIfS, wAsg, wgN, wgTup, wgCons, wgNil, wPar, wOr, wAnd, Ab.wNot, wIf, wOp, wUn, wCB, wCons, wNil, wTup, wLst, wLstM, wV, wC, wB, wCh, Ab.wTru, wNotT, wAndT, wOrT, wSl, wNo, wSome, wCall, wIsI, wIsI2, wStrip, wRev, gPop, wDNew, wDNewM, wSlW, gSlW, gAddM, gTimes, itemsA, wML, wYes, gIn, gInS, gIx, gEqv, gLt, gOrd, gAdd, gMinus, gInt, gNeg, gIs, gSl, gLen, gAbs, gTwo, gI1, gApp, gExt, gTupOf, gListOf, gListM, ims, asQ, asT, asL, dat, tru, at0, at1, at2, id_eq, AV.und, keyA, Ab.isNon, wipeS, List.set_cons_zero, List.set_cons_succ, wgSub, gSt, retA, List.take_length, takeSet, takeSet2, List.foldl_cons, List.foldl_nil, List.zip_cons_cons, List.zip_nil_right, keepS_nil, keepS_cons, keepO_none, keepO_im, keepO_wl, List.length_set, List.length_append, List.set_set, true_and, any_pr, snocAt, snocTake, ims_map, ims_mapF, atD, Option.isSome_some, Option.isSome_none, if_true, if_false, Bool.false_eq_true, ite_true, ite_false, e2]
      exact q
  | _ => simp only [startA, List.map_cons, List.map_nil, List.length_cons, List.length_nil, List.replicate, List.cons_append, List.nil_append, Nat.reduceAdd, Nat.reduceSub, Nat.zero_add, Nat.sub_self, List.getElem?_cons_zero, List.getElem?_cons_succ, Option.map_some, wRet, wRetN, wSeq, wNext, wDrop, wIfS, wAsg, wgN, wgTup, wgCons, wgNil, wPar, wOr, wAnd, Ab.wNot, wIf, wOp, wUn, wCB, wCons, wNil, wTup, wLst, wLstM, wV, wC, wB, wCh, Ab.wTru, wNotT, wAndT, wOrT, wSl, wNo, wSome, wCall, wIsI, wIsI2, wStrip, wRev, gPop, wDNew, wDNewM, wSlW, gSlW, gAddM, gTimes, itemsA, wML, wYes, gIn, gInS, gIx, gEqv, gLt, gOrd, gAdd, gMinus, gInt, gNeg, gIs, gSl, gLen, gAbs, gTwo, gI1, gApp, gExt, gTupOf, gListOf, gListM, ims, asQ, asT, asL, dat, tru, at0, at1, at2, id_eq, AV.und, keyA, Ab.isNon, wipeS, List.set_cons_zero, List.set_cons_succ, wgSub, gSt, retA, List.take_length, takeSet, takeSet2, List.foldl_cons, List.foldl_nil, List.zip_cons_cons, List.zip_nil_right, keepS_nil, keepS_cons, keepO_none, keepO_im, keepO_wl, List.length_set, List.length_append, List.set_set, true_and, any_pr, snocAt, snocTake, ims_map, ims_mapF, atD, Option.isSome_some, Option.isSome_none, if_true, if_false, Bool.false_eq_true, ite_true, ite_false, isTup]; exact q
def firstS : PyData → Str
  | .tuple (.str s :: _) => s
  | _ => ""
def pricesL (xs : List PyData) : Bool := xs.all pairB && ascB (xs.map firstS)
def pricesB : PyData → Bool
  | .tuple xs => pricesL xs
  | _ => false
theorem pair_form {v : PyData} (h : pairB v = true) : ∃ s y, v = .tuple [.str s, y] := by
  match v, h with
  | .tuple [x, y], h =>
    rw [pairB, Bool.and_eq_true] at h
    cases x with
    | str s => exact ⟨s, y, rfl⟩
    | _ => cases h.1
def aPrices : ASp := aPure fun xs d => ∃ v, xs = [v] ∧ Sml v ∧ d = .bool (pricesB v)
theorem ok_are_prices (hB : Bs mg t1 t2) (D : Defd K mg "are_prices" s_are_prices) (Cis_name_with_price : Callee P w K mg base CX0 3 "is_name_with_price" ["value"] (lift aIsPair)) (Cis_ascending : Callee P w K mg base CX0 1 "is_ascending" ["values"] (lift aAsc)) : Callee P w K mg base CX0 4 "are_prices" ["value"] (lift aPrices) := by
  refine okA D sc_are_prices (fun _ _ _ _ _ _ us hl => match us, hl with | [_], _ => rfl) (fun ds m Q EA ⟨xs, d, e, ⟨_, h, _⟩, _⟩ => by rw [e, h]; rfl) fun f cdv A outer s H E B hgu hr => ?_
  refine ⟨_, _, (ss_cons (s_if (AW.at (aw_or (at_not (at_tru (K := K) rfl (ae_isI call_isTup (by rfl) hB.isinstance (by decide +kernel) (ae_v (pv 0)) (pe_bltn (v := .ty "tuple") (by rfl) hB.tuple (by decide +kernel) rfl)))) (aw_or1 (at_not (at_tru (K := K) rfl (ae_callB (ca_all rfl) (by rfl) hB.all (by decide +kernel) (al_cons (ae_lc (own := [("pair", 1)]) (g := (gName 1)) rfl sc_are_prices.nd (ai_any (K := K) rfl (ae_v (pv 0))) (blkOk_by (N := ["value", "pair"]) (sc := defScope s_are_prices) (by decide +kernel)) (fun _ _ _ _ _ => (g_name (pg_name (i := 1) sc_are_prices.nd rfl (.inl rfl)))) (own_name (by decide)) (mono_name _) (fun _ _ _ _ _ => ts_nil) (fun _ _ _ _ _ => (ae_call Cis_name_with_price hgu (hr.mono (by omega)) (by rfl) pass0 (al_cons (ae_v (pv 1)) al_nil)))) al_nil))))))) (ss_one (s_ret ae_bl)) ss_nil)
        (ss_one (s_ret (ae_call Cis_ascending hgu (hr.mono (by omega)) (by rfl) pass0 (al_cons (ae_lc (own := [("pair", 1)]) (g := (gName 1)) rfl sc_are_prices.nd (ai_any (K := K) rfl (ae_v (pv 0))) (blkOk_by (N := ["value", "pair"]) (sc := defScope s_are_prices) (by decide +kernel)) (fun _ _ _ _ _ => (g_name (pg_name (i := 1) sc_are_prices.nd rfl (.inl rfl)))) (own_name (by decide)) (mono_name _) (fun _ _ _ _ _ => ts_nil) (fun _ _ _ _ _ => (ae_ix hr (ae_v (pv 1)) ae_int (fun _ _ => rfl)))) al_nil))))), ?_⟩
  rintro _ m Q ⟨_, _, rfl, ⟨v, rfl, sm, rfl⟩, q⟩
  refine wSeq_of fun N1 n1 => ?_
  cases v with
  | tuple xs =>
    have q : Q (.im (.bool (xs.all pairB && ascB (xs.map firstS)))) m := q
    have hxl : xs.length ≤ 100000 := by
      have := wts_len' xs
      unfold Sml at sm
      simp only [wt] at sm; omega
    simp only [startA, List.map_cons, List.map_nil, List.length_cons, List.length_nil, List.replicate, List.cons_append, List.nil_append, Nat.reduceAdd, Nat.reduceSub, Nat.zero_add, Nat.sub_self, List.getElem?_cons_zero, List.getElem?_cons_succ, Option.map_some, wRet, wRetN, wSeq, wNext, wDrop, wIfS, wAsg, wgN, wgTup, wgCons, wgNil, wPar, wOr, wAnd, Ab.wNot, wIf, wOp, wUn, wCB, wCons, wNil, wTup, wLst, wLstM, wV, wC, wB, wCh, Ab.wTru, wNotT, wAndT, wOrT, wSl, wNo, wSome, wCall, wIsI, wIsI2, wStrip, wRev, gPop, wDNew, wDNewM, wSlW, gSlW, gAddM, gTimes, itemsA, wML, wYes, gIn, gInS, gIx, gEqv, gLt, gOrd, gAdd, gMinus, gInt, gNeg, gIs, gSl, gLen, gAbs, gTwo, gI1, gApp, gExt, gTupOf, gListOf, gListM, ims, asQ, asT, asL, dat, tru, at0, at1, at2, id_eq, AV.und, keyA, Ab.isNon, wipeS, List.set_cons_zero, List.set_cons_succ, wgSub, gSt, retA, List.take_length, takeSet, takeSet2, List.foldl_cons, List.foldl_nil, List.zip_cons_cons, List.zip_nil_right, keepS_nil, keepS_cons, keepO_none, keepO_im, keepO_wl, List.length_set, List.length_append, List.set_set, true_and, any_pr, snocAt, snocTake, ims_map, ims_mapF, atD, Option.isSome_some, Option.isSome_none, if_true, if_false, Bool.false_eq_true, ite_true, ite_false, isTup, wLc, wLcs, wiAny]
    refine ⟨by rw [sizeLine_eq, List.length_map]; omega, lc_map xs _ (fun x => some (.im (.bool (pairB x)))) trivial (by simp) (fun x hx Kt hk => ?_) (fun b _ z hz => by cases hz; rfl) ?_⟩
    · simp only [startA, List.map_cons, List.map_nil, List.length_cons, List.length_nil, List.replicate, List.cons_append, List.nil_append, Nat.reduceAdd, Nat.reduceSub, Nat.zero_add, Nat.sub_self, List.getElem?_cons_zero, List.getElem?_cons_succ, Option.map_some, wRet, wRetN, wSeq, wNext, wDrop, wIfS, wAsg, wgN, wgTup, wgCons, wgNil, wPar, wOr, wAnd, Ab.wNot, wIf, wOp, wUn, wCB, wCons, wNil, wTup, wLst, wLstM, wV, wC, wB, wCh, Ab.wTru, wNotT, wAndT, wOrT, wSl, wNo, wSome, wCall, wIsI, wIsI2, wStrip, wRev, gPop, wDNew, wDNewM, wSlW, gSlW, gAddM, gTimes, itemsA, wML, wYes, gIn, gInS, gIx, gEqv, gLt, gOrd, gAdd, gMinus, gInt, gNeg, gIs, gSl, gLen, gAbs, gTwo, gI1, gApp, gExt, gTupOf, gListOf, gListM, ims, asQ, asT, asL, dat, tru, at0, at1, at2, id_eq, AV.und, keyA, Ab.isNon, wipeS, List.set_cons_zero, List.set_cons_succ, wgSub, gSt, retA, List.take_length, takeSet, takeSet2, List.foldl_cons, List.foldl_nil, List.zip_cons_cons, List.zip_nil_right, keepS_nil, keepS_cons, keepO_none, keepO_im, keepO_wl, List.length_set, List.length_append, List.set_set, true_and, any_pr, snocAt, snocTake, ims_map, ims_mapF, atD, Option.isSome_some, Option.isSome_none, if_true, if_false, Bool.false_eq_true, ite_true, ite_false, turnL]
      exact ⟨[x], _, rfl, ⟨x, rfl, sm.mem hx, rfl⟩, hk⟩
    rw [List.filterMap_eq_map', ims_mapF]
    have e : (xs.map pairB).all id = xs.all pairB := by rw [List.all_map]; rfl
    simp only [startA, List.map_cons, List.map_nil, List.length_cons, List.length_nil, List.replicate, List.cons_append, List.nil_append, Nat.reduceAdd, Nat.reduceSub, Nat.zero_add, Nat.sub_self, List.getElem?_cons_zero, List.getElem?_cons_succ, Option.map_some, wRet, wRetN, wSeq, wNext, wDrop, wIfS, wAsg, wgN, wgTup, wgCons, wgNil, wPar, wOr, wAnd, Ab.wNot, wIf, wOp, wUn, wCB, wCons, wNil, wTup, wLst, wLstM, wV, wC, wB, wCh, Ab.wTru, wNotT, wAndT, wOrT, wSl, wNo, wSome, wCall, wIsI, wIsI2, wStrip, wRev, gPop, wDNew, wDNewM, wSlW, gSlW, gAddM, gTimes, itemsA, wML, wYes, gIn, gInS, gIx, gEqv, gLt, gOrd, gAdd, gMinus, gInt, gNeg, gIs, gSl, gLen, gAbs, gTwo, gI1, gApp, gExt, gTupOf, gListOf, gListM, ims, asQ, asT, asL, dat, tru, at0, at1, at2, id_eq, AV.und, keyA, Ab.isNon, wipeS, List.set_cons_zero, List.set_cons_succ, wgSub, gSt, retA, List.take_length, takeSet, takeSet2, List.foldl_cons, List.foldl_nil, List.zip_cons_cons, List.zip_nil_right, keepS_nil, keepS_cons, keepO_none, keepO_im, keepO_wl, List.length_set, List.length_append, List.set_set, true_and, any_pr, snocAt, snocTake, ims_map, ims_mapF, atD, Option.isSome_some, Option.isSome_none, if_true, if_false, Bool.false_eq_true, ite_true, ite_false, gAll, bools_map', e]
    cases c : xs.all pairB with
    | false => rw [c, Bool.false_and] at q; simpa [startA, List.map_cons, List.map_nil, List.length_cons, List.length_nil, List.replicate, List.cons_append, List.nil_append, Nat.reduceAdd, Nat.reduceSub, Nat.zero_add, Nat.sub_self, List.getElem?_cons_zero, List.getElem?_cons_succ, Option.map_some, wRet, wRetN, wSeq, wNext, wDrop, wIfS, wAsg, wgN, wgTup, wgCons, wgNil, wPar, wOr, wAnd, Ab.wNot, wIf, wOp, wUn, wCB, wCons, wNil, wTup, wLst, wLstM, wV, wC, wB, wCh, Ab.wTru, wNotT, wAndT, wOrT, wSl, wNo, wSome, wCall, wIsI, wIsI2, wStrip, wRev, gPop, wDNew, wDNewM, wSlW, gSlW, gAddM, gTimes, itemsA, wML, wYes, gIn, gInS, gIx, gEqv, gLt, gOrd, gAdd, gMinus, gInt, gNeg, gIs, gSl, gLen, gAbs, gTwo, gI1, gApp, gExt, gTupOf, gListOf, gListM, ims, asQ, asT, asL, dat, tru, at0, at1, at2, id_eq, AV.und, keyA, Ab.isNon, wipeS, List.set_cons_zero, List.set_cons_succ, wgSub, gSt, retA, List.take_length, takeSet, takeSet2, List.foldl_cons, List.foldl_nil, List.zip_cons_cons, List.zip_nil_right, keepS_nil, keepS_cons, keepO_none, keepO_im, keepO_wl, List.length_set, List.length_append, List.set_set, true_and, any_pr, snocAt, snocTake, ims_map, ims_mapF, atD, Option.isSome_some, Option.isSome_none, if_true, if_false, Bool.false_eq_true, ite_true, ite_false] using q
    | true =>
      rw [c, Bool.true_and] at q
      simp only [startA, List.map_cons, List.map_nil, List.length_cons, List.length_nil, List.replicate, List.cons_append, List.nil_append, Nat.reduceAdd, Nat.reduceSub, Nat.zero_add, Nat.sub_self, List.getElem?_cons_zero, List.getElem?_cons_succ, Option.map_some, wRet, wRetN, wSeq, wNext, wDrop, wIfS, wAsg, wgN, wgTup, wgCons, wgNil, wPar, wOr, wAnd, Ab.wNot, wIf, wOp, wUn, wCB, wCons, wNil, wTup, wLst, wLstM, wV, wC, wB, wCh, Ab.wTru, wNotT, wAndT, wOrT, wSl, wNo, wSome, wCall, wIsI, wIsI2, wStrip, wRev, gPop, wDNew, wDNewM, wSlW, gSlW, gAddM, gTimes, itemsA, wML, wYes, gIn, gInS, gIx, gEqv, gLt, gOrd, gAdd, gMinus, gInt, gNeg, gIs, gSl, gLen, gAbs, gTwo, gI1, gApp, gExt, gTupOf, gListOf, gListM, ims, asQ, asT, asL, dat, tru, at0, at1, at2, id_eq, AV.und, keyA, Ab.isNon, wipeS, List.set_cons_zero, List.set_cons_succ, wgSub, gSt, retA, List.take_length, takeSet, takeSet2, List.foldl_cons, List.foldl_nil, List.zip_cons_cons, List.zip_nil_right, keepS_nil, keepS_cons, keepO_none, keepO_im, keepO_wl, List.length_set, List.length_append, List.set_set, true_and, any_pr, snocAt, snocTake, ims_map, ims_mapF, atD, Option.isSome_some, Option.isSome_none, if_true, if_false, Bool.false_eq_true, ite_true, ite_false, Bool.not_true]
      refine n1 _ _ ?_
      simp only [startA, List.map_cons, List.map_nil, List.length_cons, List.length_nil, List.replicate, List.cons_append, List.nil_append, Nat.reduceAdd, Nat.reduceSub, Nat.zero_add, Nat.sub_self, List.getElem?_cons_zero, List.getElem?_cons_succ, Option.map_some, wRet, wRetN, wSeq, wNext, wDrop, wIfS, wAsg, wgN, wgTup, wgCons, wgNil, wPar, wOr, wAnd, Ab.wNot, wIf, wOp, wUn, wCB, wCons, wNil, wTup, wLst, wLstM, wV, wC, wB, wCh, Ab.wTru, wNotT, wAndT, wOrT, wSl, wNo, wSome, wCall, wIsI, wIsI2, wStrip, wRev, gPop, wDNew, wDNewM, wSlW, gSlW, gAddM, gTimes, itemsA, wML, wYes, gIn, gInS, gIx, gEqv, gLt, gOrd, gAdd, gMinus, gInt, gNeg, gIs, gSl, gLen, gAbs, gTwo, gI1, gApp, gExt, gTupOf, gListOf, gListM, ims, asQ, asT, asL, dat, tru, at0, at1, at2, id_eq, AV.und, keyA, Ab.isNon, wipeS, List.set_cons_zero, List.set_cons_succ, wgSub, gSt, retA, List.take_length, takeSet, takeSet2, List.foldl_cons, List.foldl_nil, List.zip_cons_cons, List.zip_nil_right, keepS_nil, keepS_cons, keepO_none, keepO_im, keepO_wl, List.length_set, List.length_append, List.set_set, true_and, any_pr, snocAt, snocTake, ims_map, ims_mapF, atD, Option.isSome_some, Option.isSome_none, if_true, if_false, Bool.false_eq_true, ite_true, ite_false, wLc, wLcs, wiAny]
      have fx : ∀ x ∈ xs, ∃ s y, x = .tuple [.str s, y] := fun x hx => pair_form (List.all_eq_true.mp c x hx)
      refine ⟨by rw [sizeLine_eq, List.length_map]; omega, lc_map xs _ (fun x => some (.im (.str (firstS x)))) trivial (by simp) (fun x hx Kt hk => ?_) (fun b _ z hz => by cases hz; rfl) ?_⟩
      · obtain ⟨s, y, rfl⟩ := fx x hx
        have a0 : L2.atI [PyData.str s, y] 0 = some (.str s) := atI_nat (j := 0) rfl
        simp only [startA, List.map_cons, List.map_nil, List.length_cons, List.length_nil, List.replicate, List.cons_append, List.nil_append, Nat.reduceAdd, Nat.reduceSub, Nat.zero_add, Nat.sub_self, List.getElem?_cons_zero, List.getElem?_cons_succ, Option.map_some, wRet, wRetN, wSeq, wNext, wDrop, wIfS, wAsg, wgN, wgTup, wgCons, wgNil, wPar, wOr, wAnd, Ab.wNot, wIf, wOp, wUn, wCB, wCons, wNil, wTup, wLst, wLstM, wV, wC, wB, wCh, Ab.wTru, wNotT, wAndT, wOrT, wSl, wNo, wSome, wCall, wIsI, wIsI2, wStrip, wRev, gPop, wDNew, wDNewM, wSlW, gSlW, gAddM, gTimes, itemsA, wML, wYes, gIn, gInS, gIx, gEqv, gLt, gOrd, gAdd, gMinus, gInt, gNeg, gIs, gSl, gLen, gAbs, gTwo, gI1, gApp, gExt, gTupOf, gListOf, gListM, ims, asQ, asT, asL, dat, tru, at0, at1, at2, id_eq, AV.und, keyA, Ab.isNon, wipeS, List.set_cons_zero, List.set_cons_succ, wgSub, gSt, retA, List.take_length, takeSet, takeSet2, List.foldl_cons, List.foldl_nil, List.zip_cons_cons, List.zip_nil_right, keepS_nil, keepS_cons, keepO_none, keepO_im, keepO_wl, List.length_set, List.length_append, List.set_set, true_and, any_pr, snocAt, snocTake, ims_map, ims_mapF, atD, Option.isSome_some, Option.isSome_none, if_true, if_false, Bool.false_eq_true, ite_true, ite_false, turnL, a0]
        exact hk
      rw [List.filterMap_eq_map', ims_mapF]
      have e3 : (xs.map fun x => PyData.str (firstS x)) = (xs.map firstS).map .str := by rw [List.map_map]; rfl
      rw [e3]
      simp only [startA, List.map_cons, List.map_nil, List.length_cons, List.length_nil, List.replicate, List.cons_append, List.nil_append, Nat.reduceAdd, Nat.reduceSub, Nat.zero_add, Nat.sub_self, List.getElem?_cons_zero, List.getElem?_cons_succ, Option.map_some, wRet, wRetN, wSeq, wNext, wDrop, wIfS, wAsg, wgN, wgTup, wgCons, wgNil, wPar, wOr, wAnd, Ab.wNot, wIf, wOp, wUn, wCB, wCons, wNil, wTup, wLst, wLstM, wV, wC, wB, wCh, Ab.wTru, wNotT, wAndT, wOrT, wSl, wNo, wSome, wCall, wIsI, wIsI2, wStrip, wRev, gPop, wDNew, wDNewM, wSlW, gSlW, gAddM, gTimes, itemsA, wML, wYes, gIn, gInS, gIx, gEqv, gLt, gOrd, gAdd, gMinus, gInt, gNeg, gIs, gSl, gLen, gAbs, gTwo, gI1, gApp, gExt, gTupOf, gListOf, gListM, ims, asQ, asT, asL, dat, tru, at0, at1, at2, id_eq, AV.und, keyA, Ab.isNon, wipeS, List.set_cons_zero, List.set_cons_succ, wgSub, gSt, retA, List.take_length, takeSet, takeSet2, List.foldl_cons, List.foldl_nil, List.zip_cons_cons, List.zip_nil_right, keepS_nil, keepS_cons, keepO_none, keepO_im, keepO_wl, List.length_set, List.length_append, List.set_set, true_and, any_pr, snocAt, snocTake, ims_map, ims_mapF, atD, Option.isSome_some, Option.isSome_none, if_true, if_false, Bool.false_eq_true, ite_true, ite_false]
      refine ⟨_, rfl, by rw [List.length_map]; exact hxl, ?_⟩
      simpa [startA, List.map_cons, List.map_nil, List.length_cons, List.length_nil, List.replicate, List.cons_append, List.nil_append, Nat.reduceAdd, Nat.reduceSub, Nat.zero_add, Nat.sub_self, List.getElem?_cons_zero, List.getElem?_cons_succ, Option.map_some, wRet, wRetN, wSeq, wNext, wDrop, wIfS, wAsg, wgN, wgTup, wgCons, wgNil, wPar, wOr, wAnd, Ab.wNot, wIf, wOp, wUn, wCB, wCons, wNil, wTup, wLst, wLstM, wV, wC, wB, wCh, Ab.wTru, wNotT, wAndT, wOrT, wSl, wNo, wSome, wCall, wIsI, wIsI2, wStrip, wRev, gPop, wDNew, wDNewM, wSlW, gSlW, gAddM, gTimes, itemsA, wML, wYes, gIn, gInS, gIx, gEqv, gLt, gOrd, gAdd, gMinus, gInt, gNeg, gIs, gSl, gLen, gAbs, gTwo, gI1, gApp, gExt, gTupOf, gListOf, gListM, ims, asQ, asT, asL, dat, tru, at0, at1, at2, id_eq, AV.und, keyA, Ab.isNon, wipeS, List.set_cons_zero, List.set_cons_succ, wgSub, gSt, retA, List.take_length, takeSet, takeSet2, List.foldl_cons, List.foldl_nil, List.zip_cons_cons, List.zip_nil_right, keepS_nil, keepS_cons, keepO_none, keepO_im, keepO_wl, List.length_set, List.length_append, List.set_set, true_and, any_pr, snocAt, snocTake, ims_map, ims_mapF, atD, Option.isSome_some, Option.isSome_none, if_true, if_false, Bool.false_eq_true, ite_true, ite_false] using q
  | _ => simp only [startA, List.map_cons, List.map_nil, List.length_cons, List.length_nil, List.replicate, List.cons_append, List.nil_append, Nat.reduceAdd, Nat.reduceSub, Nat.zero_add, Nat.sub_self, List.getElem?_cons_zero, List.getElem?_cons_succ, Option.map_some, wRet, wRetN, wSeq, wNext, wDrop, wIfS, wAsg, wgN, wgTup, wgCons, wgNil, wPar, wOr, wAnd, Ab.wNot, wIf, wOp, wUn, wCB, wCons, wNil, wTup, wLst, wLstM, wV, wC, wB, wCh, Ab.wTru, wNotT, wAndT, wOrT, wSl, wNo, wSome, wCall, wIsI, wIsI2, wStrip, wRev, gPop, wDNew, wDNewM, wSlW, gSlW, gAddM, gTimes, itemsA, wML, wYes, gIn, gInS, gIx, gEqv, gLt, gOrd, gAdd, gMinus, gInt, gNeg, gIs, gSl, gLen, gAbs, gTwo, gI1, gApp, gExt, gTupOf, gListOf, gListM, ims, asQ, asT, asL, dat, tru, at0, at1, at2, id_eq, AV.und, keyA, Ab.isNon, wipeS, List.set_cons_zero, List.set_cons_succ, wgSub, gSt, retA, List.take_length, takeSet, takeSet2, List.foldl_cons, List.foldl_nil, List.zip_cons_cons, List.zip_nil_right, keepS_nil, keepS_cons, keepO_none, keepO_im, keepO_wl, List.length_set, List.length_append, List.set_set, true_and, any_pr, snocAt, snocTake, ims_map, ims_mapF, atD, Option.isSome_some, Option.isSome_none, if_true, if_false, Bool.false_eq_true, ite_true, ite_false, isTup, Bool.not_false]; exact q
end
end K37
end

section
set_option maxRecDepth 100000
set_option maxHeartbeats 4000000
namespace K37
open PySem PySem.Spec PyProof.Rows L2 Gd Ab
abbrev s_is_number : Stmt := topS 19
theorem sc_is_number : FnScope ["_law_thing", "_law_least", "_law_most"] ["_law_thing", "_law_least", "_law_most"] (defScope s_is_number) := ⟨rfl, rfl, rfl, by decide +kernel, rfl, by decide +kernel, by decide +kernel⟩
abbrev s_l_is_name : Stmt := topS 20
theorem sc_l_is_name : FnScope ["_law_thing"] ["_law_thing"] (defScope s_l_is_name) := ⟨rfl, rfl, rfl, by decide +kernel, rfl, by decide +kernel, by decide +kernel⟩
abbrev s_are_costs : Stmt := topS 21
theorem sc_are_costs : FnScope ["_law_thing", "_law_names_here", "_law_pair"] ["_law_thing"] (defScope s_are_costs) := ⟨rfl, rfl, rfl, by decide +kernel, rfl, by decide +kernel, by decide +kernel⟩
section
variable {P : Program} {w : World} {K : PySem.W.Frag} {mg : Str → Option Value} {base : Heap} {t1 t2 : Tok}
def numB (lo hi : Int) : PyData → Bool
  | .int i => decide (lo ≤ i) && decide (i ≤ hi)
  | _ => false
def aIsNum : ASp := aPure fun xs d => ∃ v lo hi, xs = [v, .int lo, .int hi] ∧ d = .bool (numB lo hi v)
theorem ok_is_number (hB : Bs mg t1 t2) (D : Defd K mg "_law_is_number" s_is_number) : Callee P w K mg base CX0 1 "_law_is_number" ["_law_thing", "_law_least", "_law_most"] (lift aIsNum) := by
  refine okA D sc_is_number (fun _ _ _ _ _ _ us hl => match us, hl with | [_, _, _], _ => rfl) (fun ds m Q EA ⟨xs, d, e, ⟨_, _, _, h, _⟩, _⟩ => by rw [e, h]; rfl) fun f cdv A outer s H E B hgu hr => ?_
  refine ⟨_, _, (ss_one (s_ret (ae_and (K := K) rfl (ae_isI call_isInt (by rfl) hB.isinstance (by decide +kernel) (ae_v (pv 0)) (pe_bltn (v := .ty "int") (by rfl) hB.int (by decide +kernel) rfl)) (ae_and (K := K) rfl (ae_not (K := K) rfl (ae_isI call_isBool (by rfl) hB.isinstance (by decide +kernel) (ae_v (pv 0)) (pe_bltn (v := .ty "bool") (by rfl) hB.bool (by decide +kernel) rfl))) (ae_one (ae_ch oa_le oa_le (ae_v (pv 1)) (ae_v (pv 0)) (ae_v (pv 2)))))))), ?_⟩
  rintro _ m Q ⟨_, _, rfl, ⟨v, lo, hi, rfl, rfl⟩, q⟩
  cases v with
  | int i =>
    have q : Q (.im (.bool (decide (lo ≤ i) && decide (i ≤ hi)))) m := q
    simp only [startA, List.map_cons, List.map_nil, List.length_cons, List.length_nil, List.replicate, List.cons_append, List.nil_append, Nat.reduceAdd, Nat.reduceSub, Nat.zero_add, Nat.sub_self, List.getElem?_cons_zero, List.getElem?_cons_succ, Option.map_some, wRet, wRetN, wSeq, wNext, wDrop, wIfS, wAsg, wgN, wgTup, wgCons, wgNil, wPar, wOr, wAnd, Ab.wNot, wIf, wOp, wUn, wCB, wCons, wNil, wTup, wLst, wLstM, wV, wC, wB, wCh, Ab.wTru, wNotT, wAndT, wOrT, wSl, wNo, wSome, wCall, wIsI, wIsI2, wStrip, wRev, gPop, wDNew, wDNewM, wSlW, gSlW, gAddM, gTimes, itemsA, wML, wYes, gIn, gInS, gIx, gEqv, gLt, gOrd, gAdd, gMinus, gInt, gNeg, gIs, gSl, gLen, gAbs, gTwo, gI1, gApp, gExt, gTupOf, gListOf, gListM, ims, asQ, asT, asL, dat, tru, at0, at1, at2, id_eq, AV.und, keyA, Ab.isNon, wipeS, List.set_cons_zero, List.set_cons_succ, wgSub, gSt, retA, List.take_length, takeSet, takeSet2, List.foldl_cons, List.foldl_nil, List.zip_cons_cons, List.zip_nil_right, keepS_nil, keepS_cons, keepO_none, keepO_im, keepO_wl, List.length_set, List.length_append, List.set_set, true_and, any_pr, snocAt, snocTake, ims_map, ims_mapF, atD, Option.isSome_some, Option.isSome_none, if_true, if_false, Bool.false_eq_true, ite_true, ite_false, Gd.isInt, Gd.isBool]
    cases c : decide (lo ≤ i) with
    | false => rw [c, Bool.false_and] at q; simpa [startA, List.map_cons, List.map_nil, List.length_cons, List.length_nil, List.replicate, List.cons_append, List.nil_append, Nat.reduceAdd, Nat.reduceSub, Nat.zero_add, Nat.sub_self, List.getElem?_cons_zero, List.getElem?_cons_succ, Option.map_some, wRet, wRetN, wSeq, wNext, wDrop, wIfS, wAsg, wgN, wgTup, wgCons, wgNil, wPar, wOr, wAnd, Ab.wNot, wIf, wOp, wUn, wCB, wCons, wNil, wTup, wLst, wLstM, wV, wC, wB, wCh, Ab.wTru, wNotT, wAndT, wOrT, wSl, wNo, wSome, wCall, wIsI, wIsI2, wStrip, wRev, gPop, wDNew, wDNewM, wSlW, gSlW, gAddM, gTimes, itemsA, wML, wYes, gIn, gInS, gIx, gEqv, gLt, gOrd, gAdd, gMinus, gInt, gNeg, gIs, gSl, gLen, gAbs, gTwo, gI1, gApp, gExt, gTupOf, gListOf, gListM, ims, asQ, asT, asL, dat, tru, at0, at1, at2, id_eq, AV.und, keyA, Ab.isNon, wipeS, List.set_cons_zero, List.set_cons_succ, wgSub, gSt, retA, List.take_length, takeSet, takeSet2, List.foldl_cons, List.foldl_nil, List.zip_cons_cons, List.zip_nil_right, keepS_nil, keepS_cons, keepO_none, keepO_im, keepO_wl, List.length_set, List.length_append, List.set_set, true_and, any_pr, snocAt, snocTake, ims_map, ims_mapF, atD, Option.isSome_some, Option.isSome_none, if_true, if_false, Bool.false_eq_true, ite_true, ite_false] using q
    | true => rw [c, Bool.true_and] at q; simpa [startA, List.map_cons, List.map_nil, List.length_cons, List.length_nil, List.replicate, List.cons_append, List.nil_append, Nat.reduceAdd, Nat.reduceSub, Nat.zero_add, Nat.sub_self, List.getElem?_cons_zero, List.getElem?_cons_succ, Option.map_some, wRet, wRetN, wSeq, wNext, wDrop, wIfS, wAsg, wgN, wgTup, wgCons, wgNil, wPar, wOr, wAnd, Ab.wNot, wIf, wOp, wUn, wCB, wCons, wNil, wTup, wLst, wLstM, wV, wC, wB, wCh, Ab.wTru, wNotT, wAndT, wOrT, wSl, wNo, wSome, wCall, wIsI, wIsI2, wStrip, wRev, gPop, wDNew, wDNewM, wSlW, gSlW, gAddM, gTimes, itemsA, wML, wYes, gIn, gInS, gIx, gEqv, gLt, gOrd, gAdd, gMinus, gInt, gNeg, gIs, gSl, gLen, gAbs, gTwo, gI1, gApp, gExt, gTupOf, gListOf, gListM, ims, asQ, asT, asL, dat, tru, at0, at1, at2, id_eq, AV.und, keyA, Ab.isNon, wipeS, List.set_cons_zero, List.set_cons_succ, wgSub, gSt, retA, List.take_length, takeSet, takeSet2, List.foldl_cons, List.foldl_nil, List.zip_cons_cons, List.zip_nil_right, keepS_nil, keepS_cons, keepO_none, keepO_im, keepO_wl, List.length_set, List.length_append, List.set_set, true_and, any_pr, snocAt, snocTake, ims_map, ims_mapF, atD, Option.isSome_some, Option.isSome_none, if_true, if_false, Bool.false_eq_true, ite_true, ite_false] using q
  | _ => simp only [startA, List.map_cons, List.map_nil, List.length_cons, List.length_nil, List.replicate, List.cons_append, List.nil_append, Nat.reduceAdd, Nat.reduceSub, Nat.zero_add, Nat.sub_self, List.getElem?_cons_zero, List.getElem?_cons_succ, Option.map_some, wRet, wRetN, wSeq, wNext, wDrop, wIfS, wAsg, wgN, wgTup, wgCons, wgNil, wPar, wOr, wAnd, Ab.wNot, wIf, wOp, wUn, wCB, wCons, wNil, wTup, wLst, wLstM, wV, wC, wB, wCh, Ab.wTru, wNotT, wAndT, wOrT, wSl, wNo, wSome, wCall, wIsI, wIsI2, wStrip, wRev, gPop, wDNew, wDNewM, wSlW, gSlW, gAddM, gTimes, itemsA, wML, wYes, gIn, gInS, gIx, gEqv, gLt, gOrd, gAdd, gMinus, gInt, gNeg, gIs, gSl, gLen, gAbs, gTwo, gI1, gApp, gExt, gTupOf, gListOf, gListM, ims, asQ, asT, asL, dat, tru, at0, at1, at2, id_eq, AV.und, keyA, Ab.isNon, wipeS, List.set_cons_zero, List.set_cons_succ, wgSub, gSt, retA, List.take_length, takeSet, takeSet2, List.foldl_cons, List.foldl_nil, List.zip_cons_cons, List.zip_nil_right, keepS_nil, keepS_cons, keepO_none, keepO_im, keepO_wl, List.length_set, List.length_append, List.set_set, true_and, any_pr, snocAt, snocTake, ims_map, ims_mapF, atD, Option.isSome_some, Option.isSome_none, if_true, if_false, Bool.false_eq_true, ite_true, ite_false, Gd.isInt, Gd.isBool, Bool.not_true]; exact q
theorem plain_ok {z : Str} (h : ∀ c ∈ z.cps.toList, c < 128) : okS z := by
  show PyData.strOk z = true
  unfold PyData.strOk
  rw [Array.all_eq_true']
  intro c hc
  have := h c (by simpa using hc)
  simp only [decide_eq_true_eq]
  omega
theorem letter_in (c : Nat) : ("abcdefghijklmnopqrstuvwxyz" : Str).cps.contains c = isLet c := by
  have e : ("abcdefghijklmnopqrstuvwxyz" : Str).cps.toList = (List.range 26).map (· + 97) := by decide +kernel
  rw [Bool.eq_iff_iff, Array.contains_iff_mem, ← Array.mem_toList_iff, e]
  unfold isLet
  simp only [List.mem_map, List.mem_range, Bool.and_eq_true, decide_eq_true_eq]
  constructor
  · rintro ⟨a, h, rfl⟩; omega
  · intro h; exact ⟨c - 97, by omega, by omega⟩
theorem take_all {α : Type} (g : α → Bool) : ∀ l : List α, l.all g = true → (l.takeWhile g).length = l.length
  | [], _ => rfl
  | x :: r, h => by
    rw [List.all_cons, Bool.and_eq_true] at h
    rw [List.takeWhile_cons, if_pos h.1, List.length_cons, take_all g r h.2, List.length_cons]
theorem take_some {α : Type} (g : α → Bool) : ∀ l : List α, l.all g = false → ∃ c r, g c = false ∧ l.drop (l.takeWhile g).length = c :: r ∧ l.length = (l.takeWhile g).length + 1 + r.length
  | [], h => by cases h
  | x :: r, h => by
    rw [List.all_cons, Bool.and_eq_false_iff] at h
    cases c : g x with
    | false =>
      rw [List.takeWhile_cons, if_neg (by rw [c]; simp)]
      exact ⟨x, r, c, rfl, by simp; omega⟩
    | true =>
      obtain ⟨d, t, h1, h2, h3⟩ := take_some g r (h.resolve_left fun z => by rw [c] at z; cases z)
      rw [List.takeWhile_cons, if_pos c]
      exact ⟨d, t, h1, by simpa using h2, by simp only [List.length_cons]; omega⟩
theorem take_less {α : Type} (g : α → Bool) : ∀ (l : List α) (c : α), g c = false → ((l ++ [c]).takeWhile g).length ≤ l.length
  | [], c, h => by simp [List.takeWhile_cons, h]
  | x :: r, c, h => by
    rw [List.cons_append, List.takeWhile_cons]
    split
    · have := take_less g r c h
      simp only [List.length_cons]; omega
    · simp
theorem strip_all (x : Str) : decide (Txt.stripChars x "abcdefghijklmnopqrstuvwxyz" = "") = x.cps.toList.all isLet := by
  have g : ("abcdefghijklmnopqrstuvwxyz" : Str).cps.contains = isLet := funext letter_in
  have e : Txt.stripChars x "abcdefghijklmnopqrstuvwxyz" = Builtin.Str.strSub x (stripLo isLet true x) (stripHi isLet true x (stripLo isLet true x)) := by
    rw [← g]; exact PyProof.Rows.stripBy_eq _ _ _ _
  have lo : stripLo isLet true x = (x.cps.toList.takeWhile isLet).length := rfl
  have hi : stripHi isLet true x (stripLo isLet true x) = x.length - ((x.cps.toList.drop (x.cps.toList.takeWhile isLet).length).reverse.takeWhile isLet).length := rfl
  have sz : x.cps.toList.length = x.length := Array.length_toList
  have emp : ∀ i j, Builtin.Str.strSub x i j = "" ↔ min j x.length - i = 0 := fun i j => by
    have : (Builtin.Str.strSub x i j).cps.size = min j x.length - i := Array.size_extract
    constructor
    · intro h; rw [h] at this; exact this.symm
    · intro h
      rw [h] at this
      have e2 := Array.eq_empty_of_size_eq_zero this
      show (⟨(Builtin.Str.strSub x i j).cps⟩ : Str) = ""
      rw [e2]; rfl
  rw [Bool.eq_iff_iff, decide_eq_true_eq, e, emp, hi, lo]
  cases c : x.cps.toList.all isLet with
  | true =>
    have := take_all isLet _ c
    simp only [iff_true]
    omega
  | false =>
    obtain ⟨d, r, h1, h2, h3⟩ := take_some isLet _ c
    rw [h2, List.reverse_cons]
    have := take_less isLet r.reverse d h1
    rw [List.length_reverse] at this
    simp only [Bool.false_eq_true, iff_false]
    omega
theorem ok_l_is_name (hB : Bs mg t1 t2) (D : Defd K mg "_law_is_name" s_l_is_name) : Callee P w K mg base CX0 1 "_law_is_name" ["_law_thing"] (lift aIsName) := by
  refine okA D sc_l_is_name (fun _ _ _ _ _ _ us hl => match us, hl with | [_], _ => rfl) (fun ds m Q EA ⟨xs, d, e, ⟨_, h, _⟩, _⟩ => by rw [e, h]; rfl) fun f cdv A outer s H E B hgu hr => ?_
  refine ⟨_, _, (ss_one (s_ret (ae_and (K := K) rfl (ae_isI call_isStr (by rfl) hB.isinstance (by decide +kernel) (ae_v (pv 0)) (pe_bltn (v := .ty "str") (by rfl) hB.str (by decide +kernel) rfl)) (ae_and (K := K) rfl (ae_ch (oa_lt hr) (oa_lt hr) ae_int (ae_callB ca_len (by rfl) hB.len PySem.boot_len (al_cons (ae_v (pv 0)) al_nil)) ae_int) (ae_one (ae_cmp (oa_eq hr) (ae_strip (ae_v (pv 0)) ae_str) ae_str (nomark _))))))), ?_⟩
  rintro _ m Q ⟨_, _, rfl, ⟨v, rfl, hx, rfl⟩, q⟩
  cases v with
  | str x =>
    have hx := hx x rfl
    have q : Q (.im (.bool (decide (1 ≤ x.length) && (decide (x.length ≤ 8) && x.cps.toList.all isLet)))) m := q
    have h1 : decide ((0 : Int) < (x.length : Int)) = decide (1 ≤ x.length) := by rw [decide_eq_decide]; omega
    have h2 : decide ((x.length : Int) < 9) = decide (x.length ≤ 8) := by rw [decide_eq_decide]; omega
    simp only [startA, List.map_cons, List.map_nil, List.length_cons, List.length_nil, List.replicate, List.cons_append, List.nil_append, Nat.reduceAdd, Nat.reduceSub, Nat.zero_add, Nat.sub_self, List.getElem?_cons_zero, List.getElem?_cons_succ, Option.map_some, wRet, wRetN, wSeq, wNext, wDrop, wIfS, wAsg, wgN, wgTup, wgCons, wgNil, wPar, wOr, wAnd, Ab.wNot, wIf, wOp, wUn, wCB, wCons, wNil, wTup, wLst, wLstM, wV, wC, wB, wCh, Ab.wTru, wNotT, wAndT, wOrT, wSl, wNo, wSome, wCall, wIsI, wIsI2, wStrip, wRev, gPop, wDNew, wDNewM, wSlW, gSlW, gAddM, gTimes, itemsA, wML, wYes, gIn, gInS, gIx, gEqv, gLt, gOrd, gAdd, gMinus, gInt, gNeg, gIs, gSl, gLen, gAbs, gTwo, gI1, gApp, gExt, gTupOf, gListOf, gListM, ims, asQ, asT, asL, dat, tru, at0, at1, at2, id_eq, AV.und, keyA, Ab.isNon, wipeS, List.set_cons_zero, List.set_cons_succ, wgSub, gSt, retA, List.take_length, takeSet, takeSet2, List.foldl_cons, List.foldl_nil, List.zip_cons_cons, List.zip_nil_right, keepS_nil, keepS_cons, keepO_none, keepO_im, keepO_wl, List.length_set, List.length_append, List.set_set, true_and, any_pr, snocAt, snocTake, ims_map, ims_mapF, atD, Option.isSome_some, Option.isSome_none, if_true, if_false, Bool.false_eq_true, ite_true, ite_false, isStr, h1, h2, wStrip]
    refine ⟨by rw [sizeLine_eq]; omega, ?_⟩
    have es : decide (Txt.stripChars x (Str.ofString "abcdefghijklmnopqrstuvwxyz") = Str.ofString "") = x.cps.toList.all isLet := strip_all x
    rw [es]
    cases c1 : decide (1 ≤ x.length) with
    | false => rw [c1, Bool.false_and] at q; simpa using q
    | true =>
      cases c2 : decide (x.length ≤ 8) with
      | false => rw [c1, c2, Bool.false_and, Bool.and_false] at q; simpa using q
      | true =>
        rw [c1, c2, Bool.true_and, Bool.true_and] at q
        simp only [if_true]
        exact ⟨by rw [sizeLine_eq]; omega, q⟩
  | _ => simp only [startA, List.map_cons, List.map_nil, List.length_cons, List.length_nil, List.replicate, List.cons_append, List.nil_append, Nat.reduceAdd, Nat.reduceSub, Nat.zero_add, Nat.sub_self, List.getElem?_cons_zero, List.getElem?_cons_succ, Option.map_some, wRet, wRetN, wSeq, wNext, wDrop, wIfS, wAsg, wgN, wgTup, wgCons, wgNil, wPar, wOr, wAnd, Ab.wNot, wIf, wOp, wUn, wCB, wCons, wNil, wTup, wLst, wLstM, wV, wC, wB, wCh, Ab.wTru, wNotT, wAndT, wOrT, wSl, wNo, wSome, wCall, wIsI, wIsI2, wStrip, wRev, gPop, wDNew, wDNewM, wSlW, gSlW, gAddM, gTimes, itemsA, wML, wYes, gIn, gInS, gIx, gEqv, gLt, gOrd, gAdd, gMinus, gInt, gNeg, gIs, gSl, gLen, gAbs, gTwo, gI1, gApp, gExt, gTupOf, gListOf, gListM, ims, asQ, asT, asL, dat, tru, at0, at1, at2, id_eq, AV.und, keyA, Ab.isNon, wipeS, List.set_cons_zero, List.set_cons_succ, wgSub, gSt, retA, List.take_length, takeSet, takeSet2, List.foldl_cons, List.foldl_nil, List.zip_cons_cons, List.zip_nil_right, keepS_nil, keepS_cons, keepO_none, keepO_im, keepO_wl, List.length_set, List.length_append, List.set_set, true_and, any_pr, snocAt, snocTake, ims_map, ims_mapF, atD, Option.isSome_some, Option.isSome_none, if_true, if_false, Bool.false_eq_true, ite_true, ite_false, isStr]; exact q
theorem eqv_strs : ∀ ss ms : List Str, PyData.eqvAll (ss.map .str) (ms.map .str) = decide (ss = ms)
  | [], [] => by simp [PyData.eqvAll]
  | [], _ :: _ => by simp [PyData.eqvAll]
  | _ :: _, [] => by simp [PyData.eqvAll]
  | x :: r, y :: t => by
    rw [List.map_cons, List.map_cons]
    simp only [PyData.eqvAll, eqv_strs r t, PyData.eqv]
    by_cases h1 : x = y <;> by_cases h2 : r = t <;> simp [h1, h2]
theorem asc_same {ss ms : List Str} (hm : Asc ms) (mem : ∀ k, k ∈ ms ↔ k ∈ ss) : decide (ss = ms) = ascB ss := by
  rw [Bool.eq_iff_iff, decide_eq_true_eq, ascB_iff]
  constructor
  · intro h; rw [h]; exact hm
  · intro h
    refine List.Perm.eq_of_pairwise (le := sLt) (fun a b _ _ h1 h2 => absurd (sLt.tr h1 h2) (fun z => z.ne rfl)) h hm ?_
    exact (List.perm_ext_iff_of_nodup h.nodup hm.nodup).mpr fun a => (mem a).symm
theorem wordB_ok {s : Str} (h : wordB (.str s) = true) : okS s := by
  have h : (decide (1 ≤ s.length) && (decide (s.length ≤ 8) && s.cps.toList.all isLet)) = true := h
  rw [Bool.and_eq_true, Bool.and_eq_true] at h
  refine plain_ok fun c hc => ?_
  have := List.all_eq_true.mp h.2.2 c hc
  unfold isLet at this
  rw [Bool.and_eq_true, decide_eq_true_eq, decide_eq_true_eq] at this
  omega
theorem pairs_few : ∀ xs : List PyData, (∀ x ∈ xs, pairB x = true) → 44 * xs.length ≤ wts xs
  | [], _ => by simp
  | x :: r, h => by
    have ih := pairs_few r fun y hy => h y (List.mem_cons_of_mem _ hy)
    obtain ⟨s, y, rfl⟩ := pair_form (h x List.mem_cons_self)
    have hx : (wordB (.str s) && priceB y) = true := h _ List.mem_cons_self
    rw [Bool.and_eq_true] at hx
    cases y with
    | int i => simp only [wts, wt, List.length_cons]; omega
    | _ => cases hx.2
def aCosts : ASp := aPure fun xs d => ∃ v, xs = [v] ∧ wt v ≤ 40000 ∧ d = .bool (pricesB v)
theorem ok_are_costs (hB : Bs mg t1 t2) (D : Defd K mg "_law_are_costs" s_are_costs) (C_law_is_name : Callee P w K mg base CX0 1 "_law_is_name" ["_law_thing"] (lift aIsName)) (C_law_is_number : Callee P w K mg base CX0 1 "_law_is_number" ["_law_thing", "_law_least", "_law_most"] (lift aIsNum)) : Callee P w K mg base CX0 2 "_law_are_costs" ["_law_thing"] (lift aCosts) := by
  refine okA D sc_are_costs (fun _ _ _ _ _ _ us hl => match us, hl with | [_], _ => rfl) (fun ds m Q EA ⟨xs, d, e, ⟨_, h, _⟩, _⟩ => by rw [e, h]; rfl) fun f cdv A outer s H E B hgu hr => ?_
  refine ⟨_, _, (ss_cons (s_if (at_not (at_tru (K := K) rfl (ae_isI call_isTup (by rfl) hB.isinstance (by decide +kernel) (ae_v (pv 0)) (pe_bltn (v := .ty "tuple") (by rfl) hB.tuple (by decide +kernel) rfl)))) (ss_one (s_ret ae_bl)) ss_nil)
        (ss_cons (s_set (i := 1) sc_are_costs.nd rfl (.inl rfl) (ae_lstM al_nil))
        (ss_cons (s_for PassesOwn.never rfl (ai_any (K := K) rfl (ae_v (pv 0))) (g_name (pg_name (i := 2) sc_are_costs.nd rfl (.inl rfl))) (ss_cons (s_if (AW.at (aw_or (at_not (at_tru (K := K) rfl (ae_isI call_isTup (by rfl) hB.isinstance (by decide +kernel) (ae_v (pv 2)) (pe_bltn (v := .ty "tuple") (by rfl) hB.tuple (by decide +kernel) rfl)))) (aw_or (at_cmp (oa_ne hr) (ae_callB ca_len (by rfl) hB.len PySem.boot_len (al_cons (ae_v (pv 2)) al_nil)) ae_int (nomark _)) (aw_or1 (at_not (at_tru (K := K) rfl (ae_call C_law_is_name hgu (hr.mono (by omega)) (by rfl) pass0 (al_cons (ae_ix hr (ae_v (pv 2)) ae_int (fun _ _ => rfl)) al_nil)))))))) (ss_one (s_ret ae_bl)) ss_nil)
        (ss_cons (s_if (at_not (at_tru (K := K) rfl (ae_call C_law_is_number hgu (hr.mono (by omega)) (by rfl) pass0 (al_cons (ae_ix hr (ae_v (pv 2)) ae_int (fun _ _ => rfl)) (al_cons ae_int (al_cons (ae_op oa_pow ae_int ae_int) al_nil)))))) (ss_one (s_ret ae_bl)) ss_nil)
        (ss_one (s_expr (ae_ml (K := K) PySem.F.plainAttrs_list PySem.F.slot_list_append PySem.F.type_list_append ma_append (ae_v (pv 1)) (al_cons (ae_ix hr (ae_v (pv 2)) ae_int (fun _ _ => rfl)) al_nil)))))))
        (ss_one (s_ret (ae_cmp (oa_eq hr) (ae_v (pv 1)) (ae_sortSetS (K := K) rfl rfl rfl rfl hr (by rfl) hB.sorted (by rfl) hB.set (al_cons (ae_v (pv 1)) al_nil)) (nomark _))))))), ?_⟩
  rintro _ m Q ⟨_, _, rfl, ⟨v, rfl, wv, rfl⟩, q⟩
  refine wSeq_of fun N1 n1 => ?_
  cases v with
  | tuple xs =>
    have q : Q (.im (.bool (xs.all pairB && ascB (xs.map firstS)))) m := q
    have wx : wts xs + 1 ≤ 40000 := wv
    simp only [startA, List.map_cons, List.map_nil, List.length_cons, List.length_nil, List.replicate, List.cons_append, List.nil_append, Nat.reduceAdd, Nat.reduceSub, Nat.zero_add, Nat.sub_self, List.getElem?_cons_zero, List.getElem?_cons_succ, Option.map_some, wRet, wRetN, wSeq, wNext, wDrop, wIfS, wAsg, wgN, wgTup, wgCons, wgNil, wPar, wOr, wAnd, Ab.wNot, wIf, wOp, wUn, wCB, wCons, wNil, wTup, wLst, wLstM, wV, wC, wB, wCh, Ab.wTru, wNotT, wAndT, wOrT, wSl, wNo, wSome, wCall, wIsI, wIsI2, wStrip, wRev, gPop, wDNew, wDNewM, wSlW, gSlW, gAddM, gTimes, itemsA, wML, wYes, gIn, gInS, gIx, gEqv, gLt, gOrd, gAdd, gMinus, gInt, gNeg, gIs, gSl, gLen, gAbs, gTwo, gI1, gApp, gExt, gTupOf, gListOf, gListM, ims, asQ, asT, asL, dat, tru, at0, at1, at2, id_eq, AV.und, keyA, Ab.isNon, wipeS, List.set_cons_zero, List.set_cons_succ, wgSub, gSt, retA, List.take_length, takeSet, takeSet2, List.foldl_cons, List.foldl_nil, List.zip_cons_cons, List.zip_nil_right, keepS_nil, keepS_cons, keepO_none, keepO_im, keepO_wl, List.length_set, List.length_append, List.set_set, true_and, any_pr, snocAt, snocTake, ims_map, ims_mapF, atD, Option.isSome_some, Option.isSome_none, if_true, if_false, Bool.false_eq_true, ite_true, ite_false, isTup, Bool.not_true]
    refine n1 _ _ ?_
    clear n1
    refine wSeq_of fun N2 n2 => ?_
    simp only [startA, List.map_cons, List.map_nil, List.length_cons, List.length_nil, List.replicate, List.cons_append, List.nil_append, Nat.reduceAdd, Nat.reduceSub, Nat.zero_add, Nat.sub_self, List.getElem?_cons_zero, List.getElem?_cons_succ, Option.map_some, wRet, wRetN, wSeq, wNext, wDrop, wIfS, wAsg, wgN, wgTup, wgCons, wgNil, wPar, wOr, wAnd, Ab.wNot, wIf, wOp, wUn, wCB, wCons, wNil, wTup, wLst, wLstM, wV, wC, wB, wCh, Ab.wTru, wNotT, wAndT, wOrT, wSl, wNo, wSome, wCall, wIsI, wIsI2, wStrip, wRev, gPop, wDNew, wDNewM, wSlW, gSlW, gAddM, gTimes, itemsA, wML, wYes, gIn, gInS, gIx, gEqv, gLt, gOrd, gAdd, gMinus, gInt, gNeg, gIs, gSl, gLen, gAbs, gTwo, gI1, gApp, gExt, gTupOf, gListOf, gListM, ims, asQ, asT, asL, dat, tru, at0, at1, at2, id_eq, AV.und, keyA, Ab.isNon, wipeS, List.set_cons_zero, List.set_cons_succ, wgSub, gSt, retA, List.take_length, takeSet, takeSet2, List.foldl_cons, List.foldl_nil, List.zip_cons_cons, List.zip_nil_right, keepS_nil, keepS_cons, keepO_none, keepO_im, keepO_wl, List.length_set, List.length_append, List.set_set, true_and, any_pr, snocAt, snocTake, ims_map, ims_mapF, atD, Option.isSome_some, Option.isSome_none, if_true, if_false, Bool.false_eq_true, ite_true, ite_false]
    refine ⟨by decide, n2 _ _ ?_⟩
    clear n2
    refine wSeq_of fun N3 n3 => ?_
    refine wFor_of fun B1 b1 => ?_
    simp only [startA, List.map_cons, List.map_nil, List.length_cons, List.length_nil, List.replicate, List.cons_append, List.nil_append, Nat.reduceAdd, Nat.reduceSub, Nat.zero_add, Nat.sub_self, List.getElem?_cons_zero, List.getElem?_cons_succ, Option.map_some, wRet, wRetN, wSeq, wNext, wDrop, wIfS, wAsg, wgN, wgTup, wgCons, wgNil, wPar, wOr, wAnd, Ab.wNot, wIf, wOp, wUn, wCB, wCons, wNil, wTup, wLst, wLstM, wV, wC, wB, wCh, Ab.wTru, wNotT, wAndT, wOrT, wSl, wNo, wSome, wCall, wIsI, wIsI2, wStrip, wRev, gPop, wDNew, wDNewM, wSlW, gSlW, gAddM, gTimes, itemsA, wML, wYes, gIn, gInS, gIx, gEqv, gLt, gOrd, gAdd, gMinus, gInt, gNeg, gIs, gSl, gLen, gAbs, gTwo, gI1, gApp, gExt, gTupOf, gListOf, gListM, ims, asQ, asT, asL, dat, tru, at0, at1, at2, id_eq, AV.und, keyA, Ab.isNon, wipeS, List.set_cons_zero, List.set_cons_succ, wgSub, gSt, retA, List.take_length, takeSet, takeSet2, List.foldl_cons, List.foldl_nil, List.zip_cons_cons, List.zip_nil_right, keepS_nil, keepS_cons, keepO_none, keepO_im, keepO_wl, List.length_set, List.length_append, List.set_set, true_and, any_pr, snocAt, snocTake, ims_map, ims_mapF, atD, Option.isSome_some, Option.isSome_none, if_true, if_false, Bool.false_eq_true, ite_true, ite_false, wiAny]
    have L0 : ∀ c : Cell, (m ++ [c])[m.length]? = some c := fun c => getEnd rfl _
    have S0 : ∀ c c' : Cell, (m ++ [c]).set m.length c' = m ++ [c'] := fun c c' => setEnd rfl _
    refine for_inv (fun ys ρ m' => ∃ d r o2, xs = d ++ r ∧ ys = r.map .im ∧ (∀ x ∈ d, pairB x = true) ∧ m' = m ++ [.lst (((d.map firstS).map PyData.str).map .im)] ∧ ρ = [some (.im (.tuple xs)), some (.mu m.length), o2]) (fun _ _ _ _ => trivial) ?_ ?_ ⟨[], xs, _, rfl, rfl, (fun _ h => by cases h), rfl, rfl⟩
    · rintro x ys ρ m' nx ⟨d, r, o2, e, ey, hd, rfl, rfl⟩ next
      obtain ⟨x, r, rfl, rfl, rfl⟩ : ∃ a r', r = a :: r' ∧ x = .im a ∧ ys = r'.map .im := by
        cases r with
        | nil => cases ey
        | cons t l' => simp only [List.map_cons, List.cons.injEq] at ey; exact ⟨t, l', rfl, ey.1, ey.2⟩
      have hx : x ∈ xs := by rw [e]; simp
      have bad : pairB x = false → Q (.im (.bool false)) m := fun h => by
        have : xs.all pairB = false := by
          rw [List.all_eq_false]
          exact ⟨x, hx, by rw [h]; simp⟩
        rw [this, Bool.false_and] at q
        exact q
      have smx : wt x ≤ 40000 := by have := wts_mem hx; omega
      refine b1 _ _ _ _ ?_
      refine wSeq_of fun N4 n4 => ?_
      cases x with
      | tuple zs =>
        by_cases h2 : zs.length = 2
        · match zs, h2 with
          | [a, b], _ =>
          have a0 : L2.atI [a, b] 0 = some a := atI_nat (j := 0) rfl
          have a1 : L2.atI [a, b] 1 = some b := atI_nat (j := 1) rfl
          have bad2 : (wordB a && priceB b) = false → Q (.im (.bool false)) m := bad
          have e2 : decide (((2 : Nat) : Int) = 2) = true := by decide
          have wa : wt a ≤ 40000 := by simp only [wt, wts] at smx; omega
          simp only [startA, List.map_cons, List.map_nil, List.length_cons, List.length_nil, List.replicate, List.cons_append, List.nil_append, Nat.reduceAdd, Nat.reduceSub, Nat.zero_add, Nat.sub_self, List.getElem?_cons_zero, List.getElem?_cons_succ, Option.map_some, wRet, wRetN, wSeq, wNext, wDrop, wIfS, wAsg, wgN, wgTup, wgCons, wgNil, wPar, wOr, wAnd, Ab.wNot, wIf, wOp, wUn, wCB, wCons, wNil, wTup, wLst, wLstM, wV, wC, wB, wCh, Ab.wTru, wNotT, wAndT, wOrT, wSl, wNo, wSome, wCall, wIsI, wIsI2, wStrip, wRev, gPop, wDNew, wDNewM, wSlW, gSlW, gAddM, gTimes, itemsA, wML, wYes, gIn, gInS, gIx, gEqv, gLt, gOrd, gAdd, gMinus, gInt, gNeg, gIs, gSl, gLen, gAbs, gTwo, gI1, gApp, gExt, gTupOf, gListOf, gListM, ims, asQ, asT, asL, dat, tru, at0, at1, at2, id_eq, AV.und, keyA, Ab.isNon, wipeS, List.set_cons_zero, List.set_cons_succ, wgSub, gSt, retA, List.take_length, takeSet, takeSet2, List.foldl_cons, List.foldl_nil, List.zip_cons_cons, List.zip_nil_right, keepS_nil, keepS_cons, keepO_none, keepO_im, keepO_wl, List.length_set, List.length_append, List.set_set, true_and, any_pr, snocAt, snocTake, ims_map, ims_mapF, atD, Option.isSome_some, Option.isSome_none, if_true, if_false, Bool.false_eq_true, ite_true, ite_false, isTup, a0, a1, e2, Bool.not_true]
          refine ⟨[a], _, rfl, ⟨a, rfl, fun z e => by subst e; simp only [wt] at wa; omega, rfl⟩, ?_⟩
          cases c : wordB a with
          | false => simpa [startA, List.map_cons, List.map_nil, List.length_cons, List.length_nil, List.replicate, List.cons_append, List.nil_append, Nat.reduceAdd, Nat.reduceSub, Nat.zero_add, Nat.sub_self, List.getElem?_cons_zero, List.getElem?_cons_succ, Option.map_some, wRet, wRetN, wSeq, wNext, wDrop, wIfS, wAsg, wgN, wgTup, wgCons, wgNil, wPar, wOr, wAnd, Ab.wNot, wIf, wOp, wUn, wCB, wCons, wNil, wTup, wLst, wLstM, wV, wC, wB, wCh, Ab.wTru, wNotT, wAndT, wOrT, wSl, wNo, wSome, wCall, wIsI, wIsI2, wStrip, wRev, gPop, wDNew, wDNewM, wSlW, gSlW, gAddM, gTimes, itemsA, wML, wYes, gIn, gInS, gIx, gEqv, gLt, gOrd, gAdd, gMinus, gInt, gNeg, gIs, gSl, gLen, gAbs, gTwo, gI1, gApp, gExt, gTupOf, gListOf, gListM, ims, asQ, asT, asL, dat, tru, at0, at1, at2, id_eq, AV.und, keyA, Ab.isNon, wipeS, List.set_cons_zero, List.set_cons_succ, wgSub, gSt, retA, List.take_length, takeSet, takeSet2, List.foldl_cons, List.foldl_nil, List.zip_cons_cons, List.zip_nil_right, keepS_nil, keepS_cons, keepO_none, keepO_im, keepO_wl, List.length_set, List.length_append, List.set_set, true_and, any_pr, snocAt, snocTake, ims_map, ims_mapF, atD, Option.isSome_some, Option.isSome_none, if_true, if_false, Bool.false_eq_true, ite_true, ite_false] using bad2 (by rw [c]; rfl)
          | true =>
            simp only [startA, List.map_cons, List.map_nil, List.length_cons, List.length_nil, List.replicate, List.cons_append, List.nil_append, Nat.reduceAdd, Nat.reduceSub, Nat.zero_add, Nat.sub_self, List.getElem?_cons_zero, List.getElem?_cons_succ, Option.map_some, wRet, wRetN, wSeq, wNext, wDrop, wIfS, wAsg, wgN, wgTup, wgCons, wgNil, wPar, wOr, wAnd, Ab.wNot, wIf, wOp, wUn, wCB, wCons, wNil, wTup, wLst, wLstM, wV, wC, wB, wCh, Ab.wTru, wNotT, wAndT, wOrT, wSl, wNo, wSome, wCall, wIsI, wIsI2, wStrip, wRev, gPop, wDNew, wDNewM, wSlW, gSlW, gAddM, gTimes, itemsA, wML, wYes, gIn, gInS, gIx, gEqv, gLt, gOrd, gAdd, gMinus, gInt, gNeg, gIs, gSl, gLen, gAbs, gTwo, gI1, gApp, gExt, gTupOf, gListOf, gListM, ims, asQ, asT, asL, dat, tru, at0, at1, at2, id_eq, AV.und, keyA, Ab.isNon, wipeS, List.set_cons_zero, List.set_cons_succ, wgSub, gSt, retA, List.take_length, takeSet, takeSet2, List.foldl_cons, List.foldl_nil, List.zip_cons_cons, List.zip_nil_right, keepS_nil, keepS_cons, keepO_none, keepO_im, keepO_wl, List.length_set, List.length_append, List.set_set, true_and, any_pr, snocAt, snocTake, ims_map, ims_mapF, atD, Option.isSome_some, Option.isSome_none, if_true, if_false, Bool.false_eq_true, ite_true, ite_false, Bool.not_true]
            refine n4 _ _ ?_
            clear n4
            refine wSeq_of fun N5 n5 => ?_
            simp only [startA, List.map_cons, List.map_nil, List.length_cons, List.length_nil, List.replicate, List.cons_append, List.nil_append, Nat.reduceAdd, Nat.reduceSub, Nat.zero_add, Nat.sub_self, List.getElem?_cons_zero, List.getElem?_cons_succ, Option.map_some, wRet, wRetN, wSeq, wNext, wDrop, wIfS, wAsg, wgN, wgTup, wgCons, wgNil, wPar, wOr, wAnd, Ab.wNot, wIf, wOp, wUn, wCB, wCons, wNil, wTup, wLst, wLstM, wV, wC, wB, wCh, Ab.wTru, wNotT, wAndT, wOrT, wSl, wNo, wSome, wCall, wIsI, wIsI2, wStrip, wRev, gPop, wDNew, wDNewM, wSlW, gSlW, gAddM, gTimes, itemsA, wML, wYes, gIn, gInS, gIx, gEqv, gLt, gOrd, gAdd, gMinus, gInt, gNeg, gIs, gSl, gLen, gAbs, gTwo, gI1, gApp, gExt, gTupOf, gListOf, gListM, ims, asQ, asT, asL, dat, tru, at0, at1, at2, id_eq, AV.und, keyA, Ab.isNon, wipeS, List.set_cons_zero, List.set_cons_succ, wgSub, gSt, retA, List.take_length, takeSet, takeSet2, List.foldl_cons, List.foldl_nil, List.zip_cons_cons, List.zip_nil_right, keepS_nil, keepS_cons, keepO_none, keepO_im, keepO_wl, List.length_set, List.length_append, List.set_set, true_and, any_pr, snocAt, snocTake, ims_map, ims_mapF, atD, Option.isSome_some, Option.isSome_none, if_true, if_false, Bool.false_eq_true, ite_true, ite_false, a0, a1]
            have e6 : ((10 : Int) ^ (6 : Int).toNat) = 1000000 := by decide
            have en : numB 1 1000000 b = priceB b := by cases b <;> rfl
            rw [e6]
            refine ⟨⟨by decide, by decide, by decide⟩, [b, .int 1, .int 1000000], _, rfl, ⟨b, 1, 1000000, rfl, rfl⟩, ?_⟩
            rw [en]
            cases c2 : priceB b with
            | false => simpa [startA, List.map_cons, List.map_nil, List.length_cons, List.length_nil, List.replicate, List.cons_append, List.nil_append, Nat.reduceAdd, Nat.reduceSub, Nat.zero_add, Nat.sub_self, List.getElem?_cons_zero, List.getElem?_cons_succ, Option.map_some, wRet, wRetN, wSeq, wNext, wDrop, wIfS, wAsg, wgN, wgTup, wgCons, wgNil, wPar, wOr, wAnd, Ab.wNot, wIf, wOp, wUn, wCB, wCons, wNil, wTup, wLst, wLstM, wV, wC, wB, wCh, Ab.wTru, wNotT, wAndT, wOrT, wSl, wNo, wSome, wCall, wIsI, wIsI2, wStrip, wRev, gPop, wDNew, wDNewM, wSlW, gSlW, gAddM, gTimes, itemsA, wML, wYes, gIn, gInS, gIx, gEqv, gLt, gOrd, gAdd, gMinus, gInt, gNeg, gIs, gSl, gLen, gAbs, gTwo, gI1, gApp, gExt, gTupOf, gListOf, gListM, ims, asQ, asT, asL, dat, tru, at0, at1, at2, id_eq, AV.und, keyA, Ab.isNon, wipeS, List.set_cons_zero, List.set_cons_succ, wgSub, gSt, retA, List.take_length, takeSet, takeSet2, List.foldl_cons, List.foldl_nil, List.zip_cons_cons, List.zip_nil_right, keepS_nil, keepS_cons, keepO_none, keepO_im, keepO_wl, List.length_set, List.length_append, List.set_set, true_and, any_pr, snocAt, snocTake, ims_map, ims_mapF, atD, Option.isSome_some, Option.isSome_none, if_true, if_false, Bool.false_eq_true, ite_true, ite_false] using bad2 (by rw [c2, Bool.and_false])
            | true =>
              simp only [startA, List.map_cons, List.map_nil, List.length_cons, List.length_nil, List.replicate, List.cons_append, List.nil_append, Nat.reduceAdd, Nat.reduceSub, Nat.zero_add, Nat.sub_self, List.getElem?_cons_zero, List.getElem?_cons_succ, Option.map_some, wRet, wRetN, wSeq, wNext, wDrop, wIfS, wAsg, wgN, wgTup, wgCons, wgNil, wPar, wOr, wAnd, Ab.wNot, wIf, wOp, wUn, wCB, wCons, wNil, wTup, wLst, wLstM, wV, wC, wB, wCh, Ab.wTru, wNotT, wAndT, wOrT, wSl, wNo, wSome, wCall, wIsI, wIsI2, wStrip, wRev, gPop, wDNew, wDNewM, wSlW, gSlW, gAddM, gTimes, itemsA, wML, wYes, gIn, gInS, gIx, gEqv, gLt, gOrd, gAdd, gMinus, gInt, gNeg, gIs, gSl, gLen, gAbs, gTwo, gI1, gApp, gExt, gTupOf, gListOf, gListM, ims, asQ, asT, asL, dat, tru, at0, at1, at2, id_eq, AV.und, keyA, Ab.isNon, wipeS, List.set_cons_zero, List.set_cons_succ, wgSub, gSt, retA, List.take_length, takeSet, takeSet2, List.foldl_cons, List.foldl_nil, List.zip_cons_cons, List.zip_nil_right, keepS_nil, keepS_cons, keepO_none, keepO_im, keepO_wl, List.length_set, List.length_append, List.set_set, true_and, any_pr, snocAt, snocTake, ims_map, ims_mapF, atD, Option.isSome_some, Option.isSome_none, if_true, if_false, Bool.false_eq_true, ite_true, ite_false, Bool.not_true]
              refine n5 _ _ ?_
              clear n5
              simp only [startA, List.map_cons, List.map_nil, List.length_cons, List.length_nil, List.replicate, List.cons_append, List.nil_append, Nat.reduceAdd, Nat.reduceSub, Nat.zero_add, Nat.sub_self, List.getElem?_cons_zero, List.getElem?_cons_succ, Option.map_some, wRet, wRetN, wSeq, wNext, wDrop, wIfS, wAsg, wgN, wgTup, wgCons, wgNil, wPar, wOr, wAnd, Ab.wNot, wIf, wOp, wUn, wCB, wCons, wNil, wTup, wLst, wLstM, wV, wC, wB, wCh, Ab.wTru, wNotT, wAndT, wOrT, wSl, wNo, wSome, wCall, wIsI, wIsI2, wStrip, wRev, gPop, wDNew, wDNewM, wSlW, gSlW, gAddM, gTimes, itemsA, wML, wYes, gIn, gInS, gIx, gEqv, gLt, gOrd, gAdd, gMinus, gInt, gNeg, gIs, gSl, gLen, gAbs, gTwo, gI1, gApp, gExt, gTupOf, gListOf, gListM, ims, asQ, asT, asL, dat, tru, at0, at1, at2, id_eq, AV.und, keyA, Ab.isNon, wipeS, List.set_cons_zero, List.set_cons_succ, wgSub, gSt, retA, List.take_length, takeSet, takeSet2, List.foldl_cons, List.foldl_nil, List.zip_cons_cons, List.zip_nil_right, keepS_nil, keepS_cons, keepO_none, keepO_im, keepO_wl, List.length_set, List.length_append, List.set_set, true_and, any_pr, snocAt, snocTake, ims_map, ims_mapF, atD, Option.isSome_some, Option.isSome_none, if_true, if_false, Bool.false_eq_true, ite_true, ite_false, a0, isList, L0, S0]
              have hp : pairB (.tuple [a, b]) = true := by show (wordB a && priceB b) = true; rw [c, c2]; rfl
              obtain ⟨s, y, es⟩ := pair_form hp
              simp only [PyData.tuple.injEq, List.cons.injEq] at es
              obtain ⟨rfl, rfl, _⟩ := es
              have hlen : d.length ≤ 40000 := by
                have h1 := wts_len' xs
                have h2 : d.length ≤ xs.length := by rw [e]; simp
                omega
              refine ⟨by rw [sizeLine_eq]; simp only [List.length_map]; omega, ?_⟩
              refine next _ _ ⟨d ++ [.tuple [.str s, b]], r, _, by simp [e], rfl, fun x hx => ?_, ?_, by simp only [startA, List.map_cons, List.map_nil, List.length_cons, List.length_nil, List.replicate, List.cons_append, List.nil_append, Nat.reduceAdd, Nat.reduceSub, Nat.zero_add, Nat.sub_self, List.getElem?_cons_zero, List.getElem?_cons_succ, Option.map_some, wRet, wRetN, wSeq, wNext, wDrop, wIfS, wAsg, wgN, wgTup, wgCons, wgNil, wPar, wOr, wAnd, Ab.wNot, wIf, wOp, wUn, wCB, wCons, wNil, wTup, wLst, wLstM, wV, wC, wB, wCh, Ab.wTru, wNotT, wAndT, wOrT, wSl, wNo, wSome, wCall, wIsI, wIsI2, wStrip, wRev, gPop, wDNew, wDNewM, wSlW, gSlW, gAddM, gTimes, itemsA, wML, wYes, gIn, gInS, gIx, gEqv, gLt, gOrd, gAdd, gMinus, gInt, gNeg, gIs, gSl, gLen, gAbs, gTwo, gI1, gApp, gExt, gTupOf, gListOf, gListM, ims, asQ, asT, asL, dat, tru, at0, at1, at2, id_eq, AV.und, keyA, Ab.isNon, wipeS, List.set_cons_zero, List.set_cons_succ, wgSub, gSt, retA, List.take_length, takeSet, takeSet2, List.foldl_cons, List.foldl_nil, List.zip_cons_cons, List.zip_nil_right, keepS_nil, keepS_cons, keepO_none, keepO_im, keepO_wl, List.length_set, List.length_append, List.set_set, true_and, any_pr, snocAt, snocTake, ims_map, ims_mapF, atD, Option.isSome_some, Option.isSome_none, if_true, if_false, Bool.false_eq_true, ite_true, ite_false, keepO_mu (show m.length < m.length + 1 by omega)] <;> rfl⟩
              · rcases List.mem_append.mp hx with h | h
                · exact hd x h
                · rw [List.mem_singleton.mp h]; exact hp
              · rw [List.take_of_length_le (by simp)]
                simp [firstS]
        · have e2 : decide ((zs.length : Int) = 2) = false := decide_eq_false (by omega)
          have e3 : pairB (.tuple zs) = false := by
            match zs, h2 with
            | [], _ | [_], _ | _ :: _ :: _ :: _, _ => rfl
            | [_, _], h => exact absurd rfl h
          simp only [startA, List.map_cons, List.map_nil, List.length_cons, List.length_nil, List.replicate, List.cons_append, List.nil_append, Nat.reduceAdd, Nat.reduceSub, Nat.zero_add, Nat.sub_self, List.getElem?_cons_zero, List.getElem?_cons_succ, Option.map_some, wRet, wRetN, wSeq, wNext, wDrop, wIfS, wAsg, wgN, wgTup, wgCons, wgNil, wPar, wOr, wAnd, Ab.wNot, wIf, wOp, wUn, wCB, wCons, wNil, wTup, wLst, wLstM, wV, wC, wB, wCh, Ab.wTru, wNotT, wAndT, wOrT, wSl, wNo, wSome, wCall, wIsI, wIsI2, wStrip, wRev, gPop, wDNew, wDNewM, wSlW, gSlW, gAddM, gTimes, itemsA, wML, wYes, gIn, gInS, gIx, gEqv, gLt, gOrd, gAdd, gMinus, gInt, gNeg, gIs, gSl, gLen, gAbs, gTwo, gI1, gApp, gExt, gTupOf, gListOf, gListM, ims, asQ, asT, asL, dat, tru, at0, at1, at2, id_eq, AV.und, keyA, Ab.isNon, wipeS, List.set_cons_zero, List.set_cons_succ, wgSub, gSt, retA, List.take_length, takeSet, takeSet2, List.foldl_cons, List.foldl_nil, List.zip_cons_cons, List.zip_nil_right, keepS_nil, keepS_cons, keepO_none, keepO_im, keepO_wl, List.length_set, List.length_append, List.set_set, true_and, any_pr, snocAt, snocTake, ims_map, ims_mapF, atD, Option.isSome_some, Option.isSome_none, if_true, if_false, Bool.false_eq_true, ite_true, ite_false, isTup, Bool.not_true, e2, Bool.not_false]
          exact bad e3
      | _ => simp only [startA, List.map_cons, List.map_nil, List.length_cons, List.length_nil, List.replicate, List.cons_append, List.nil_append, Nat.reduceAdd, Nat.reduceSub, Nat.zero_add, Nat.sub_self, List.getElem?_cons_zero, List.getElem?_cons_succ, Option.map_some, wRet, wRetN, wSeq, wNext, wDrop, wIfS, wAsg, wgN, wgTup, wgCons, wgNil, wPar, wOr, wAnd, Ab.wNot, wIf, wOp, wUn, wCB, wCons, wNil, wTup, wLst, wLstM, wV, wC, wB, wCh, Ab.wTru, wNotT, wAndT, wOrT, wSl, wNo, wSome, wCall, wIsI, wIsI2, wStrip, wRev, gPop, wDNew, wDNewM, wSlW, gSlW, gAddM, gTimes, itemsA, wML, wYes, gIn, gInS, gIx, gEqv, gLt, gOrd, gAdd, gMinus, gInt, gNeg, gIs, gSl, gLen, gAbs, gTwo, gI1, gApp, gExt, gTupOf, gListOf, gListM, ims, asQ, asT, asL, dat, tru, at0, at1, at2, id_eq, AV.und, keyA, Ab.isNon, wipeS, List.set_cons_zero, List.set_cons_succ, wgSub, gSt, retA, List.take_length, takeSet, takeSet2, List.foldl_cons, List.foldl_nil, List.zip_cons_cons, List.zip_nil_right, keepS_nil, keepS_cons, keepO_none, keepO_im, keepO_wl, List.length_set, List.length_append, List.set_set, true_and, any_pr, snocAt, snocTake, ims_map, ims_mapF, atD, Option.isSome_some, Option.isSome_none, if_true, if_false, Bool.false_eq_true, ite_true, ite_false, isTup, Bool.not_false]; exact bad rfl
    · rintro ρ m' ⟨d, r, o2, e, ey, hd, rfl, rfl⟩
      have er : r = [] := by cases r with | nil => rfl | cons _ _ => cases ey
      subst er
      rw [List.append_nil] at e
      subst e
      refine n3 _ _ ?_
      have hall : xs.all pairB = true := List.all_eq_true.mpr hd
      rw [hall, Bool.true_and] at q
      have few := pairs_few xs hd
      have oks : ∀ s ∈ xs.map firstS, okS s := fun s hs => by
        obtain ⟨x, hx, rfl⟩ := List.mem_map.mp hs
        have h1 := hd x hx
        obtain ⟨s, y, rfl⟩ := pair_form h1
        have h2 : (wordB (.str s) && priceB y) = true := h1
        rw [Bool.and_eq_true] at h2
        exact wordB_ok h2.1
      simp only [startA, List.map_cons, List.map_nil, List.length_cons, List.length_nil, List.replicate, List.cons_append, List.nil_append, Nat.reduceAdd, Nat.reduceSub, Nat.zero_add, Nat.sub_self, List.getElem?_cons_zero, List.getElem?_cons_succ, Option.map_some, wRet, wRetN, wSeq, wNext, wDrop, wIfS, wAsg, wgN, wgTup, wgCons, wgNil, wPar, wOr, wAnd, Ab.wNot, wIf, wOp, wUn, wCB, wCons, wNil, wTup, wLst, wLstM, wV, wC, wB, wCh, Ab.wTru, wNotT, wAndT, wOrT, wSl, wNo, wSome, wCall, wIsI, wIsI2, wStrip, wRev, gPop, wDNew, wDNewM, wSlW, gSlW, gAddM, gTimes, itemsA, wML, wYes, gIn, gInS, gIx, gEqv, gLt, gOrd, gAdd, gMinus, gInt, gNeg, gIs, gSl, gLen, gAbs, gTwo, gI1, gApp, gExt, gTupOf, gListOf, gListM, ims, asQ, asT, asL, dat, tru, at0, at1, at2, id_eq, AV.und, keyA, Ab.isNon, wipeS, List.set_cons_zero, List.set_cons_succ, wgSub, gSt, retA, List.take_length, takeSet, takeSet2, List.foldl_cons, List.foldl_nil, List.zip_cons_cons, List.zip_nil_right, keepS_nil, keepS_cons, keepO_none, keepO_im, keepO_wl, List.length_set, List.length_append, List.set_set, true_and, any_pr, snocAt, snocTake, ims_map, ims_mapF, atD, Option.isSome_some, Option.isSome_none, if_true, if_false, Bool.false_eq_true, ite_true, ite_false, L0]
      simp only [gSortSetS, asL, L0, ims_map]
      refine ⟨_, rfl, by rw [List.length_map]; omega, fun ms am mem lm => ?_⟩
      simp only [startA, List.map_cons, List.map_nil, List.length_cons, List.length_nil, List.replicate, List.cons_append, List.nil_append, Nat.reduceAdd, Nat.reduceSub, Nat.zero_add, Nat.sub_self, List.getElem?_cons_zero, List.getElem?_cons_succ, Option.map_some, wRet, wRetN, wSeq, wNext, wDrop, wIfS, wAsg, wgN, wgTup, wgCons, wgNil, wPar, wOr, wAnd, Ab.wNot, wIf, wOp, wUn, wCB, wCons, wNil, wTup, wLst, wLstM, wV, wC, wB, wCh, Ab.wTru, wNotT, wAndT, wOrT, wSl, wNo, wSome, wCall, wIsI, wIsI2, wStrip, wRev, gPop, wDNew, wDNewM, wSlW, gSlW, gAddM, gTimes, itemsA, wML, wYes, gIn, gInS, gIx, gEqv, gLt, gOrd, gAdd, gMinus, gInt, gNeg, gIs, gSl, gLen, gAbs, gTwo, gI1, gApp, gExt, gTupOf, gListOf, gListM, ims, asQ, asT, asL, dat, tru, at0, at1, at2, id_eq, AV.und, keyA, Ab.isNon, wipeS, List.set_cons_zero, List.set_cons_succ, wgSub, gSt, retA, List.take_length, takeSet, takeSet2, List.foldl_cons, List.foldl_nil, List.zip_cons_cons, List.zip_nil_right, keepS_nil, keepS_cons, keepO_none, keepO_im, keepO_wl, List.length_set, List.length_append, List.set_set, true_and, any_pr, snocAt, snocTake, ims_map, ims_mapF, atD, Option.isSome_some, Option.isSome_none, if_true, if_false, Bool.false_eq_true, ite_true, ite_false, L0]
      have lk : ∀ l : List Str, (∀ s ∈ l, okS s) → Look (.list (l.map .str)) := fun l hl => ⟨by simp only [PyData.canLay0]; exact lay_strs hl, by
        have : PyData.depthAll (l.map .str) ≤ 1 := depths_le fun x hx => by
          obtain ⟨s, _, rfl⟩ := List.mem_map.mp hx
          simp [PyData.depth]
        simp only [PyData.depth]; omega⟩
      refine .inr ⟨lk _ oks, lk _ (fun s hs => oks s ((mem s).mp hs)), ?_⟩
      have ee : (PyData.list ((xs.map firstS).map .str)).eqv (.list (ms.map .str)) = ascB (xs.map firstS) := by
        rw [← asc_same am mem, ← eqv_strs]
        simp only [PyData.eqv]
      rw [ee]
      exact q
  | _ => simp only [startA, List.map_cons, List.map_nil, List.length_cons, List.length_nil, List.replicate, List.cons_append, List.nil_append, Nat.reduceAdd, Nat.reduceSub, Nat.zero_add, Nat.sub_self, List.getElem?_cons_zero, List.getElem?_cons_succ, Option.map_some, wRet, wRetN, wSeq, wNext, wDrop, wIfS, wAsg, wgN, wgTup, wgCons, wgNil, wPar, wOr, wAnd, Ab.wNot, wIf, wOp, wUn, wCB, wCons, wNil, wTup, wLst, wLstM, wV, wC, wB, wCh, Ab.wTru, wNotT, wAndT, wOrT, wSl, wNo, wSome, wCall, wIsI, wIsI2, wStrip, wRev, gPop, wDNew, wDNewM, wSlW, gSlW, gAddM, gTimes, itemsA, wML, wYes, gIn, gInS, gIx, gEqv, gLt, gOrd, gAdd, gMinus, gInt, gNeg, gIs, gSl, gLen, gAbs, gTwo, gI1, gApp, gExt, gTupOf, gListOf, gListM, ims, asQ, asT, asL, dat, tru, at0, at1, at2, id_eq, AV.und, keyA, Ab.isNon, wipeS, List.set_cons_zero, List.set_cons_succ, wgSub, gSt, retA, List.take_length, takeSet, takeSet2, List.foldl_cons, List.foldl_nil, List.zip_cons_cons, List.zip_nil_right, keepS_nil, keepS_cons, keepO_none, keepO_im, keepO_wl, List.length_set, List.length_append, List.set_set, true_and, any_pr, snocAt, snocTake, ims_map, ims_mapF, atD, Option.isSome_some, Option.isSome_none, if_true, if_false, Bool.false_eq_true, ite_true, ite_false, isTup, Bool.not_false]; exact q
end
end K37
end

section
set_option maxRecDepth 100000
set_option maxHeartbeats 4000000
namespace K37
open PySem PySem.Spec PyProof.Rows L2 Gd Ab
abbrev s_turned : Stmt := topS 15
theorem sc_turned : FnScope ["_law_deck_here", "_law_items", "_law_left", "_law_found"] ["_law_deck_here", "_law_items"] (defScope s_turned) := ⟨rfl, rfl, rfl, by decide +kernel, rfl, by decide +kernel, by decide +kernel⟩
section
variable {P : Program} {w : World} {K : PySem.W.Frag} {mg : Str → Option Value} {base : Heap} {t1 t2 : Tok}
theorem eraseIdx_map {α β : Type} (f : α → β) : ∀ (l : List α) (i : Nat), (l.map f).eraseIdx i = (l.eraseIdx i).map f
  | [], _ => rfl
  | _ :: _, 0 => rfl
  | x :: r, i + 1 => by
    show f x :: (r.map f).eraseIdx i = f x :: (r.eraseIdx i).map f
    rw [eraseIdx_map f r i]
def aTurned : ASp := fun ds m P _ => ∃ (i n : Nat) (xs : List PyData), ds = [.mu i, .im (.tuple xs)] ∧ Dk m i n ∧ n + 1000 < 1000000 ∧ xs.length ≤ 1000 ∧ ∀ (ys : List PyData) c, (∀ y ∈ ys, y ∈ xs) → ys.length = xs.length → dkC (n + xs.length) c → P (.mu m.length) (m.set i c ++ [.lst (ys.map .im)])
theorem ok_turned (hB : Bs mg t1 t2) (D : Defd K mg "_law_turned" s_turned) (C_law_draw : Callee P w K mg base CX0 1 "_law_draw" ["_law_deck_here", "_law_many"] (lift aDraw)) : Callee P w K mg base CX0 2 "_law_turned" ["_law_deck_here", "_law_items"] (lift aTurned) := by
  refine okA D sc_turned (fun _ _ _ _ _ _ us hl => match us, hl with | [_, _], _ => rfl) (fun ds m Q EA ⟨_, _, _, e, _⟩ => by rw [e]; rfl) fun f cdv A outer s H E B hgu hr => ?_
  refine ⟨_, _, (ss_cons (s_par2 (fun e => ps_par (i := 2) (j := 3) (by rfl) sc_turned.nd rfl rfl (by decide) rfl rfl e (by rfl)) (al_cons (ae_callTy ca_listM (by rfl) hB.list (by decide +kernel) (al_cons (ae_v (pv 1)) al_nil)) (al_cons (ae_lstM al_nil) al_nil)))
        (ss_cons (s_while PassesOwn.never (at_cmp (oa_ne hr) (ae_v (pv 2)) (ae_lst al_nil) (nomark _)) (ss_one (s_expr (ae_ml (K := K) PySem.F.plainAttrs_list PySem.F.slot_list_append PySem.F.type_list_append ma_append (ae_v (pv 3)) (al_cons (ae_ml (K := K) PySem.F.plainAttrs_list PySem.F.slot_list_pop PySem.F.type_list_pop ma_pop (ae_v (pv 2)) (al_cons (ae_call C_law_draw hgu (hr.mono (by omega)) (by rfl) pass0 (al_cons (ae_v (pv 0)) (al_cons (ae_callB ca_len (by rfl) hB.len PySem.boot_len (al_cons (ae_v (pv 2)) al_nil)) al_nil))) al_nil)) al_nil)))))
        (ss_one (s_ret (ae_v (pv 3)))))), ?_⟩
  rintro _ m Q ⟨i, n, xs, rfl, ⟨c0, hm, hc0⟩, hn, hxl, q⟩
  have hi : i < m.length := (List.getElem?_eq_some_iff.mp hm).1
  have Li : ∀ (c : Cell) (l : List Cell), (m.set i c ++ l)[i]? = some c := fun c l => by rw [getApp (by simpa using hi), getSet hi]
  have Si : ∀ (c c' : Cell) (l : List Cell), (m.set i c ++ l).set i c' = m.set i c' ++ l := fun c c' l => by rw [setApp (by simpa using hi), List.set_set]
  have L0 : ∀ (c d : Cell) (l : List Cell), (m.set i c ++ (d :: l))[m.length]? = some d := fun c d l => getEnd (by simp) _
  have L1 : ∀ (c d e : Cell) (l : List Cell), (m.set i c ++ (d :: e :: l))[m.length + 1]? = some e := fun c d e l => by rw [List.getElem?_append_right (by simp)]; simp
  have S0 : ∀ (c d d' : Cell) (l : List Cell), (m.set i c ++ (d :: l)).set m.length d' = m.set i c ++ (d' :: l) := fun c d d' l => setEnd (by simp) _
  have S1 : ∀ (c d e e' : Cell) (l : List Cell), (m.set i c ++ (d :: e :: l)).set (m.length + 1) e' = m.set i c ++ (d :: e' :: l) := fun c d e e' l => by rw [List.set_append_right _ _ (by simp)]; simp
  refine wSeq_of fun N1 n1 => ?_
  simp only [startA, List.map_cons, List.map_nil, List.length_cons, List.length_nil, List.replicate, List.cons_append, List.nil_append, Nat.reduceAdd, Nat.reduceSub, Nat.zero_add, Nat.sub_self, List.getElem?_cons_zero, List.getElem?_cons_succ, Option.map_some, wRet, wRetN, wSeq, wNext, wDrop, wIfS, wAsg, wgN, wgTup, wgCons, wgNil, wPar, wOr, wAnd, Ab.wNot, wIf, wOp, wUn, wCB, wCons, wNil, wTup, wLst, wLstM, wV, wC, wB, wCh, Ab.wTru, wNotT, wAndT, wOrT, wSl, wNo, wSome, wCall, wIsI, wIsI2, wStrip, wRev, gPop, wDNew, wDNewM, wSlW, gSlW, gAddM, gTimes, itemsA, wML, wYes, gIn, gInS, gIx, gEqv, gLt, gOrd, gAdd, gMinus, gInt, gNeg, gIs, gSl, gLen, gAbs, gTwo, gI1, gApp, gExt, gTupOf, gListOf, gListM, ims, asQ, asT, asL, dat, tru, at0, at1, at2, id_eq, AV.und, keyA, Ab.isNon, wipeS, List.set_cons_zero, List.set_cons_succ, wgSub, gSt, retA, List.take_length, takeSet, takeSet2, List.foldl_cons, List.foldl_nil, List.zip_cons_cons, List.zip_nil_right, keepS_nil, keepS_cons, keepO_none, keepO_im, keepO_wl, List.length_set, List.length_append, List.set_set, true_and, any_pr, snocAt, snocTake, ims_map, ims_mapF, atD, Option.isSome_some, Option.isSome_none, if_true, if_false, Bool.false_eq_true, ite_true, ite_false]
  refine ⟨by decide, n1 _ _ ?_⟩
  clear n1
  refine wSeq_of fun N2 n2 => ?_
  refine ⟨fun k ρ m' => ∃ (ls fs : List PyData) (c : Cell), k = ls.length ∧ ρ = [some (.mu i), some (.im (.tuple xs)), some (.mu m.length), some (.mu (m.length + 1))] ∧ m' = m.set i c ++ [.lst (ls.map .im), .lst (fs.map .im)] ∧ dkC (n + fs.length) c ∧ ls.length + fs.length = xs.length ∧ (∀ y ∈ ls, y ∈ xs) ∧ ∀ y ∈ fs, y ∈ xs, ⟨_, xs, [], c0, rfl, rfl, by rw [setSame hm]; simp, hc0, rfl, fun _ h => h, fun _ h => by cases h⟩, ?_⟩
  rintro k ρ m' ⟨ls, fs, c, rfl, rfl, rfl, hc, hl, hls, hfs⟩
  have e0 : ∀ (c : Cell) (l : List Cell), asL (.mu m.length) (m.set i c ++ (.lst (ls.map .im) :: l)) = some ls := fun c l => by simp only [asL, L0, ims_map]
  simp only [startA, List.map_cons, List.map_nil, List.length_cons, List.length_nil, List.replicate, List.cons_append, List.nil_append, Nat.reduceAdd, Nat.reduceSub, Nat.zero_add, Nat.sub_self, List.getElem?_cons_zero, List.getElem?_cons_succ, Option.map_some, wRet, wRetN, wSeq, wNext, wDrop, wIfS, wAsg, wgN, wgTup, wgCons, wgNil, wPar, wOr, wAnd, Ab.wNot, wIf, wOp, wUn, wCB, wCons, wNil, wTup, wLst, wLstM, wV, wC, wB, wCh, Ab.wTru, wNotT, wAndT, wOrT, wSl, wNo, wSome, wCall, wIsI, wIsI2, wStrip, wRev, gPop, wDNew, wDNewM, wSlW, gSlW, gAddM, gTimes, itemsA, wML, wYes, gIn, gInS, gIx, gEqv, gLt, gOrd, gAdd, gMinus, gInt, gNeg, gIs, gSl, gLen, gAbs, gTwo, gI1, gApp, gExt, gTupOf, gListOf, gListM, ims, asQ, asT, asL, dat, tru, at0, at1, at2, id_eq, AV.und, keyA, Ab.isNon, wipeS, List.set_cons_zero, List.set_cons_succ, wgSub, gSt, retA, List.take_length, takeSet, takeSet2, List.foldl_cons, List.foldl_nil, List.zip_cons_cons, List.zip_nil_right, keepS_nil, keepS_cons, keepO_none, keepO_im, keepO_wl, List.length_set, List.length_append, List.set_set, true_and, any_pr, snocAt, snocTake, ims_map, ims_mapF, atD, Option.isSome_some, Option.isSome_none, if_true, if_false, Bool.false_eq_true, ite_true, ite_false, L0, ims_map]
  refine ⟨by decide, .inl ⟨ls, rfl, ?_⟩⟩
  cases ls with
  | nil =>
    simp only [startA, List.map_cons, List.map_nil, List.length_cons, List.length_nil, List.replicate, List.cons_append, List.nil_append, Nat.reduceAdd, Nat.reduceSub, Nat.zero_add, Nat.sub_self, List.getElem?_cons_zero, List.getElem?_cons_succ, Option.map_some, wRet, wRetN, wSeq, wNext, wDrop, wIfS, wAsg, wgN, wgTup, wgCons, wgNil, wPar, wOr, wAnd, Ab.wNot, wIf, wOp, wUn, wCB, wCons, wNil, wTup, wLst, wLstM, wV, wC, wB, wCh, Ab.wTru, wNotT, wAndT, wOrT, wSl, wNo, wSome, wCall, wIsI, wIsI2, wStrip, wRev, gPop, wDNew, wDNewM, wSlW, gSlW, gAddM, gTimes, itemsA, wML, wYes, gIn, gInS, gIx, gEqv, gLt, gOrd, gAdd, gMinus, gInt, gNeg, gIs, gSl, gLen, gAbs, gTwo, gI1, gApp, gExt, gTupOf, gListOf, gListM, ims, asQ, asT, asL, dat, tru, at0, at1, at2, id_eq, AV.und, keyA, Ab.isNon, wipeS, List.set_cons_zero, List.set_cons_succ, wgSub, gSt, retA, List.take_length, takeSet, takeSet2, List.foldl_cons, List.foldl_nil, List.zip_cons_cons, List.zip_nil_right, keepS_nil, keepS_cons, keepO_none, keepO_im, keepO_wl, List.length_set, List.length_append, List.set_set, true_and, any_pr, snocAt, snocTake, ims_map, ims_mapF, atD, Option.isSome_some, Option.isSome_none, if_true, if_false, Bool.false_eq_true, ite_true, ite_false, List.isEmpty_nil, Bool.not_true]
    refine n2 _ _ ?_
    simp only [startA, List.map_cons, List.map_nil, List.length_cons, List.length_nil, List.replicate, List.cons_append, List.nil_append, Nat.reduceAdd, Nat.reduceSub, Nat.zero_add, Nat.sub_self, List.getElem?_cons_zero, List.getElem?_cons_succ, Option.map_some, wRet, wRetN, wSeq, wNext, wDrop, wIfS, wAsg, wgN, wgTup, wgCons, wgNil, wPar, wOr, wAnd, Ab.wNot, wIf, wOp, wUn, wCB, wCons, wNil, wTup, wLst, wLstM, wV, wC, wB, wCh, Ab.wTru, wNotT, wAndT, wOrT, wSl, wNo, wSome, wCall, wIsI, wIsI2, wStrip, wRev, gPop, wDNew, wDNewM, wSlW, gSlW, gAddM, gTimes, itemsA, wML, wYes, gIn, gInS, gIx, gEqv, gLt, gOrd, gAdd, gMinus, gInt, gNeg, gIs, gSl, gLen, gAbs, gTwo, gI1, gApp, gExt, gTupOf, gListOf, gListM, ims, asQ, asT, asL, dat, tru, at0, at1, at2, id_eq, AV.und, keyA, Ab.isNon, wipeS, List.set_cons_zero, List.set_cons_succ, wgSub, gSt, retA, List.take_length, takeSet, takeSet2, List.foldl_cons, List.foldl_nil, List.zip_cons_cons, List.zip_nil_right, keepS_nil, keepS_cons, keepO_none, keepO_im, keepO_wl, List.length_set, List.length_append, List.set_set, true_and, any_pr, snocAt, snocTake, ims_map, ims_mapF, atD, Option.isSome_some, Option.isSome_none, if_true, if_false, Bool.false_eq_true, ite_true, ite_false, L1]
    rw [if_neg (by omega)]
    have hl2 : fs.length = xs.length := by simpa using hl
    refine ⟨?_, ?_⟩
    · simp only [Cell.und, List.all_map, List.all_eq_true]
      intro y _
      rfl
    · exact q fs c hfs hl2 (by rw [← hl2]; exact hc)
  | cons x r =>
    simp only [List.isEmpty_cons, Bool.not_false, if_true]
    refine ⟨fun ρ' m' => ∃ k', k' < (x :: r).length ∧ ∃ (ls fs : List PyData) (c : Cell), k' = ls.length ∧ ρ' = [some (.mu i), some (.im (.tuple xs)), some (.mu m.length), some (.mu (m.length + 1))] ∧ m' = m.set i c ++ [.lst (ls.map .im), .lst (fs.map .im)] ∧ dkC (n + fs.length) c ∧ ls.length + fs.length = xs.length ∧ (∀ y ∈ ls, y ∈ xs) ∧ ∀ y ∈ fs, y ∈ xs, fun _ _ h => h, ?_⟩
    simp only [startA, List.map_cons, List.map_nil, List.length_cons, List.length_nil, List.replicate, List.cons_append, List.nil_append, Nat.reduceAdd, Nat.reduceSub, Nat.zero_add, Nat.sub_self, List.getElem?_cons_zero, List.getElem?_cons_succ, Option.map_some, wRet, wRetN, wSeq, wNext, wDrop, wIfS, wAsg, wgN, wgTup, wgCons, wgNil, wPar, wOr, wAnd, Ab.wNot, wIf, wOp, wUn, wCB, wCons, wNil, wTup, wLst, wLstM, wV, wC, wB, wCh, Ab.wTru, wNotT, wAndT, wOrT, wSl, wNo, wSome, wCall, wIsI, wIsI2, wStrip, wRev, gPop, wDNew, wDNewM, wSlW, gSlW, gAddM, gTimes, itemsA, wML, wYes, gIn, gInS, gIx, gEqv, gLt, gOrd, gAdd, gMinus, gInt, gNeg, gIs, gSl, gLen, gAbs, gTwo, gI1, gApp, gExt, gTupOf, gListOf, gListM, ims, asQ, asT, asL, dat, tru, at0, at1, at2, id_eq, AV.und, keyA, Ab.isNon, wipeS, List.set_cons_zero, List.set_cons_succ, wgSub, gSt, retA, List.take_length, takeSet, takeSet2, List.foldl_cons, List.foldl_nil, List.zip_cons_cons, List.zip_nil_right, keepS_nil, keepS_cons, keepO_none, keepO_im, keepO_wl, List.length_set, List.length_append, List.set_set, true_and, any_pr, snocAt, snocTake, ims_map, ims_mapF, atD, Option.isSome_some, Option.isSome_none, if_true, if_false, Bool.false_eq_true, ite_true, ite_false, isList, L0, L1]
    have hl' : r.length + 1 + fs.length = xs.length := hl
    refine ⟨i, n + fs.length, r.length + 1, by rw [List.length_map], ⟨c, Li _ _, hc⟩, by omega, by omega, by omega, fun j c1 hj hc1 => ?_⟩
    have ej : (AV.im x :: r.map .im)[((j : Nat) : Int).toNat]? = some (.im (x :: r)[j]) := by
      rw [Int.toNat_natCast, ← List.map_cons (f := AV.im), List.getElem?_map, List.getElem?_eq_getElem (by simpa using hj)]; rfl
    simp only [startA, List.map_cons, List.map_nil, List.length_cons, List.length_nil, List.replicate, List.cons_append, List.nil_append, Nat.reduceAdd, Nat.reduceSub, Nat.zero_add, Nat.sub_self, List.getElem?_cons_zero, List.getElem?_cons_succ, Option.map_some, wRet, wRetN, wSeq, wNext, wDrop, wIfS, wAsg, wgN, wgTup, wgCons, wgNil, wPar, wOr, wAnd, Ab.wNot, wIf, wOp, wUn, wCB, wCons, wNil, wTup, wLst, wLstM, wV, wC, wB, wCh, Ab.wTru, wNotT, wAndT, wOrT, wSl, wNo, wSome, wCall, wIsI, wIsI2, wStrip, wRev, gPop, wDNew, wDNewM, wSlW, gSlW, gAddM, gTimes, itemsA, wML, wYes, gIn, gInS, gIx, gEqv, gLt, gOrd, gAdd, gMinus, gInt, gNeg, gIs, gSl, gLen, gAbs, gTwo, gI1, gApp, gExt, gTupOf, gListOf, gListM, ims, asQ, asT, asL, dat, tru, at0, at1, at2, id_eq, AV.und, keyA, Ab.isNon, wipeS, List.set_cons_zero, List.set_cons_succ, wgSub, gSt, retA, List.take_length, takeSet, takeSet2, List.foldl_cons, List.foldl_nil, List.zip_cons_cons, List.zip_nil_right, keepS_nil, keepS_cons, keepO_none, keepO_im, keepO_wl, List.length_set, List.length_append, List.set_set, true_and, any_pr, snocAt, snocTake, ims_map, ims_mapF, atD, Option.isSome_some, Option.isSome_none, if_true, if_false, Bool.false_eq_true, ite_true, ite_false, Si, L0, ej, L1, S0, S1]
    refine ⟨by omega, by omega, by rw [sizeLine_eq, List.length_map]; omega, _, ?_, (x :: r).eraseIdx j, fs ++ [(x :: r)[j]], c1, rfl, ?_, ?_, ?_, fun y hy => hls y (List.mem_of_mem_eraseIdx hy), fun y hy => ?_⟩
    · rw [List.length_eraseIdx, if_pos (by simpa using hj)]; simp
    · rw [Int.toNat_natCast, ← List.map_cons (f := AV.im), eraseIdx_map, List.map_append]; rfl
    · rw [List.length_append]; exact hc1
    · rw [List.length_eraseIdx, if_pos (by simpa using hj), List.length_append]; simp; omega
    · rcases List.mem_append.mp hy with h | h
      · exact hfs y h
      · rw [List.mem_singleton.mp h]; exact hls _ (List.getElem_mem _)
end
end K37
end

section
set_option maxRecDepth 100000
set_option maxHeartbeats 8000000
namespace K37
open PySem PySem.Spec PyProof.Rows L2 Gd Ab
abbrev s_right : Stmt := topS 22
theorem sc_right : FnScope ["_law_deck_here", "_law_names_here", "_law_good", "_law_some", "_law_turn", "_law_thing", "_law_bent_here", "_law_kept", "_law_name"] ["_law_deck_here"] (defScope s_right) := ⟨rfl, rfl, rfl, by decide +kernel, rfl, by decide +kernel, by decide +kernel⟩
section
variable {P : Program} {w : World} {K : PySem.W.Frag} {mg : Str → Option Value} {base : Heap} {t1 t2 : Tok}
def PairOk (x : PyData) : Prop := ∃ s p, x = .tuple [.str s, .int p] ∧ Nm s ∧ p.natAbs ≤ 2000000
theorem odT {xs : List PyData} (h : ∀ x ∈ xs, PairOk x) (hl : xs.length ≤ 15) : Od (10 ^ 20) 1000 4 (.tuple xs) := by
  have hw := wts_le (b := 64) (xs := xs) fun x hx => by
    obtain ⟨s, p, rfl, hs, hp⟩ := h x hx
    have := hs.len
    simp only [wt, wts]; omega
  have hd := depths_le (b := 3) (xs := xs) fun x hx => by
    obtain ⟨s, p, rfl, hs, hp⟩ := h x hx
    simp [PyData.depth, PyData.depthAll]
  refine ⟨goods_iff.mpr fun x hx => ?_, by simp only [wt]; omega, by simp only [PyData.depth]; omega⟩
  obtain ⟨s, p, rfl, hs, hp⟩ := h x hx
  exact ⟨hs.plain, Nat.le_trans hp (by decide), trivial⟩
def Fine (v : PyData) : Prop := good (10 ^ 40) v ∧ wt v ≤ 20000 ∧ v.depth ≤ 100
theorem Od.fine {B W D : Nat} {d : PyData} (o : Od B W D d) (h0 : B ≤ 10 ^ 40) (h1 : W ≤ 20000) (h2 : D ≤ 100) : Fine d := ⟨o.g.mono h0, Nat.le_trans o.w h1, Nat.le_trans o.d h2⟩
theorem cut_map {α β : Type} (f : α → β) (xs : List α) (lo hi : Option Int) : cutD (xs.map f) lo hi = (cutD xs lo hi).map f := by
  unfold Ab.cutD; rw [List.length_map, List.map_take, List.map_drop]
theorem cut_mem {α : Type} {xs : List α} {lo hi : Option Int} {x : α} (h : x ∈ cutD xs lo hi) : x ∈ xs := List.mem_of_mem_drop (List.mem_of_mem_take h)
theorem cut_one {α : Type} (xs : List α) : (cutD xs none (some 1)).length ≤ 1 := by
  unfold Ab.cutD
  have h1 : HT.sIx xs.length 0 none = 0 := rfl
  have h2 : HT.sIx xs.length xs.length (some 1) ≤ 1 := by simp [HT.sIx]; omega
  rw [h1, List.length_take]; omega
theorem len6 : ∀ {r : Slots}, r.length = 6 → ∃ a b c d e f, r = [a, b, c, d, e, f]
  | [a, b, c, d, e, f], _ => ⟨a, b, c, d, e, f, rfl⟩
theorem len5 : ∀ {r : Slots}, r.length = 5 → ∃ a b c d e, r = [a, b, c, d, e]
  | [a, b, c, d, e], _ => ⟨a, b, c, d, e, rfl⟩
theorem litN (i : Int) (h : i.natAbs ≤ 10 ^ 40) : good (10 ^ 40) (.int i) := h
theorem litA : ∀ c ∈ (Str.ofString "a").cps.toList, c < 128 := by decide +kernel
theorem litB : ∀ c ∈ (Str.ofString "A").cps.toList, c < 128 := by decide +kernel
def aRight : ASp := fun ds m P _ => ∃ i n, ds = [.mu i] ∧ Dk m i n ∧ n ≤ 10000 ∧ ∀ c, dkC (n + 100) c → P (.im (.bool true)) (m.set i c)
theorem ok_right (hB : Bs mg t1 t2) (D : Defd K mg "_law_right" s_right) (C_law_draw : Callee P w K mg base CX0 1 "_law_draw" ["_law_deck_here", "_law_many"] (lift aDraw)) (C_law_any : Callee P w K mg base CX0 2 "_law_any" ["_law_deck_here", "_law_items"] (lift aAny)) (C_law_names : Callee P w K mg base CX0 3 "_law_names" ["_law_deck_here", "_law_many"] (lift aNames))
    (C_law_turned : Callee P w K mg base CX0 2 "_law_turned" ["_law_deck_here", "_law_items"] (lift aTurned)) (C_law_bent : Callee P w K mg base CX0 7 "_law_bent" ["_law_deck_here", "_law_thing", "_law_deep"] (lift (aBent 3))) (Care_prices : Callee P w K mg base CX0 4 "are_prices" ["value"] (lift aPrices)) (C_law_are_costs : Callee P w K mg base CX0 2 "_law_are_costs" ["_law_thing"] (lift aCosts)) : Callee P w K mg base CX0 8 "_law_right" ["_law_deck_here"] (lift aRight) := by
  refine okA D sc_right (fun _ _ _ _ _ _ us hl => match us, hl with | [_], _ => rfl) (fun ds m Q EA ⟨_, _, e, _⟩ => by rw [e]; rfl) fun f cdv A outer s H E B hgu hr => ?_
  refine ⟨_, _, (ss_cons (s_set (i := 1) sc_right.nd rfl (.inl rfl) (ae_call C_law_names hgu (hr.mono (by omega)) (by rfl) pass0 (al_cons (ae_v (pv 0)) (al_cons (ae_call C_law_draw hgu (hr.mono (by omega)) (by rfl) pass0 (al_cons (ae_v (pv 0)) (al_cons ae_int al_nil))) al_nil))))
        (ss_cons (s_set (i := 2) sc_right.nd rfl (.inl rfl) (ae_callTy (ca_tuple rfl) (by rfl) hB.tuple (by decide +kernel) (al_cons (ae_lc (own := [("_law_name", 8)]) (g := (gName 8)) rfl sc_right.nd (ai_any (K := K) rfl (ae_v (pv 1))) (blkOk_by (N := ["_law_deck_here", "_law_names_here", "_law_good", "_law_some", "_law_turn", "_law_thing", "_law_bent_here", "_law_kept", "_law_name"]) (sc := defScope s_right) (by decide +kernel)) (fun _ _ _ _ _ => (g_name (pg_name (i := 8) sc_right.nd rfl (.inl rfl)))) (own_name (by decide)) (mono_name _) (fun _ _ _ _ _ => ts_nil) (fun _ _ _ _ _ => (ae_tup (al_cons (ae_v (pv 8)) (al_cons (ae_call C_law_any hgu (hr.mono (by omega)) (by rfl) pass0 (al_cons (ae_v (pv 0)) (al_cons (ae_lst (al_cons ae_int (al_cons (ae_op oa_pow ae_int ae_int) (al_cons (ae_op oa_add ae_int (ae_call C_law_draw hgu (hr.mono (by omega)) (by rfl) pass0 (al_cons (ae_v (pv 0)) (al_cons (ae_op oa_pow ae_int ae_int) al_nil)))) al_nil)))) al_nil))) al_nil))))) al_nil)))
        (ss_cons (s_set (i := 3) sc_right.nd rfl (.inl rfl) (ae_lstM (al_cons (ae_v (pv 2)) (al_cons (ae_rev (ae_v (pv 2))) (al_cons (ae_op oa_add (ae_v (pv 2)) (ae_slice (ae_v (pv 2)) ao_none (ao_some ae_int))) (al_cons (ae_callTy (ca_tuple rfl) (by rfl) hB.tuple (by decide +kernel) (al_cons (ae_call C_law_turned hgu (hr.mono (by omega)) (by rfl) pass0 (al_cons (ae_v (pv 0)) (al_cons (ae_v (pv 2)) al_nil))) al_nil)) (al_cons ae_non (al_cons ae_int (al_cons ae_str (al_cons (ae_tup al_nil) (al_cons (ae_lst al_nil) (al_cons ae_dnew (al_cons (ae_tup (al_cons (ae_tup al_nil) al_nil)) al_nil)))))))))))))
        (ss_cons (s_set (i := 3) sc_right.nd rfl (.inl rfl) (ae_op oa_add (ae_v (pv 3)) (ae_lst (al_cons (ae_tup (al_cons (ae_tup (al_cons ae_str (al_cons (ae_op oa_pow ae_int ae_int) al_nil))) al_nil)) (al_cons (ae_tup (al_cons (ae_tup (al_cons ae_str (al_cons (ae_op oa_add (ae_op oa_pow ae_int ae_int) ae_int) al_nil))) al_nil)) (al_cons (ae_tup (al_cons (ae_tup (al_cons ae_str (al_cons ae_bl al_nil))) al_nil)) (al_cons (ae_tup (al_cons (ae_tup (al_cons ae_str (al_cons ae_int al_nil))) (al_cons (ae_tup (al_cons ae_str (al_cons ae_int al_nil))) al_nil))) (al_cons (ae_tup (al_cons (ae_tup (al_cons ae_str (al_cons ae_int al_nil))) al_nil)) al_nil))))))))
        (ss_cons (s_set (i := 3) sc_right.nd rfl (.inl rfl) (ae_op oa_addM (ae_v (pv 3)) (ae_lst (al_cons (ae_tup (al_cons ae_str (al_cons ae_int al_nil))) (al_cons (ae_tup (al_cons (ae_tup (al_cons ae_str (al_cons ae_int al_nil))) al_nil)) al_nil)))))
        (ss_cons (s_for PassesOwn.never rfl (ai_r1 (by rfl) hB.range (al_cons ae_int al_nil)) (g_name (pg_name (i := 4) sc_right.nd rfl (.inl rfl))) (ss_cons (s_set (i := 6) sc_right.nd rfl (.inl rfl) (ae_call C_law_bent hgu (hr.mono (by omega)) (by rfl) pass0 (al_cons (ae_v (pv 0)) (al_cons (ae_v (pv 2)) (al_cons ae_int al_nil)))))
        (ss_one (s_expr (ae_ml (K := K) PySem.F.plainAttrs_list PySem.F.slot_list_extend PySem.F.type_list_extend ma_extend (ae_v (pv 3)) (al_cons (ae_lst (al_cons (ae_v (pv 6)) (al_cons (ae_call C_law_bent hgu (hr.mono (by omega)) (by rfl) pass0 (al_cons (ae_v (pv 0)) (al_cons (ae_v (pv 6)) (al_cons ae_int al_nil)))) al_nil))) al_nil))))))
        (ss_cons (s_for PassesOwn.never rfl (ai_any (K := K) rfl (ae_v (pv 3))) (g_name (pg_name (i := 5) sc_right.nd rfl (.inl rfl))) (ss_cons (s_set (i := 7) sc_right.nd rfl (.inl rfl) (ae_callB (ca_repr hgu hr) (by rfl) hB.repr (by decide +kernel) (al_cons (ae_v (pv 5)) al_nil)))
        (ss_one (s_if (AW.at (aw_or (at_cmp (oa_ne hr) (ae_callB (ca_repr hgu hr) (by rfl) hB.repr (by decide +kernel) (al_cons (ae_call Care_prices hgu (hr.mono (by omega)) (by rfl) pass0 (al_cons (ae_v (pv 5)) al_nil)) al_nil)) (ae_callB (ca_repr hgu hr) (by rfl) hB.repr (by decide +kernel) (al_cons (ae_call C_law_are_costs hgu (hr.mono (by omega)) (by rfl) pass0 (al_cons (ae_v (pv 5)) al_nil)) al_nil)) (nomark _)) (aw_or1 (at_cmp (oa_ne hr) (ae_callB (ca_repr hgu hr) (by rfl) hB.repr (by decide +kernel) (al_cons (ae_v (pv 5)) al_nil)) (ae_v (pv 7)) (nomark _))))) (ss_one (s_ret ae_bl)) ss_nil))))
        (ss_one (s_ret ae_bl))))))))), ?_⟩
  rintro _ m Q ⟨i, cnt, rfl, ⟨c0, hm, hc0⟩, hn, q⟩
  have hi : i < m.length := (List.getElem?_eq_some_iff.mp hm).1
  have e6 : ((10 : Int) ^ (6 : Int).toNat) = 1000000 := by decide
  have p6 : CPow 10 6 := ⟨by decide, by decide, by decide⟩
  refine wSeq_of fun N1 n1 => ?_
  simp only [startA, List.map_cons, List.map_nil, List.length_cons, List.length_nil, List.replicate, List.cons_append, List.nil_append, Nat.reduceAdd, Nat.reduceSub, Nat.zero_add, Nat.sub_self, List.getElem?_cons_zero, List.getElem?_cons_succ, Option.map_some, wRet, wRetN, wSeq, wNext, wDrop, wIfS, wAsg, wgN, wgTup, wgCons, wgNil, wPar, wOr, wAnd, Ab.wNot, wIf, wOp, wUn, wCB, wCons, wNil, wTup, wLst, wLstM, wV, wC, wB, wCh, Ab.wTru, wNotT, wAndT, wOrT, wSl, wNo, wSome, wCall, wIsI, wIsI2, wStrip, wRev, gPop, wDNew, wDNewM, wSlW, gSlW, gAddM, gTimes, itemsA, wML, wYes, gIn, gInS, gIx, gEqv, gLt, gOrd, gAdd, gMinus, gInt, gNeg, gIs, gSl, gLen, gAbs, gTwo, gI1, gApp, gExt, gTupOf, gListOf, gListM, ims, asQ, asT, asL, dat, tru, at0, at1, at2, id_eq, AV.und, keyA, Ab.isNon, wipeS, List.set_cons_zero, List.set_cons_succ, wgSub, gSt, retA, List.take_length, takeSet, takeSet2, List.foldl_cons, List.foldl_nil, List.zip_cons_cons, List.zip_nil_right, keepS_nil, keepS_cons, keepO_none, keepO_im, keepO_wl, List.length_set, List.length_append, List.set_set, true_and, any_pr, snocAt, snocTake, ims_map, ims_mapF, atD, Option.isSome_some, Option.isSome_none, if_true, if_false, Bool.false_eq_true, ite_true, ite_false]
  refine ⟨i, cnt, 15, rfl, ⟨c0, hm, hc0⟩, by omega, by decide, by decide, fun y c1 hy hc1 => ?_⟩
  simp only [startA, List.map_cons, List.map_nil, List.length_cons, List.length_nil, List.replicate, List.cons_append, List.nil_append, Nat.reduceAdd, Nat.reduceSub, Nat.zero_add, Nat.sub_self, List.getElem?_cons_zero, List.getElem?_cons_succ, Option.map_some, wRet, wRetN, wSeq, wNext, wDrop, wIfS, wAsg, wgN, wgTup, wgCons, wgNil, wPar, wOr, wAnd, Ab.wNot, wIf, wOp, wUn, wCB, wCons, wNil, wTup, wLst, wLstM, wV, wC, wB, wCh, Ab.wTru, wNotT, wAndT, wOrT, wSl, wNo, wSome, wCall, wIsI, wIsI2, wStrip, wRev, gPop, wDNew, wDNewM, wSlW, gSlW, gAddM, gTimes, itemsA, wML, wYes, gIn, gInS, gIx, gEqv, gLt, gOrd, gAdd, gMinus, gInt, gNeg, gIs, gSl, gLen, gAbs, gTwo, gI1, gApp, gExt, gTupOf, gListOf, gListM, ims, asQ, asT, asL, dat, tru, at0, at1, at2, id_eq, AV.und, keyA, Ab.isNon, wipeS, List.set_cons_zero, List.set_cons_succ, wgSub, gSt, retA, List.take_length, takeSet, takeSet2, List.foldl_cons, List.foldl_nil, List.zip_cons_cons, List.zip_nil_right, keepS_nil, keepS_cons, keepO_none, keepO_im, keepO_wl, List.length_set, List.length_append, List.set_set, true_and, any_pr, snocAt, snocTake, ims_map, ims_mapF, atD, Option.isSome_some, Option.isSome_none, if_true, if_false, Bool.false_eq_true, ite_true, ite_false]
  refine ⟨i, cnt + 1, y, rfl, ⟨c1, getSet hi, hc1⟩, by omega, by omega, fun ss c2 nm asc hls hc2 => ?_⟩
  simp only [startA, List.map_cons, List.map_nil, List.length_cons, List.length_nil, List.replicate, List.cons_append, List.nil_append, Nat.reduceAdd, Nat.reduceSub, Nat.zero_add, Nat.sub_self, List.getElem?_cons_zero, List.getElem?_cons_succ, Option.map_some, wRet, wRetN, wSeq, wNext, wDrop, wIfS, wAsg, wgN, wgTup, wgCons, wgNil, wPar, wOr, wAnd, Ab.wNot, wIf, wOp, wUn, wCB, wCons, wNil, wTup, wLst, wLstM, wV, wC, wB, wCh, Ab.wTru, wNotT, wAndT, wOrT, wSl, wNo, wSome, wCall, wIsI, wIsI2, wStrip, wRev, gPop, wDNew, wDNewM, wSlW, gSlW, gAddM, gTimes, itemsA, wML, wYes, gIn, gInS, gIx, gEqv, gLt, gOrd, gAdd, gMinus, gInt, gNeg, gIs, gSl, gLen, gAbs, gTwo, gI1, gApp, gExt, gTupOf, gListOf, gListM, ims, asQ, asT, asL, dat, tru, at0, at1, at2, id_eq, AV.und, keyA, Ab.isNon, wipeS, List.set_cons_zero, List.set_cons_succ, wgSub, gSt, retA, List.take_length, takeSet, takeSet2, List.foldl_cons, List.foldl_nil, List.zip_cons_cons, List.zip_nil_right, keepS_nil, keepS_cons, keepO_none, keepO_im, keepO_wl, List.length_set, List.length_append, List.set_set, true_and, any_pr, snocAt, snocTake, ims_map, ims_mapF, atD, Option.isSome_some, Option.isSome_none, if_true, if_false, Bool.false_eq_true, ite_true, ite_false]
  refine n1 _ _ ?_
  clear n1
  refine wSeq_of fun N2 n2 => ?_
  simp only [startA, List.map_cons, List.map_nil, List.length_cons, List.length_nil, List.replicate, List.cons_append, List.nil_append, Nat.reduceAdd, Nat.reduceSub, Nat.zero_add, Nat.sub_self, List.getElem?_cons_zero, List.getElem?_cons_succ, Option.map_some, wRet, wRetN, wSeq, wNext, wDrop, wIfS, wAsg, wgN, wgTup, wgCons, wgNil, wPar, wOr, wAnd, Ab.wNot, wIf, wOp, wUn, wCB, wCons, wNil, wTup, wLst, wLstM, wV, wC, wB, wCh, Ab.wTru, wNotT, wAndT, wOrT, wSl, wNo, wSome, wCall, wIsI, wIsI2, wStrip, wRev, gPop, wDNew, wDNewM, wSlW, gSlW, gAddM, gTimes, itemsA, wML, wYes, gIn, gInS, gIx, gEqv, gLt, gOrd, gAdd, gMinus, gInt, gNeg, gIs, gSl, gLen, gAbs, gTwo, gI1, gApp, gExt, gTupOf, gListOf, gListM, ims, asQ, asT, asL, dat, tru, at0, at1, at2, id_eq, AV.und, keyA, Ab.isNon, wipeS, List.set_cons_zero, List.set_cons_succ, wgSub, gSt, retA, List.take_length, takeSet, takeSet2, List.foldl_cons, List.foldl_nil, List.zip_cons_cons, List.zip_nil_right, keepS_nil, keepS_cons, keepO_none, keepO_im, keepO_wl, List.length_set, List.length_append, List.set_set, true_and, any_pr, snocAt, snocTake, ims_map, ims_mapF, atD, Option.isSome_some, Option.isSome_none, if_true, if_false, Bool.false_eq_true, ite_true, ite_false, wLc, wLcs, wiAny]
  refine ⟨by rw [sizeLine_eq]; simp only [List.length_map]; omega, ?_⟩
  refine lc_inv (acc := []) (P := fun ys m1 => match ims ys with
      | some xs => N2 [some (.mu i), some (.wl (ss.map .str)), some (.im (.tuple xs)), none, none, none, none, none, none] m1
      | none => False)
      (fun xs acc m' => ∃ (c : Cell) (st : List PyData) (r : List Str), m' = m.set i c ∧ xs = (r.map PyData.str).map .im ∧ (∀ s ∈ r, s ∈ ss) ∧ acc = st.map .im ∧ st.length + r.length = ss.length ∧ (∀ x ∈ st, PairOk x) ∧ dkC (cnt + 3 + 2 * st.length) c) (fun _ _ _ _ => trivial) (fun x r acc m' Kt ⟨c, st, r', em, ex, hr', ea, el, hv, hc⟩ nx => ?_) (fun acc m' ⟨c, st, r', em, ex, hr', ea, el, hv, hc⟩ => ?_) ⟨c2, [], ss, rfl, rfl, (fun _ h => h), rfl, by simp, (fun _ h => by cases h), hc2⟩
  rotate_left
  · subst em ea
    obtain ⟨a, r', rfl, rfl, rfl⟩ : ∃ a t, r' = a :: t ∧ x = .im (.str a) ∧ r = (t.map PyData.str).map .im := by
      cases r' with
      | nil => cases ex
      | cons t l' => simp only [List.map_cons, List.cons.injEq] at ex; exact ⟨t, l', rfl, ex.1, ex.2⟩
    rw [List.length_cons] at el
    simp only [startA, List.map_cons, List.map_nil, List.length_cons, List.length_nil, List.replicate, List.cons_append, List.nil_append, Nat.reduceAdd, Nat.reduceSub, Nat.zero_add, Nat.sub_self, List.getElem?_cons_zero, List.getElem?_cons_succ, Option.map_some, wRet, wRetN, wSeq, wNext, wDrop, wIfS, wAsg, wgN, wgTup, wgCons, wgNil, wPar, wOr, wAnd, Ab.wNot, wIf, wOp, wUn, wCB, wCons, wNil, wTup, wLst, wLstM, wV, wC, wB, wCh, Ab.wTru, wNotT, wAndT, wOrT, wSl, wNo, wSome, wCall, wIsI, wIsI2, wStrip, wRev, gPop, wDNew, wDNewM, wSlW, gSlW, gAddM, gTimes, itemsA, wML, wYes, gIn, gInS, gIx, gEqv, gLt, gOrd, gAdd, gMinus, gInt, gNeg, gIs, gSl, gLen, gAbs, gTwo, gI1, gApp, gExt, gTupOf, gListOf, gListM, ims, asQ, asT, asL, dat, tru, at0, at1, at2, id_eq, AV.und, keyA, Ab.isNon, wipeS, List.set_cons_zero, List.set_cons_succ, wgSub, gSt, retA, List.take_length, takeSet, takeSet2, List.foldl_cons, List.foldl_nil, List.zip_cons_cons, List.zip_nil_right, keepS_nil, keepS_cons, keepO_none, keepO_im, keepO_wl, List.length_set, List.length_append, List.set_set, true_and, any_pr, snocAt, snocTake, ims_map, ims_mapF, atD, Option.isSome_some, Option.isSome_none, if_true, if_false, Bool.false_eq_true, ite_true, ite_false, turnL, e6]
    refine ⟨p6, p6, i, cnt + 3 + 2 * st.length, 1000000, rfl, ⟨c, getSet hi, hc⟩, by omega, by decide, by decide, fun z c3 hz hc3 => ?_⟩
    simp only [startA, List.map_cons, List.map_nil, List.length_cons, List.length_nil, List.replicate, List.cons_append, List.nil_append, Nat.reduceAdd, Nat.reduceSub, Nat.zero_add, Nat.sub_self, List.getElem?_cons_zero, List.getElem?_cons_succ, Option.map_some, wRet, wRetN, wSeq, wNext, wDrop, wIfS, wAsg, wgN, wgTup, wgCons, wgNil, wPar, wOr, wAnd, Ab.wNot, wIf, wOp, wUn, wCB, wCons, wNil, wTup, wLst, wLstM, wV, wC, wB, wCh, Ab.wTru, wNotT, wAndT, wOrT, wSl, wNo, wSome, wCall, wIsI, wIsI2, wStrip, wRev, gPop, wDNew, wDNewM, wSlW, gSlW, gAddM, gTimes, itemsA, wML, wYes, gIn, gInS, gIx, gEqv, gLt, gOrd, gAdd, gMinus, gInt, gNeg, gIs, gSl, gLen, gAbs, gTwo, gI1, gApp, gExt, gTupOf, gListOf, gListM, ims, asQ, asT, asL, dat, tru, at0, at1, at2, id_eq, AV.und, keyA, Ab.isNon, wipeS, List.set_cons_zero, List.set_cons_succ, wgSub, gSt, retA, List.take_length, takeSet, takeSet2, List.foldl_cons, List.foldl_nil, List.zip_cons_cons, List.zip_nil_right, keepS_nil, keepS_cons, keepO_none, keepO_im, keepO_wl, List.length_set, List.length_append, List.set_set, true_and, any_pr, snocAt, snocTake, ims_map, ims_mapF, atD, Option.isSome_some, Option.isSome_none, if_true, if_false, Bool.false_eq_true, ite_true, ite_false]
    refine ⟨by decide, i, cnt + 3 + 2 * st.length + 1, _, [.int 1, .int 1000000, .int (1 + (z : Int))], rfl, ⟨c3, getSet hi, hc3⟩, by omega, fun _ => rfl, rfl, by simp, by simp, fun v hv2 c4 hc4 => ?_⟩
    obtain ⟨p, rfl, hp⟩ : ∃ p : Int, v = .int p ∧ p.natAbs ≤ 2000000 := by
      simp only [List.mem_cons, List.not_mem_nil, or_false] at hv2
      rcases hv2 with h | h | h
      · exact ⟨_, h, by decide⟩
      · exact ⟨_, h, by decide⟩
      · exact ⟨_, h, by omega⟩
    simp only [startA, List.map_cons, List.map_nil, List.length_cons, List.length_nil, List.replicate, List.cons_append, List.nil_append, Nat.reduceAdd, Nat.reduceSub, Nat.zero_add, Nat.sub_self, List.getElem?_cons_zero, List.getElem?_cons_succ, Option.map_some, wRet, wRetN, wSeq, wNext, wDrop, wIfS, wAsg, wgN, wgTup, wgCons, wgNil, wPar, wOr, wAnd, Ab.wNot, wIf, wOp, wUn, wCB, wCons, wNil, wTup, wLst, wLstM, wV, wC, wB, wCh, Ab.wTru, wNotT, wAndT, wOrT, wSl, wNo, wSome, wCall, wIsI, wIsI2, wStrip, wRev, gPop, wDNew, wDNewM, wSlW, gSlW, gAddM, gTimes, itemsA, wML, wYes, gIn, gInS, gIx, gEqv, gLt, gOrd, gAdd, gMinus, gInt, gNeg, gIs, gSl, gLen, gAbs, gTwo, gI1, gApp, gExt, gTupOf, gListOf, gListM, ims, asQ, asT, asL, dat, tru, at0, at1, at2, id_eq, AV.und, keyA, Ab.isNon, wipeS, List.set_cons_zero, List.set_cons_succ, wgSub, gSt, retA, List.take_length, takeSet, takeSet2, List.foldl_cons, List.foldl_nil, List.zip_cons_cons, List.zip_nil_right, keepS_nil, keepS_cons, keepO_none, keepO_im, keepO_wl, List.length_set, List.length_append, List.set_set, true_and, any_pr, snocAt, snocTake, ims_map, ims_mapF, atD, Option.isSome_some, Option.isSome_none, if_true, if_false, Bool.false_eq_true, ite_true, ite_false]
    refine ⟨by decide, nx _ _ (fun z hz => by cases hz; rfl) ⟨c4, st ++ [.tuple [.str a, .int p]], r', List.take_of_length_le (by simp), rfl, fun s hs => hr' s (List.mem_cons_of_mem _ hs), by simp, by simp only [List.length_append, List.length_cons, List.length_nil]; omega, fun x hx => ?_, by simp only [List.length_append, List.length_cons, List.length_nil]; exact hc4⟩⟩
    rcases List.mem_append.mp hx with h | h
    · exact hv x h
    · rw [List.mem_singleton.mp h]; exact ⟨a, p, rfl, nm a (hr' a List.mem_cons_self), hp⟩
  subst em ea
  rw [ims_map]
  have hr0 : r' = [] := by cases r' with | nil => rfl | cons _ _ => cases ex
  subst hr0
  have hsl : st.length ≤ 14 := by simp only [List.length_nil] at el; omega
  refine n2 _ _ ?_
  clear n2 ex
  have Li : ∀ (c : Cell) (l : List Cell), (m.set i c ++ l)[i]? = some c := fun c l => by rw [getApp (by simpa using hi), getSet hi]
  have Si : ∀ (c c' : Cell) (l : List Cell), (m.set i c ++ l).set i c' = m.set i c' ++ l := fun c c' l => by rw [setApp (by simpa using hi), List.set_set]
  have L0 : ∀ (c d : Cell) (l : List Cell), (m.set i c ++ (d :: l))[m.length]? = some d := fun c d l => getEnd (by simp) _
  have L1 : ∀ (c d e : Cell) (l : List Cell), (m.set i c ++ (d :: e :: l))[m.length + 1]? = some e := fun c d e l => by rw [List.getElem?_append_right (by simp)]; simp
  have L2 : ∀ (c a b d : Cell) (l : List Cell), (m.set i c ++ (a :: b :: d :: l))[m.length + 2]? = some d := fun c a b d l => by rw [List.getElem?_append_right (by simp)]; simp
  have S2 : ∀ (c a b d d' : Cell) (l : List Cell), (m.set i c ++ (a :: b :: d :: l)).set (m.length + 2) d' = m.set i c ++ (a :: b :: d' :: l) := fun c a b d d' l => by rw [List.set_append_right _ _ (by simp)]; simp
  have o1 := odT hv (by omega)
  have o2 := odT (xs := st.reverse) (fun x hx => hv x (List.mem_reverse.mp hx)) (by rw [List.length_reverse]; omega)
  have o3 := odT (xs := st ++ cutD st none (some 1)) (fun x hx => (List.mem_append.mp hx).elim (hv x) fun h => hv x (cut_mem h)) (by have := cut_one st; rw [List.length_append]; omega)
  refine wSeq_of fun N3 n3 => ?_
  simp only [startA, List.map_cons, List.map_nil, List.length_cons, List.length_nil, List.replicate, List.cons_append, List.nil_append, Nat.reduceAdd, Nat.reduceSub, Nat.zero_add, Nat.sub_self, List.getElem?_cons_zero, List.getElem?_cons_succ, Option.map_some, wRet, wRetN, wSeq, wNext, wDrop, wIfS, wAsg, wgN, wgTup, wgCons, wgNil, wPar, wOr, wAnd, Ab.wNot, wIf, wOp, wUn, wCB, wCons, wNil, wTup, wLst, wLstM, wV, wC, wB, wCh, Ab.wTru, wNotT, wAndT, wOrT, wSl, wNo, wSome, wCall, wIsI, wIsI2, wStrip, wRev, gPop, wDNew, wDNewM, wSlW, gSlW, gAddM, gTimes, itemsA, wML, wYes, gIn, gInS, gIx, gEqv, gLt, gOrd, gAdd, gMinus, gInt, gNeg, gIs, gSl, gLen, gAbs, gTwo, gI1, gApp, gExt, gTupOf, gListOf, gListM, ims, asQ, asT, asL, dat, tru, at0, at1, at2, id_eq, AV.und, keyA, Ab.isNon, wipeS, List.set_cons_zero, List.set_cons_succ, wgSub, gSt, retA, List.take_length, takeSet, takeSet2, List.foldl_cons, List.foldl_nil, List.zip_cons_cons, List.zip_nil_right, keepS_nil, keepS_cons, keepO_none, keepO_im, keepO_wl, List.length_set, List.length_append, List.set_set, true_and, any_pr, snocAt, snocTake, ims_map, ims_mapF, atD, Option.isSome_some, Option.isSome_none, if_true, if_false, Bool.false_eq_true, ite_true, ite_false]
  refine ⟨by have := cut_one st; omega, i, cnt + 3 + 2 * st.length, st, rfl, ⟨c, getSet hi, hc⟩, by omega, by omega, fun ys c5 hys hyl hc5 => ?_⟩
  have o4 := odT (xs := ys) (fun x hx => hv x (hys x hx)) (by omega)
  simp only [startA, List.map_cons, List.map_nil, List.length_cons, List.length_nil, List.replicate, List.cons_append, List.nil_append, Nat.reduceAdd, Nat.reduceSub, Nat.zero_add, Nat.sub_self, List.getElem?_cons_zero, List.getElem?_cons_succ, Option.map_some, wRet, wRetN, wSeq, wNext, wDrop, wIfS, wAsg, wgN, wgTup, wgCons, wgNil, wPar, wOr, wAnd, Ab.wNot, wIf, wOp, wUn, wCB, wCons, wNil, wTup, wLst, wLstM, wV, wC, wB, wCh, Ab.wTru, wNotT, wAndT, wOrT, wSl, wNo, wSome, wCall, wIsI, wIsI2, wStrip, wRev, gPop, wDNew, wDNewM, wSlW, gSlW, gAddM, gTimes, itemsA, wML, wYes, gIn, gInS, gIx, gEqv, gLt, gOrd, gAdd, gMinus, gInt, gNeg, gIs, gSl, gLen, gAbs, gTwo, gI1, gApp, gExt, gTupOf, gListOf, gListM, ims, asQ, asT, asL, dat, tru, at0, at1, at2, id_eq, AV.und, keyA, Ab.isNon, wipeS, List.set_cons_zero, List.set_cons_succ, wgSub, gSt, retA, List.take_length, takeSet, takeSet2, List.foldl_cons, List.foldl_nil, List.zip_cons_cons, List.zip_nil_right, keepS_nil, keepS_cons, keepO_none, keepO_im, keepO_wl, List.length_set, List.length_append, List.set_set, true_and, any_pr, snocAt, snocTake, ims_map, ims_mapF, atD, Option.isSome_some, Option.isSome_none, if_true, if_false, Bool.false_eq_true, ite_true, ite_false, L0]
  rw [List.append_assoc, List.singleton_append]
  obtain ⟨b0, hb0, eb0, lb0⟩ : ∃ b0 : List PyData, (∀ v ∈ b0, Fine v) ∧ b0.map AV.im = [AV.im (PyData.tuple st), .im (.tuple st.reverse), .im (.tuple (st ++ cutD st none (some 1))), .im (.tuple ys), .im .none, .im (.int 0), .im (.str (Str.ofString "")), .im (.tuple []), .im (.list []), .im (.dict []), .im (.tuple [.tuple []])] ∧ b0.length = 11 :=
    ⟨[.tuple st, .tuple st.reverse, .tuple (st ++ cutD st none (some 1)), .tuple ys, .none, .int 0, .str (Str.ofString ""), .tuple [], .list [], .dict [], .tuple [.tuple []]], fun v hv => by
      simp only [List.mem_cons, List.not_mem_nil, or_false] at hv
      rcases hv with h | h | h | h | h | h | h | h | h | h | h <;> subst h
      · exact o1.fine (by decide) (by decide) (by decide)
      · exact o2.fine (by decide) (by decide) (by decide)
      · exact o3.fine (by decide) (by decide) (by decide)
      · exact o4.fine (by decide) (by decide) (by decide)
      · exact ⟨trivial, by decide, by decide⟩
      · exact ⟨show (0 : Int).natAbs ≤ 10 ^ 40 by decide, by decide, by decide⟩
      · exact ⟨(fun c hc => by cases hc), by decide +kernel, by decide⟩
      · exact ⟨trivial, by decide, by decide⟩
      · exact ⟨trivial, by decide, by decide⟩
      · exact ⟨rfl, by decide, by decide⟩
      · exact ⟨⟨trivial, trivial⟩, by decide, by decide⟩, rfl, rfl⟩
  rw [← eb0]
  clear eb0
  refine ⟨by decide, by decide, by decide, by decide, by decide, n3 _ _ ?_⟩
  clear n3 N3
  generalize Cell.lst (ys.map AV.im) = tur
  refine wSeq_of fun N4 n4 => ?_
  simp only [startA, List.map_cons, List.map_nil, List.length_cons, List.length_nil, List.replicate, List.cons_append, List.nil_append, Nat.reduceAdd, Nat.reduceSub, Nat.zero_add, Nat.sub_self, List.getElem?_cons_zero, List.getElem?_cons_succ, Option.map_some, wRet, wRetN, wSeq, wNext, wDrop, wIfS, wAsg, wgN, wgTup, wgCons, wgNil, wPar, wOr, wAnd, Ab.wNot, wIf, wOp, wUn, wCB, wCons, wNil, wTup, wLst, wLstM, wV, wC, wB, wCh, Ab.wTru, wNotT, wAndT, wOrT, wSl, wNo, wSome, wCall, wIsI, wIsI2, wStrip, wRev, gPop, wDNew, wDNewM, wSlW, gSlW, gAddM, gTimes, itemsA, wML, wYes, gIn, gInS, gIx, gEqv, gLt, gOrd, gAdd, gMinus, gInt, gNeg, gIs, gSl, gLen, gAbs, gTwo, gI1, gApp, gExt, gTupOf, gListOf, gListM, ims, asQ, asT, asL, dat, tru, at0, at1, at2, id_eq, AV.und, keyA, Ab.isNon, wipeS, List.set_cons_zero, List.set_cons_succ, wgSub, gSt, retA, List.take_length, takeSet, takeSet2, List.foldl_cons, List.foldl_nil, List.zip_cons_cons, List.zip_nil_right, keepS_nil, keepS_cons, keepO_none, keepO_im, keepO_wl, List.length_set, List.length_append, List.set_set, true_and, any_pr, snocAt, snocTake, ims_map, ims_mapF, atD, Option.isSome_some, Option.isSome_none, if_true, if_false, Bool.false_eq_true, ite_true, ite_false, L1, ims_map, e6]
  refine ⟨p6, by decide, by decide, p6, by decide, by decide, by decide, by decide, by decide, by decide, by decide, by decide, by decide, by decide, by rw [lb0]; decide, ?_⟩
  obtain ⟨b1, hb1, eb1, lb1⟩ : ∃ b1 : List PyData, (∀ v ∈ b1, Fine v) ∧ b1 = b0 ++ [.tuple [.tuple [.str (Str.ofString "a"), .int 1000000]], .tuple [.tuple [.str (Str.ofString "a"), .int (1000000 + 1)]], .tuple [.tuple [.str (Str.ofString "a"), .bool true]], .tuple [.tuple [.str (Str.ofString "a"), .int 1], .tuple [.str (Str.ofString "a"), .int 2]], .tuple [.tuple [.str (Str.ofString "A"), .int 1]]] ∧ b1.length = 16 :=
    ⟨_, fun v hv => by
      rcases List.mem_append.mp hv with h | h
      · exact hb0 v h
      · simp only [List.mem_cons, List.not_mem_nil, or_false] at h
        rcases h with h | h | h | h | h <;> subst h
        · exact ⟨⟨⟨litA, litN _ (by decide), trivial⟩, trivial⟩, by decide +kernel, by decide⟩
        · exact ⟨⟨⟨litA, litN _ (by decide), trivial⟩, trivial⟩, by decide +kernel, by decide⟩
        · exact ⟨⟨⟨litA, trivial, trivial⟩, trivial⟩, by decide +kernel, by decide⟩
        · exact ⟨⟨⟨litA, litN _ (by decide), trivial⟩, ⟨litA, litN _ (by decide), trivial⟩, trivial⟩, by decide +kernel, by decide⟩
        · exact ⟨⟨⟨litB, litN _ (by decide), trivial⟩, trivial⟩, by decide +kernel, by decide⟩, rfl, by rw [List.length_append, lb0]; rfl⟩
  rw [← eb1]
  clear eb1
  refine n4 _ _ ?_
  clear n4 N4
  generalize Cell.lst (b0.map AV.im) = old
  refine wSeq_of fun N5 n5 => ?_
  simp only [startA, List.map_cons, List.map_nil, List.length_cons, List.length_nil, List.replicate, List.cons_append, List.nil_append, Nat.reduceAdd, Nat.reduceSub, Nat.zero_add, Nat.sub_self, List.getElem?_cons_zero, List.getElem?_cons_succ, Option.map_some, wRet, wRetN, wSeq, wNext, wDrop, wIfS, wAsg, wgN, wgTup, wgCons, wgNil, wPar, wOr, wAnd, Ab.wNot, wIf, wOp, wUn, wCB, wCons, wNil, wTup, wLst, wLstM, wV, wC, wB, wCh, Ab.wTru, wNotT, wAndT, wOrT, wSl, wNo, wSome, wCall, wIsI, wIsI2, wStrip, wRev, gPop, wDNew, wDNewM, wSlW, gSlW, gAddM, gTimes, itemsA, wML, wYes, gIn, gInS, gIx, gEqv, gLt, gOrd, gAdd, gMinus, gInt, gNeg, gIs, gSl, gLen, gAbs, gTwo, gI1, gApp, gExt, gTupOf, gListOf, gListM, ims, asQ, asT, asL, dat, tru, at0, at1, at2, id_eq, AV.und, keyA, Ab.isNon, wipeS, List.set_cons_zero, List.set_cons_succ, wgSub, gSt, retA, List.take_length, takeSet, takeSet2, List.foldl_cons, List.foldl_nil, List.zip_cons_cons, List.zip_nil_right, keepS_nil, keepS_cons, keepO_none, keepO_im, keepO_wl, List.length_set, List.length_append, List.set_set, true_and, any_pr, snocAt, snocTake, ims_map, ims_mapF, atD, Option.isSome_some, Option.isSome_none, if_true, if_false, Bool.false_eq_true, ite_true, ite_false]
  refine ⟨by decide, by decide, by decide, by decide, by rw [List.length_map, lb1]; decide, ?_⟩
  obtain ⟨b2, hb2, eb2, lb2⟩ : ∃ b2 : List PyData, (∀ v ∈ b2, Fine v) ∧ b2.map AV.im = b1.map AV.im ++ [.im (.tuple [.str (Str.ofString "a"), .int 1]), .im (.tuple [.tuple [.str (Str.ofString "a"), .int 0]])] ∧ b2.length = 18 :=
    ⟨b1 ++ [.tuple [.str (Str.ofString "a"), .int 1], .tuple [.tuple [.str (Str.ofString "a"), .int 0]]], fun v hv => by
      rcases List.mem_append.mp hv with h | h
      · exact hb1 v h
      · simp only [List.mem_cons, List.not_mem_nil, or_false] at h
        rcases h with h | h <;> subst h
        · exact ⟨⟨litA, litN _ (by decide), trivial⟩, by decide +kernel, by decide⟩
        · exact ⟨⟨⟨litA, litN _ (by decide), trivial⟩, trivial⟩, by decide +kernel, by decide⟩, by rw [List.map_append]; rfl, by rw [List.length_append, lb1]; rfl⟩
  rw [← eb2, List.append_assoc, List.cons_append, List.cons_append, List.nil_append]
  clear eb2
  refine n5 _ _ ?_
  clear n5 N5
  refine wSeq_of fun N6 n6 => ?_
  refine wFor_of fun B1 b1' => ?_
  simp only [startA, List.map_cons, List.map_nil, List.length_cons, List.length_nil, List.replicate, List.cons_append, List.nil_append, Nat.reduceAdd, Nat.reduceSub, Nat.zero_add, Nat.sub_self, List.getElem?_cons_zero, List.getElem?_cons_succ, Option.map_some, wRet, wRetN, wSeq, wNext, wDrop, wIfS, wAsg, wgN, wgTup, wgCons, wgNil, wPar, wOr, wAnd, Ab.wNot, wIf, wOp, wUn, wCB, wCons, wNil, wTup, wLst, wLstM, wV, wC, wB, wCh, Ab.wTru, wNotT, wAndT, wOrT, wSl, wNo, wSome, wCall, wIsI, wIsI2, wStrip, wRev, gPop, wDNew, wDNewM, wSlW, gSlW, gAddM, gTimes, itemsA, wML, wYes, gIn, gInS, gIx, gEqv, gLt, gOrd, gAdd, gMinus, gInt, gNeg, gIs, gSl, gLen, gAbs, gTwo, gI1, gApp, gExt, gTupOf, gListOf, gListM, ims, asQ, asT, asL, dat, tru, at0, at1, at2, id_eq, AV.und, keyA, Ab.isNon, wipeS, List.set_cons_zero, List.set_cons_succ, wgSub, gSt, retA, List.take_length, takeSet, takeSet2, List.foldl_cons, List.foldl_nil, List.zip_cons_cons, List.zip_nil_right, keepS_nil, keepS_cons, keepO_none, keepO_im, keepO_wl, List.length_set, List.length_append, List.set_set, true_and, any_pr, snocAt, snocTake, ims_map, ims_mapF, atD, Option.isSome_some, Option.isSome_none, if_true, if_false, Bool.false_eq_true, ite_true, ite_false, wiR1]
  refine ⟨⟨by decide, by decide⟩, ?_⟩
  refine for_inv (fun xs ρ m' => ∃ cnt2 c r all, cnt2 + 14 * xs.length ≤ cnt + 98 ∧ m' = m.set i c ++ [tur, old, .lst (all.map .im)] ∧ (∀ v ∈ all, Fine v) ∧ all.length + 2 * xs.length ≤ 24 ∧ dkC cnt2 c ∧
      ρ = [some (.mu i), some (.wl (ss.map .str)), some (.im (.tuple st)), some (.mu (m.length + 2))] ++ r ∧ r.length = 5) (fun _ _ _ _ => trivial) ?_ ?_ ⟨_, c5, _, b2, ?_, rfl, hb2, by simp [rngL, lb2], hc5, rfl, rfl⟩
  · rintro x2 xs2 ρ m' nx2 ⟨cnt2, c, r, all, hcnt2, rfl, hall, hal, hc, rfl, hr5⟩ next2
    obtain ⟨s4, s5, s6, s7, s8, rfl⟩ := len5 hr5
    rw [List.length_cons] at hcnt2 hal
    refine b1' _ _ _ _ ?_
    clear b1'
    refine wSeq_of fun N7 n7 => ?_
    simp only [startA, List.map_cons, List.map_nil, List.length_cons, List.length_nil, List.replicate, List.cons_append, List.nil_append, Nat.reduceAdd, Nat.reduceSub, Nat.zero_add, Nat.sub_self, List.getElem?_cons_zero, List.getElem?_cons_succ, Option.map_some, wRet, wRetN, wSeq, wNext, wDrop, wIfS, wAsg, wgN, wgTup, wgCons, wgNil, wPar, wOr, wAnd, Ab.wNot, wIf, wOp, wUn, wCB, wCons, wNil, wTup, wLst, wLstM, wV, wC, wB, wCh, Ab.wTru, wNotT, wAndT, wOrT, wSl, wNo, wSome, wCall, wIsI, wIsI2, wStrip, wRev, gPop, wDNew, wDNewM, wSlW, gSlW, gAddM, gTimes, itemsA, wML, wYes, gIn, gInS, gIx, gEqv, gLt, gOrd, gAdd, gMinus, gInt, gNeg, gIs, gSl, gLen, gAbs, gTwo, gI1, gApp, gExt, gTupOf, gListOf, gListM, ims, asQ, asT, asL, dat, tru, at0, at1, at2, id_eq, AV.und, keyA, Ab.isNon, wipeS, List.set_cons_zero, List.set_cons_succ, wgSub, gSt, retA, List.take_length, takeSet, takeSet2, List.foldl_cons, List.foldl_nil, List.zip_cons_cons, List.zip_nil_right, keepS_nil, keepS_cons, keepO_none, keepO_im, keepO_wl, List.length_set, List.length_append, List.set_set, true_and, any_pr, snocAt, snocTake, ims_map, ims_mapF, atD, Option.isSome_some, Option.isSome_none, if_true, if_false, Bool.false_eq_true, ite_true, ite_false]
    refine ⟨i, cnt2, .tuple st, 3, _, _, _, rfl, ⟨c, Li _ _, hc⟩, by decide, by omega, o1, by decide, by decide, by decide, fun d1 c8 g1 hc8 => ?_⟩
    simp only [startA, List.map_cons, List.map_nil, List.length_cons, List.length_nil, List.replicate, List.cons_append, List.nil_append, Nat.reduceAdd, Nat.reduceSub, Nat.zero_add, Nat.sub_self, List.getElem?_cons_zero, List.getElem?_cons_succ, Option.map_some, wRet, wRetN, wSeq, wNext, wDrop, wIfS, wAsg, wgN, wgTup, wgCons, wgNil, wPar, wOr, wAnd, Ab.wNot, wIf, wOp, wUn, wCB, wCons, wNil, wTup, wLst, wLstM, wV, wC, wB, wCh, Ab.wTru, wNotT, wAndT, wOrT, wSl, wNo, wSome, wCall, wIsI, wIsI2, wStrip, wRev, gPop, wDNew, wDNewM, wSlW, gSlW, gAddM, gTimes, itemsA, wML, wYes, gIn, gInS, gIx, gEqv, gLt, gOrd, gAdd, gMinus, gInt, gNeg, gIs, gSl, gLen, gAbs, gTwo, gI1, gApp, gExt, gTupOf, gListOf, gListM, ims, asQ, asT, asL, dat, tru, at0, at1, at2, id_eq, AV.und, keyA, Ab.isNon, wipeS, List.set_cons_zero, List.set_cons_succ, wgSub, gSt, retA, List.take_length, takeSet, takeSet2, List.foldl_cons, List.foldl_nil, List.zip_cons_cons, List.zip_nil_right, keepS_nil, keepS_cons, keepO_none, keepO_im, keepO_wl, List.length_set, List.length_append, List.set_set, true_and, any_pr, snocAt, snocTake, ims_map, ims_mapF, atD, Option.isSome_some, Option.isSome_none, if_true, if_false, Bool.false_eq_true, ite_true, ite_false, Si]
    refine n7 _ _ ?_
    clear n7 N7
    simp only [startA, List.map_cons, List.map_nil, List.length_cons, List.length_nil, List.replicate, List.cons_append, List.nil_append, Nat.reduceAdd, Nat.reduceSub, Nat.zero_add, Nat.sub_self, List.getElem?_cons_zero, List.getElem?_cons_succ, Option.map_some, wRet, wRetN, wSeq, wNext, wDrop, wIfS, wAsg, wgN, wgTup, wgCons, wgNil, wPar, wOr, wAnd, Ab.wNot, wIf, wOp, wUn, wCB, wCons, wNil, wTup, wLst, wLstM, wV, wC, wB, wCh, Ab.wTru, wNotT, wAndT, wOrT, wSl, wNo, wSome, wCall, wIsI, wIsI2, wStrip, wRev, gPop, wDNew, wDNewM, wSlW, gSlW, gAddM, gTimes, itemsA, wML, wYes, gIn, gInS, gIx, gEqv, gLt, gOrd, gAdd, gMinus, gInt, gNeg, gIs, gSl, gLen, gAbs, gTwo, gI1, gApp, gExt, gTupOf, gListOf, gListM, ims, asQ, asT, asL, dat, tru, at0, at1, at2, id_eq, AV.und, keyA, Ab.isNon, wipeS, List.set_cons_zero, List.set_cons_succ, wgSub, gSt, retA, List.take_length, takeSet, takeSet2, List.foldl_cons, List.foldl_nil, List.zip_cons_cons, List.zip_nil_right, keepS_nil, keepS_cons, keepO_none, keepO_im, keepO_wl, List.length_set, List.length_append, List.set_set, true_and, any_pr, snocAt, snocTake, ims_map, ims_mapF, atD, Option.isSome_some, Option.isSome_none, if_true, if_false, Bool.false_eq_true, ite_true, ite_false, L2, isList]
    refine ⟨i, cnt2 + 2 * 3 + 1, d1, 3, _, _, _, rfl, ⟨c8, Li _ _, hc8⟩, by decide, by omega, g1, by decide, by decide, by decide, fun d2 c9 g2 hc9 => ?_⟩
    simp only [startA, List.map_cons, List.map_nil, List.length_cons, List.length_nil, List.replicate, List.cons_append, List.nil_append, Nat.reduceAdd, Nat.reduceSub, Nat.zero_add, Nat.sub_self, List.getElem?_cons_zero, List.getElem?_cons_succ, Option.map_some, wRet, wRetN, wSeq, wNext, wDrop, wIfS, wAsg, wgN, wgTup, wgCons, wgNil, wPar, wOr, wAnd, Ab.wNot, wIf, wOp, wUn, wCB, wCons, wNil, wTup, wLst, wLstM, wV, wC, wB, wCh, Ab.wTru, wNotT, wAndT, wOrT, wSl, wNo, wSome, wCall, wIsI, wIsI2, wStrip, wRev, gPop, wDNew, wDNewM, wSlW, gSlW, gAddM, gTimes, itemsA, wML, wYes, gIn, gInS, gIx, gEqv, gLt, gOrd, gAdd, gMinus, gInt, gNeg, gIs, gSl, gLen, gAbs, gTwo, gI1, gApp, gExt, gTupOf, gListOf, gListM, ims, asQ, asT, asL, dat, tru, at0, at1, at2, id_eq, AV.und, keyA, Ab.isNon, wipeS, List.set_cons_zero, List.set_cons_succ, wgSub, gSt, retA, List.take_length, takeSet, takeSet2, List.foldl_cons, List.foldl_nil, List.zip_cons_cons, List.zip_nil_right, keepS_nil, keepS_cons, keepO_none, keepO_im, keepO_wl, List.length_set, List.length_append, List.set_set, true_and, any_pr, snocAt, snocTake, ims_map, ims_mapF, atD, Option.isSome_some, Option.isSome_none, if_true, if_false, Bool.false_eq_true, ite_true, ite_false, Si, L2, S2]
    refine ⟨by decide, by rw [sizeLine_eq, List.length_map]; omega, ?_⟩
    refine next2 _ _ ⟨cnt2 + 14, c9, _, all ++ [d1, d2], by omega, ?_, fun v hv => ?_, by rw [List.length_append]; simp only [List.length_cons, List.length_nil]; omega, hc9.mono (by omega), by simp only [startA, List.map_cons, List.map_nil, List.length_cons, List.length_nil, List.replicate, List.cons_append, List.nil_append, Nat.reduceAdd, Nat.reduceSub, Nat.zero_add, Nat.sub_self, List.getElem?_cons_zero, List.getElem?_cons_succ, Option.map_some, wRet, wRetN, wSeq, wNext, wDrop, wIfS, wAsg, wgN, wgTup, wgCons, wgNil, wPar, wOr, wAnd, Ab.wNot, wIf, wOp, wUn, wCB, wCons, wNil, wTup, wLst, wLstM, wV, wC, wB, wCh, Ab.wTru, wNotT, wAndT, wOrT, wSl, wNo, wSome, wCall, wIsI, wIsI2, wStrip, wRev, gPop, wDNew, wDNewM, wSlW, gSlW, gAddM, gTimes, itemsA, wML, wYes, gIn, gInS, gIx, gEqv, gLt, gOrd, gAdd, gMinus, gInt, gNeg, gIs, gSl, gLen, gAbs, gTwo, gI1, gApp, gExt, gTupOf, gListOf, gListM, ims, asQ, asT, asL, dat, tru, at0, at1, at2, id_eq, AV.und, keyA, Ab.isNon, wipeS, List.set_cons_zero, List.set_cons_succ, wgSub, gSt, retA, List.take_length, takeSet, takeSet2, List.foldl_cons, List.foldl_nil, List.zip_cons_cons, List.zip_nil_right, keepS_nil, keepS_cons, keepO_none, keepO_im, keepO_wl, List.length_set, List.length_append, List.set_set, true_and, any_pr, snocAt, snocTake, ims_map, ims_mapF, atD, Option.isSome_some, Option.isSome_none, if_true, if_false, Bool.false_eq_true, ite_true, ite_false, keepO_mu (show i < m.length + 3 by omega), keepO_mu (show m.length + 2 < m.length + 3 by omega)] <;> rfl, by simp [keepS]⟩
    · rw [List.take_of_length_le (by simp), List.map_append]; rfl
    · rcases List.mem_append.mp hv with h | h
      · exact hall v h
      · simp only [List.mem_cons, List.not_mem_nil, or_false] at h
        rcases h with h | h <;> subst h
        · exact g1.fine (by decide) (by decide) (by decide)
        · exact g2.fine (by decide) (by decide) (by decide)
  · rintro ρ m' ⟨cnt2, c, r, all, hcnt2, rfl, hall, hal, hc, rfl, hr5⟩
    obtain ⟨s4, s5, s6, s7, s8, rfl⟩ := len5 hr5
    simp only [List.length_nil, Nat.mul_zero, Nat.add_zero] at hcnt2 hal
    refine n6 _ _ ?_
    clear n6 b1'
    refine wSeq_of fun N8 n8 => ?_
    refine wFor_of fun B2 b2' => ?_
    simp only [startA, List.map_cons, List.map_nil, List.length_cons, List.length_nil, List.replicate, List.cons_append, List.nil_append, Nat.reduceAdd, Nat.reduceSub, Nat.zero_add, Nat.sub_self, List.getElem?_cons_zero, List.getElem?_cons_succ, Option.map_some, wRet, wRetN, wSeq, wNext, wDrop, wIfS, wAsg, wgN, wgTup, wgCons, wgNil, wPar, wOr, wAnd, Ab.wNot, wIf, wOp, wUn, wCB, wCons, wNil, wTup, wLst, wLstM, wV, wC, wB, wCh, Ab.wTru, wNotT, wAndT, wOrT, wSl, wNo, wSome, wCall, wIsI, wIsI2, wStrip, wRev, gPop, wDNew, wDNewM, wSlW, gSlW, gAddM, gTimes, itemsA, wML, wYes, gIn, gInS, gIx, gEqv, gLt, gOrd, gAdd, gMinus, gInt, gNeg, gIs, gSl, gLen, gAbs, gTwo, gI1, gApp, gExt, gTupOf, gListOf, gListM, ims, asQ, asT, asL, dat, tru, at0, at1, at2, id_eq, AV.und, keyA, Ab.isNon, wipeS, List.set_cons_zero, List.set_cons_succ, wgSub, gSt, retA, List.take_length, takeSet, takeSet2, List.foldl_cons, List.foldl_nil, List.zip_cons_cons, List.zip_nil_right, keepS_nil, keepS_cons, keepO_none, keepO_im, keepO_wl, List.length_set, List.length_append, List.set_set, true_and, any_pr, snocAt, snocTake, ims_map, ims_mapF, atD, Option.isSome_some, Option.isSome_none, if_true, if_false, Bool.false_eq_true, ite_true, ite_false, wiAny, L2]
    refine for_inv (fun xs ρ m' => ∃ l r, xs = l.map AV.im ∧ (∀ v ∈ l, Fine v) ∧ m' = m.set i c ++ [tur, old, .lst (all.map .im)] ∧ ρ = [some (.mu i), some (.wl (ss.map .str)), some (.im (.tuple st)), some (.mu (m.length + 2))] ++ r ∧ r.length = 5) ?_ ?_ ?_ ⟨all, _, rfl, hall, rfl, rfl, rfl⟩
    · rintro xs ρ m' ⟨l, r, _, _, rfl, _, _⟩
      exact L2 _ _ _ _ _
    · rintro x3 xs3 ρ m' nx3 ⟨l, r, el, hl, rfl, rfl, hr5⟩ next3
      obtain ⟨s4, s5, s6, s7, s8, rfl⟩ := len5 hr5
      obtain ⟨v, l, rfl, rfl, rfl⟩ : ∃ f l', l = f :: l' ∧ x3 = .im f ∧ xs3 = l'.map AV.im := by
        cases l with
        | nil => cases el
        | cons t l' => simp only [List.map_cons, List.cons.injEq] at el; exact ⟨t, l', rfl, el.1, el.2⟩
      have fv := hl v List.mem_cons_self
      obtain ⟨r1, r2, r3⟩ := repr_ok fv.1 fv.2.1 (by decide) fv.2.2
      refine b2' _ _ _ _ ?_
      clear b2'
      refine wSeq_of fun N9 n9 => ?_
      simp only [startA, List.map_cons, List.map_nil, List.length_cons, List.length_nil, List.replicate, List.cons_append, List.nil_append, Nat.reduceAdd, Nat.reduceSub, Nat.zero_add, Nat.sub_self, List.getElem?_cons_zero, List.getElem?_cons_succ, Option.map_some, wRet, wRetN, wSeq, wNext, wDrop, wIfS, wAsg, wgN, wgTup, wgCons, wgNil, wPar, wOr, wAnd, Ab.wNot, wIf, wOp, wUn, wCB, wCons, wNil, wTup, wLst, wLstM, wV, wC, wB, wCh, Ab.wTru, wNotT, wAndT, wOrT, wSl, wNo, wSome, wCall, wIsI, wIsI2, wStrip, wRev, gPop, wDNew, wDNewM, wSlW, gSlW, gAddM, gTimes, itemsA, wML, wYes, gIn, gInS, gIx, gEqv, gLt, gOrd, gAdd, gMinus, gInt, gNeg, gIs, gSl, gLen, gAbs, gTwo, gI1, gApp, gExt, gTupOf, gListOf, gListM, ims, asQ, asT, asL, dat, tru, at0, at1, at2, id_eq, AV.und, keyA, Ab.isNon, wipeS, List.set_cons_zero, List.set_cons_succ, wgSub, gSt, retA, List.take_length, takeSet, takeSet2, List.foldl_cons, List.foldl_nil, List.zip_cons_cons, List.zip_nil_right, keepS_nil, keepS_cons, keepO_none, keepO_im, keepO_wl, List.length_set, List.length_append, List.set_set, true_and, any_pr, snocAt, snocTake, ims_map, ims_mapF, atD, Option.isSome_some, Option.isSome_none, if_true, if_false, Bool.false_eq_true, ite_true, ite_false, gRepr]
      refine ⟨r1, r2, r3, .inr ⟨_, rfl⟩, n9 _ _ ?_⟩
      clear n9
      have rb : ∀ b : Bool, (PyData.bool b).showable = true ∧ (PyData.bool b).depth ≤ 100 ∧ (PyData.bool b).shown.length ≤ sizeLine := fun b => repr_ok (W := 100) trivial (by simp [wt]) (by decide) (by simp [PyData.depth])
      simp only [startA, List.map_cons, List.map_nil, List.length_cons, List.length_nil, List.replicate, List.cons_append, List.nil_append, Nat.reduceAdd, Nat.reduceSub, Nat.zero_add, Nat.sub_self, List.getElem?_cons_zero, List.getElem?_cons_succ, Option.map_some, wRet, wRetN, wSeq, wNext, wDrop, wIfS, wAsg, wgN, wgTup, wgCons, wgNil, wPar, wOr, wAnd, Ab.wNot, wIf, wOp, wUn, wCB, wCons, wNil, wTup, wLst, wLstM, wV, wC, wB, wCh, Ab.wTru, wNotT, wAndT, wOrT, wSl, wNo, wSome, wCall, wIsI, wIsI2, wStrip, wRev, gPop, wDNew, wDNewM, wSlW, gSlW, gAddM, gTimes, itemsA, wML, wYes, gIn, gInS, gIx, gEqv, gLt, gOrd, gAdd, gMinus, gInt, gNeg, gIs, gSl, gLen, gAbs, gTwo, gI1, gApp, gExt, gTupOf, gListOf, gListM, ims, asQ, asT, asL, dat, tru, at0, at1, at2, id_eq, AV.und, keyA, Ab.isNon, wipeS, List.set_cons_zero, List.set_cons_succ, wgSub, gSt, retA, List.take_length, takeSet, takeSet2, List.foldl_cons, List.foldl_nil, List.zip_cons_cons, List.zip_nil_right, keepS_nil, keepS_cons, keepO_none, keepO_im, keepO_wl, List.length_set, List.length_append, List.set_set, true_and, any_pr, snocAt, snocTake, ims_map, ims_mapF, atD, Option.isSome_some, Option.isSome_none, if_true, if_false, Bool.false_eq_true, ite_true, ite_false, gRepr]
      refine ⟨[v], _, rfl, ⟨v, rfl, Nat.le_trans fv.2.1 (by decide), rfl⟩, ?_⟩
      simp only [startA, List.map_cons, List.map_nil, List.length_cons, List.length_nil, List.replicate, List.cons_append, List.nil_append, Nat.reduceAdd, Nat.reduceSub, Nat.zero_add, Nat.sub_self, List.getElem?_cons_zero, List.getElem?_cons_succ, Option.map_some, wRet, wRetN, wSeq, wNext, wDrop, wIfS, wAsg, wgN, wgTup, wgCons, wgNil, wPar, wOr, wAnd, Ab.wNot, wIf, wOp, wUn, wCB, wCons, wNil, wTup, wLst, wLstM, wV, wC, wB, wCh, Ab.wTru, wNotT, wAndT, wOrT, wSl, wNo, wSome, wCall, wIsI, wIsI2, wStrip, wRev, gPop, wDNew, wDNewM, wSlW, gSlW, gAddM, gTimes, itemsA, wML, wYes, gIn, gInS, gIx, gEqv, gLt, gOrd, gAdd, gMinus, gInt, gNeg, gIs, gSl, gLen, gAbs, gTwo, gI1, gApp, gExt, gTupOf, gListOf, gListM, ims, asQ, asT, asL, dat, tru, at0, at1, at2, id_eq, AV.und, keyA, Ab.isNon, wipeS, List.set_cons_zero, List.set_cons_succ, wgSub, gSt, retA, List.take_length, takeSet, takeSet2, List.foldl_cons, List.foldl_nil, List.zip_cons_cons, List.zip_nil_right, keepS_nil, keepS_cons, keepO_none, keepO_im, keepO_wl, List.length_set, List.length_append, List.set_set, true_and, any_pr, snocAt, snocTake, ims_map, ims_mapF, atD, Option.isSome_some, Option.isSome_none, if_true, if_false, Bool.false_eq_true, ite_true, ite_false, gRepr]
      obtain ⟨x1, x2, x3⟩ := rb (pricesB v)
      refine ⟨x1, x2, x3, .inr ⟨_, rfl⟩, [v], _, rfl, ⟨v, rfl, Nat.le_trans fv.2.1 (by decide), rfl⟩, ?_⟩
      simp only [startA, List.map_cons, List.map_nil, List.length_cons, List.length_nil, List.replicate, List.cons_append, List.nil_append, Nat.reduceAdd, Nat.reduceSub, Nat.zero_add, Nat.sub_self, List.getElem?_cons_zero, List.getElem?_cons_succ, Option.map_some, wRet, wRetN, wSeq, wNext, wDrop, wIfS, wAsg, wgN, wgTup, wgCons, wgNil, wPar, wOr, wAnd, Ab.wNot, wIf, wOp, wUn, wCB, wCons, wNil, wTup, wLst, wLstM, wV, wC, wB, wCh, Ab.wTru, wNotT, wAndT, wOrT, wSl, wNo, wSome, wCall, wIsI, wIsI2, wStrip, wRev, gPop, wDNew, wDNewM, wSlW, gSlW, gAddM, gTimes, itemsA, wML, wYes, gIn, gInS, gIx, gEqv, gLt, gOrd, gAdd, gMinus, gInt, gNeg, gIs, gSl, gLen, gAbs, gTwo, gI1, gApp, gExt, gTupOf, gListOf, gListM, ims, asQ, asT, asL, dat, tru, at0, at1, at2, id_eq, AV.und, keyA, Ab.isNon, wipeS, List.set_cons_zero, List.set_cons_succ, wgSub, gSt, retA, List.take_length, takeSet, takeSet2, List.foldl_cons, List.foldl_nil, List.zip_cons_cons, List.zip_nil_right, keepS_nil, keepS_cons, keepO_none, keepO_im, keepO_wl, List.length_set, List.length_append, List.set_set, true_and, any_pr, snocAt, snocTake, ims_map, ims_mapF, atD, Option.isSome_some, Option.isSome_none, if_true, if_false, Bool.false_eq_true, ite_true, ite_false, gRepr]
      refine ⟨x1, x2, x3, .inr ⟨_, rfl⟩, ?_⟩
      simp only [decide_true, Bool.not_true, Bool.false_eq_true, if_false]
      refine ⟨r1, r2, r3, .inr ⟨_, rfl⟩, ?_⟩
      refine next3 _ _ ⟨l, _, rfl, fun u hu => hl u (List.mem_cons_of_mem _ hu), ?_, by simp only [startA, List.map_cons, List.map_nil, List.length_cons, List.length_nil, List.replicate, List.cons_append, List.nil_append, Nat.reduceAdd, Nat.reduceSub, Nat.zero_add, Nat.sub_self, List.getElem?_cons_zero, List.getElem?_cons_succ, Option.map_some, wRet, wRetN, wSeq, wNext, wDrop, wIfS, wAsg, wgN, wgTup, wgCons, wgNil, wPar, wOr, wAnd, Ab.wNot, wIf, wOp, wUn, wCB, wCons, wNil, wTup, wLst, wLstM, wV, wC, wB, wCh, Ab.wTru, wNotT, wAndT, wOrT, wSl, wNo, wSome, wCall, wIsI, wIsI2, wStrip, wRev, gPop, wDNew, wDNewM, wSlW, gSlW, gAddM, gTimes, itemsA, wML, wYes, gIn, gInS, gIx, gEqv, gLt, gOrd, gAdd, gMinus, gInt, gNeg, gIs, gSl, gLen, gAbs, gTwo, gI1, gApp, gExt, gTupOf, gListOf, gListM, ims, asQ, asT, asL, dat, tru, at0, at1, at2, id_eq, AV.und, keyA, Ab.isNon, wipeS, List.set_cons_zero, List.set_cons_succ, wgSub, gSt, retA, List.take_length, takeSet, takeSet2, List.foldl_cons, List.foldl_nil, List.zip_cons_cons, List.zip_nil_right, keepS_nil, keepS_cons, keepO_none, keepO_im, keepO_wl, List.length_set, List.length_append, List.set_set, true_and, any_pr, snocAt, snocTake, ims_map, ims_mapF, atD, Option.isSome_some, Option.isSome_none, if_true, if_false, Bool.false_eq_true, ite_true, ite_false, keepO_mu (show i < m.length + 3 by omega), keepO_mu (show m.length + 2 < m.length + 3 by omega)] <;> rfl, by simp [keepS]⟩
      rw [List.take_of_length_le (by simp)]
    · rintro ρ m' ⟨l, r, el, hl, rfl, rfl, hr5⟩
      refine n8 _ _ ?_
      simp only [startA, List.map_cons, List.map_nil, List.length_cons, List.length_nil, List.replicate, List.cons_append, List.nil_append, Nat.reduceAdd, Nat.reduceSub, Nat.zero_add, Nat.sub_self, List.getElem?_cons_zero, List.getElem?_cons_succ, Option.map_some, wRet, wRetN, wSeq, wNext, wDrop, wIfS, wAsg, wgN, wgTup, wgCons, wgNil, wPar, wOr, wAnd, Ab.wNot, wIf, wOp, wUn, wCB, wCons, wNil, wTup, wLst, wLstM, wV, wC, wB, wCh, Ab.wTru, wNotT, wAndT, wOrT, wSl, wNo, wSome, wCall, wIsI, wIsI2, wStrip, wRev, gPop, wDNew, wDNewM, wSlW, gSlW, gAddM, gTimes, itemsA, wML, wYes, gIn, gInS, gIx, gEqv, gLt, gOrd, gAdd, gMinus, gInt, gNeg, gIs, gSl, gLen, gAbs, gTwo, gI1, gApp, gExt, gTupOf, gListOf, gListM, ims, asQ, asT, asL, dat, tru, at0, at1, at2, id_eq, AV.und, keyA, Ab.isNon, wipeS, List.set_cons_zero, List.set_cons_succ, wgSub, gSt, retA, List.take_length, takeSet, takeSet2, List.foldl_cons, List.foldl_nil, List.zip_cons_cons, List.zip_nil_right, keepS_nil, keepS_cons, keepO_none, keepO_im, keepO_wl, List.length_set, List.length_append, List.set_set, true_and, any_pr, snocAt, snocTake, ims_map, ims_mapF, atD, Option.isSome_some, Option.isSome_none, if_true, if_false, Bool.false_eq_true, ite_true, ite_false]
      exact q c (hc.mono (by omega))
  · simp [rngL]; omega
end
end K37
end

section
set_option maxRecDepth 100000
set_option maxHeartbeats 2000000
namespace K37
open PySem PySem.Spec PyProof.Rows L2 Gd Ab
abbrev s_law : Stmt := topS 23
theorem sc_law : FnScope ["_law_script", "_law_k", "_law_deck_here", "_law_turn"] ["_law_script"] (defScope s_law) := ⟨rfl, rfl, rfl, by decide +kernel, rfl, by decide +kernel, by decide +kernel⟩
section
variable {P : Program} {w : World} {K : PySem.W.Frag} {mg : Str → Option Value} {base : Heap} {t1 t2 : Tok}
theorem sqL_keep {H H' : Hp} {a : Addr} {xs : List V} (h : SqL K H a xs) (k : Kp [] H H') : SqL K H' a xs :=
  h.elim (fun h => .inl (h.elim (fun h => .inl (k _ _ List.not_mem_nil h)) fun ⟨o, h⟩ => .inr ⟨o, k _ _ List.not_mem_nil h⟩)) .inr
def spLaw (K : PySem.W.Frag) : Sp := fun vs H Q _ => ∃ (a : Addr) (ns : List Int), vs = [.ref a] ∧ SqL K H a (ns.map V.int) ∧ ns.length ≤ 63 ∧ ∀ H', Q (.bl true) H'
/-- a deck that goes on -/
def spRight : Sp := fun vs H Q _ => ∃ (a : Addr) (n : Nat), vs = [.ref a] ∧ Deck H a n ∧ n ≤ 10000 ∧ ∀ H', Kp [a] H H' → Deck H' a (n + 100) → Q (.bl true) H'
theorem right_c {k : Nat} (C : Callee P w K mg base CX0 k "_law_right" ["_law_deck_here"] (lift aRight)) : Callee P w K mg base CX0 k "_law_right" ["_law_deck_here"] spRight := C.imp fun vs H Q E h => by
  obtain ⟨a, n, rfl, ⟨x, y, c, e, h1, h2, h3, h4, h5⟩, hn, q⟩ := h
  refine ⟨[], [a], [.lst [.im (.int x), .im (.int y), .im (.int c)]], [.mu 0], fun d m' => d = .im (.bool true) ∧ ∃ c', m' = [c'] ∧ dkC (n + 100) c', noE, ⟨by simp, rfl, fun i b c' g1 g2 => ?_, fun b hb => ?_⟩, .cons ⟨Nat.zero_lt_one, a, rfl, rfl⟩ .nil, ⟨0, n, rfl, ⟨_, rfl, x, y, c, rfl, h1, h2, h3, h4, h5⟩, hn, fun c' hc' => ⟨rfl, c', rfl, hc'⟩⟩, .no, fun v d M' H' m' x' R' r hd => ?_⟩
  · match i, g1, g2 with
    | 0, g1, g2 => cases g1; cases g2; exact ⟨_, e, .cons (.int _) (.cons (.int _) (.cons (.int _) .nil))⟩
    | i + 1, g1, _ => simp at g1
  · have : b = a := by simpa using hb
    subst this
    exact ⟨_, e⟩
  · obtain ⟨rfl, c', rfl, hc'⟩ := hd
    cases r
    obtain ⟨a', ha', dk⟩ := deck_of R' (i := 0) rfl hc'
    have := x'.get (i := 0) rfl
    rw [this] at ha'
    cases ha'
    exact q H' x'.kp dk
theorem ok_law {f : Addr} {fd : FuncData} (B : Bs mg t1 t2) (F : Fun K "law" "law" s_law f fd) (C_law_deck : Callee P w K mg base CX0 1 "_law_deck" ["_law_script", "_law_k"] (spDeck K)) {R : Nat} (hR : R ≤ 8) (C_law_right : Callee P w K mg base CX0 R "_law_right" ["_law_deck_here"] spRight) :
    FnG P w K mg base CX0 9 f fd ["_law_script"] (spLaw K) := by
  refine okG F sc_law (fun _ _ _ _ ⟨_, _, e, _⟩ => by rw [e]; rfl) fun cdv A outer s H vs Q E hgu hr h => ?_
  obtain ⟨a, ns, rfl, hS, hn, q⟩ := h
  refine ⟨_, (pss_cons (ps_for PassesOwn.never rfl (pi_range1 (by rfl) B.range (pa_cons (pe_callB (call_max2 rfl) (by rfl) B.max (by decide +kernel) (pa_cons pe_int (pa_cons (pe_callB (call_min2 rfl) (by rfl) B.min (by decide +kernel) (pa_cons pe_int (pa_cons (pe_callB call_len (by rfl) B.len PySem.boot_len (pa_cons (pv 0) pa_nil)) pa_nil))) pa_nil))) pa_nil)) (pg_name (i := 1) sc_law.nd rfl (.inl rfl)) (pss_cons (ps_set (i := 2) sc_law.nd rfl (.inr rfl) (pown C_law_deck hgu (hr.mono (by omega)) (by rfl) pass0 (pa_cons (pv 0) (pa_cons (pv 1) pa_nil))))
        (pss_one (ps_if (pt_not (pt_val (pe_callB (cr_all rfl) (by rfl) B.all (by decide +kernel) (pa_cons (pe_lc (own := [("_law_turn", 3)])  rfl sc_law.nd (pi_range1 (by rfl) B.range (pa_cons pe_int pa_nil)) (blkOk_by (N := ["_law_script", "_law_k", "_law_deck_here", "_law_turn"]) (sc := defScope s_law) (by decide +kernel)) (fun _ _ _ _ _ => (pg_name (i := 3) sc_law.nd rfl (.inl rfl))) (fun _ _ _ _ _ => pts_nil) (fun _ _ _ _ _ => (pown C_law_right hgu (hr.mono (by omega)) (by rfl) pass0 (pa_cons (pv 2) pa_nil)))) pa_nil)))) (pss_one (ps_ret pe_bl)) pss_nil))))
        (pss_one (ps_ret pe_bl))), ?_⟩
  have bd : ∃ j : Nat, (if (if (ns.length : Int) < 3 then (ns.length : Int) else 3) > 1 then (if (ns.length : Int) < 3 then (ns.length : Int) else 3) else 1) = j ∧ j ≤ 3 := by
    refine ⟨(if (if (ns.length : Int) < 3 then (ns.length : Int) else 3) > 1 then (if (ns.length : Int) < 3 then (ns.length : Int) else 3) else 1).toNat, ?_, ?_⟩
    all_goals
      repeat (split <;> try omega)
  obtain ⟨j, ej, hj⟩ := bd
  refine ⟨.ref a, rfl, .ref a, ns.length, rfl, .inl ⟨_, hS, by simp⟩, 3, ns.length, rfl, 1, _, rfl, _, rfl, ?_⟩
  rw [ej]
  refine ⟨by omega, by omega, ?_⟩
  refine for_range (fun i σ H' => ∃ v1 v2, σ = [some (.ref a), v1, v2, none] ∧ Kp [] H H') ⟨_, _, rfl, .refl⟩ (fun i σ H' hi ⟨v1, v2, e, k⟩ => ?_) (fun σ H' ⟨v1, v2, e, k⟩ => ?_)
  · subst e
    refine ⟨.ref a, rfl, .int (0 + i), rfl, a, ns, i, by rw [Int.zero_add]; rfl, sqL_keep hS k, by omega, fun p H1 k1 np dk => ?_⟩
    refine ⟨_, rfl, by decide, by decide, fun DD hD => ?_⟩
    obtain ⟨po, ep⟩ := dk.some
    have nDp : DD ≠ p := (ne_of_none ep hD).symm
    refine lc_by (walk_range (lo := 0) (n := (8 : Int).toNat)) (by decide) (fun i acc H3 => Kp [p] H1 H3 ∧ acc = (List.range i).map (fun _ => V.bl true) ∧ H3 DD = some (.lst acc) ∧ Deck H3 p (100 * i)) ⟨Kp.new hD, rfl, upd_same, dk.keep (Kp.new hD) List.not_mem_nil⟩ (fun _ _ _ _ _ => trivial) (fun i acc H3 ⟨_, e, ed, _⟩ => ⟨by rw [e]; simp, ed⟩) (fun i acc x H3 H4 hi ⟨k3, e, ed, dk3⟩ y Kt qq => ?_) fun acc H3 ⟨k3, e, ed, dk3⟩ => ?_
    · obtain ⟨rfl, rfl⟩ := y
      have hi8 : i < 8 := hi
      refine ⟨rfl, .ref p, rfl, p, 100 * i, rfl, dk3, by omega, fun H5 k5 dk5 => ?_⟩
      have ed5 : H5 DD = some (.lst acc) := k5 DD _ (fun z => nDp (List.mem_singleton.mp z)) ed
      refine qq _ H5 ed5 ⟨fun b o nb hb => ?_, by rw [e, List.range_succ, List.map_append]; rfl, upd_same, ?_⟩
      · rw [upd_ne (ne_of_none hb hD)]
        exact k5 b o nb (k3 b o nb hb)
      · have : 100 * (i + 1) = 100 * i + 100 := by omega
        rw [this]
        exact dk5.keep (M := [DD]) (Kp.put (by simp)) (fun z => nDp (List.mem_singleton.mp z).symm)
    · subst e
      refine ⟨DD, (List.range (8 : Int).toNat).map fun _ => true, rfl, .inl (.inl (by rw [List.map_map]; exact ed)), ?_⟩
      refine ⟨_, rfl, iteF ?_⟩
      exact ⟨_, _, rfl, k.trans (Kp.drop np (k1.same.trans k3))⟩
  · subst e
    exact q H'
end
end K37
end

section
set_option maxRecDepth 100000
set_option maxHeartbeats 2000000
namespace K37
open PySem PySem.Spec PyProof.Rows L2 Gd Ab
theorem defd {K : PySem.W.Frag} {mg : Str → Option Value} {h : Heap} {x : Str} {st : Stmt} {f : Addr} {oc : Value} {od an : Option Addr} {osl : Array (Option Value)} {kV doc pm cdv ct : Value} (X : K.In h) (G : h.Ns mainGlobals mg) (a : PySem.W.nsIn K mainGlobals x = some (some (.ref f)))
    (l : K.lookup f = some ⟨oc, od, .func (PySem.W.fnOf x x (defArgs st) (defBody st) (defScope st) .none kV doc pm an cdv ct), osl⟩) (c : PySem.W.codeIn K cdv x = true) (k : PySem.W.keepIn K (.ref f) = true) : Defd K mg x st := ⟨f, _, PySem.W.mg_of X G a, fun_mk (st := st) l c k⟩
theorem all_mk {l : PySem.W.OpenLaw} {w : World} {K : PySem.W.Frag} {h : Heap} {mg : Str → Option Value} {fa f0 f1 f2 f3 f4 f5 f6 f7 f8 f9 f10 f11 f12 f13 f14 f15 f16 f17 : Addr} (X : K.In h) (G : h.Ns mainGlobals mg) (hfa : mg "law" = some (.ref fa)) {t1 t2 : Tok}
    {od0 an0 od1 an1 od2 an2 od3 an3 od4 an4 od5 an5 od6 an6 od7 an7 od8 an8 od9 an9 od10 an10 od11 an11 od12 an12 od13 an13 od14 an14 od15 an15 od16 an16 od17 an17 : Option Addr} {sl0 sl1 sl2 sl3 sl4 sl5 sl6 sl7 sl8 sl9 sl10 sl11 sl12 sl13 sl14 sl15 sl16 sl17 : Array (Option Value)} {oc0 kV0 dc0 pm0 cd0 ct0 oc1 kV1 dc1 pm1 cd1 ct1 oc2 kV2 dc2 pm2 cd2 ct2 oc3 kV3 dc3 pm3 cd3 ct3 oc4 kV4 dc4 pm4 cd4 ct4 oc5 kV5 dc5 pm5 cd5 ct5 oc6 kV6 dc6 pm6 cd6 ct6 oc7 kV7 dc7 pm7 cd7 ct7 oc8 kV8 dc8 pm8 cd8 ct8 oc9 kV9 dc9 pm9 cd9 ct9 oc10 kV10 dc10 pm10 cd10 ct10 oc11 kV11 dc11 pm11 cd11 ct11 oc12 kV12 dc12 pm12 cd12 ct12 oc13 kV13 dc13 pm13 cd13 ct13 oc14 kV14 dc14 pm14 cd14 ct14 oc15 kV15 dc15 pm15 cd15 ct15 oc16 kV16 dc16 pm16 cd16 ct16 oc17 kV17 dc17 pm17 cd17 ct17 : Value}
    (a0 : PySem.W.nsIn K mainGlobals "is_integer" = some (some (.ref f0))) (l0 : K.lookup f0 = some ⟨oc0, od0, .func (PySem.W.fnOf "is_integer" "is_integer" (defArgs s_is_integer) (defBody s_is_integer) (defScope s_is_integer) .none kV0 dc0 pm0 an0 cd0 ct0), sl0⟩) (c0 : PySem.W.codeIn K cd0 "is_integer" = true) (k0 : PySem.W.keepIn K (.ref f0) = true)
    (a1 : PySem.W.nsIn K mainGlobals "is_ascending" = some (some (.ref f1))) (l1 : K.lookup f1 = some ⟨oc1, od1, .func (PySem.W.fnOf "is_ascending" "is_ascending" (defArgs s_is_ascending) (defBody s_is_ascending) (defScope s_is_ascending) .none kV1 dc1 pm1 an1 cd1 ct1), sl1⟩) (c1 : PySem.W.codeIn K cd1 "is_ascending" = true) (k1 : PySem.W.keepIn K (.ref f1) = true)
    (a2 : PySem.W.nsIn K mainGlobals "is_name" = some (some (.ref f2))) (l2 : K.lookup f2 = some ⟨oc2, od2, .func (PySem.W.fnOf "is_name" "is_name" (defArgs s_is_name) (defBody s_is_name) (defScope s_is_name) .none kV2 dc2 pm2 an2 cd2 ct2), sl2⟩) (c2 : PySem.W.codeIn K cd2 "is_name" = true) (k2 : PySem.W.keepIn K (.ref f2) = true)
    (a3 : PySem.W.nsIn K mainGlobals "are_prices" = some (some (.ref f3))) (l3 : K.lookup f3 = some ⟨oc3, od3, .func (PySem.W.fnOf "are_prices" "are_prices" (defArgs s_are_prices) (defBody s_are_prices) (defScope s_are_prices) .none kV3 dc3 pm3 an3 cd3 ct3), sl3⟩) (c3 : PySem.W.codeIn K cd3 "are_prices" = true) (k3 : PySem.W.keepIn K (.ref f3) = true)
    (a4 : PySem.W.nsIn K mainGlobals "is_name_with_price" = some (some (.ref f4))) (l4 : K.lookup f4 = some ⟨oc4, od4, .func (PySem.W.fnOf "is_name_with_price" "is_name_with_price" (defArgs s_is_name_with_price) (defBody s_is_name_with_price) (defScope s_is_name_with_price) .none kV4 dc4 pm4 an4 cd4 ct4), sl4⟩) (c4 : PySem.W.codeIn K cd4 "is_name_with_price" = true) (k4 : PySem.W.keepIn K (.ref f4) = true)
    (a5 : PySem.W.nsIn K mainGlobals "is_price" = some (some (.ref f5))) (l5 : K.lookup f5 = some ⟨oc5, od5, .func (PySem.W.fnOf "is_price" "is_price" (defArgs s_is_price) (defBody s_is_price) (defScope s_is_price) .none kV5 dc5 pm5 an5 cd5 ct5), sl5⟩) (c5 : PySem.W.codeIn K cd5 "is_price" = true) (k5 : PySem.W.keepIn K (.ref f5) = true)
    (a6 : PySem.W.nsIn K mainGlobals "_law_deck" = some (some (.ref f6))) (l6 : K.lookup f6 = some ⟨oc6, od6, .func (PySem.W.fnOf "_law_deck" "_law_deck" (defArgs s_deck) (defBody s_deck) (defScope s_deck) .none kV6 dc6 pm6 an6 cd6 ct6), sl6⟩) (c6 : PySem.W.codeIn K cd6 "_law_deck" = true) (k6 : PySem.W.keepIn K (.ref f6) = true)
    (a7 : PySem.W.nsIn K mainGlobals "_law_draw" = some (some (.ref f7))) (l7 : K.lookup f7 = some ⟨oc7, od7, .func (PySem.W.fnOf "_law_draw" "_law_draw" (defArgs s_draw) (defBody s_draw) (defScope s_draw) .none kV7 dc7 pm7 an7 cd7 ct7), sl7⟩) (c7 : PySem.W.codeIn K cd7 "_law_draw" = true) (k7 : PySem.W.keepIn K (.ref f7) = true)
    (a8 : PySem.W.nsIn K mainGlobals "_law_any" = some (some (.ref f8))) (l8 : K.lookup f8 = some ⟨oc8, od8, .func (PySem.W.fnOf "_law_any" "_law_any" (defArgs s_any) (defBody s_any) (defScope s_any) .none kV8 dc8 pm8 an8 cd8 ct8), sl8⟩) (c8 : PySem.W.codeIn K cd8 "_law_any" = true) (k8 : PySem.W.keepIn K (.ref f8) = true)
    (a9 : PySem.W.nsIn K mainGlobals "_law_turned" = some (some (.ref f9))) (l9 : K.lookup f9 = some ⟨oc9, od9, .func (PySem.W.fnOf "_law_turned" "_law_turned" (defArgs s_turned) (defBody s_turned) (defScope s_turned) .none kV9 dc9 pm9 an9 cd9 ct9), sl9⟩) (c9 : PySem.W.codeIn K cd9 "_law_turned" = true) (k9 : PySem.W.keepIn K (.ref f9) = true)
    (a10 : PySem.W.nsIn K mainGlobals "_law_names" = some (some (.ref f10))) (l10 : K.lookup f10 = some ⟨oc10, od10, .func (PySem.W.fnOf "_law_names" "_law_names" (defArgs s_names) (defBody s_names) (defScope s_names) .none kV10 dc10 pm10 an10 cd10 ct10), sl10⟩) (c10 : PySem.W.codeIn K cd10 "_law_names" = true) (k10 : PySem.W.keepIn K (.ref f10) = true)
    (a11 : PySem.W.nsIn K mainGlobals "_law_odd" = some (some (.ref f11))) (l11 : K.lookup f11 = some ⟨oc11, od11, .func (PySem.W.fnOf "_law_odd" "_law_odd" (defArgs s_odd) (defBody s_odd) (defScope s_odd) .none kV11 dc11 pm11 an11 cd11 ct11), sl11⟩) (c11 : PySem.W.codeIn K cd11 "_law_odd" = true) (k11 : PySem.W.keepIn K (.ref f11) = true)
    (a12 : PySem.W.nsIn K mainGlobals "_law_bent" = some (some (.ref f12))) (l12 : K.lookup f12 = some ⟨oc12, od12, .func (PySem.W.fnOf "_law_bent" "_law_bent" (defArgs s_bent) (defBody s_bent) (defScope s_bent) .none kV12 dc12 pm12 an12 cd12 ct12), sl12⟩) (c12 : PySem.W.codeIn K cd12 "_law_bent" = true) (k12 : PySem.W.keepIn K (.ref f12) = true)
    (a13 : PySem.W.nsIn K mainGlobals "_law_is_number" = some (some (.ref f13))) (l13 : K.lookup f13 = some ⟨oc13, od13, .func (PySem.W.fnOf "_law_is_number" "_law_is_number" (defArgs s_is_number) (defBody s_is_number) (defScope s_is_number) .none kV13 dc13 pm13 an13 cd13 ct13), sl13⟩) (c13 : PySem.W.codeIn K cd13 "_law_is_number" = true) (k13 : PySem.W.keepIn K (.ref f13) = true)
    (a14 : PySem.W.nsIn K mainGlobals "_law_is_name" = some (some (.ref f14))) (l14 : K.lookup f14 = some ⟨oc14, od14, .func (PySem.W.fnOf "_law_is_name" "_law_is_name" (defArgs s_l_is_name) (defBody s_l_is_name) (defScope s_l_is_name) .none kV14 dc14 pm14 an14 cd14 ct14), sl14⟩) (c14 : PySem.W.codeIn K cd14 "_law_is_name" = true) (k14 : PySem.W.keepIn K (.ref f14) = true)
    (a15 : PySem.W.nsIn K mainGlobals "_law_are_costs" = some (some (.ref f15))) (l15 : K.lookup f15 = some ⟨oc15, od15, .func (PySem.W.fnOf "_law_are_costs" "_law_are_costs" (defArgs s_are_costs) (defBody s_are_costs) (defScope s_are_costs) .none kV15 dc15 pm15 an15 cd15 ct15), sl15⟩) (c15 : PySem.W.codeIn K cd15 "_law_are_costs" = true) (k15 : PySem.W.keepIn K (.ref f15) = true)
    (a16 : PySem.W.nsIn K mainGlobals "_law_right" = some (some (.ref f16))) (l16 : K.lookup f16 = some ⟨oc16, od16, .func (PySem.W.fnOf "_law_right" "_law_right" (defArgs s_right) (defBody s_right) (defScope s_right) .none kV16 dc16 pm16 an16 cd16 ct16), sl16⟩) (c16 : PySem.W.codeIn K cd16 "_law_right" = true) (k16 : PySem.W.keepIn K (.ref f16) = true)
    (a17 : PySem.W.nsIn K mainGlobals "law" = some (some (.ref f17))) (l17 : K.lookup f17 = some ⟨oc17, od17, .func (PySem.W.fnOf "law" "law" (defArgs s_law) (defBody s_law) (defScope s_law) .none kV17 dc17 pm17 an17 cd17 ct17), sl17⟩) (c17 : PySem.W.codeIn K cd17 "law" = true) (k17 : PySem.W.keepIn K (.ref f17) = true)
    (z0 : PySem.W.nsIn K mainGlobals "set" = some none) (z1 : PySem.W.nsIn K mainGlobals "bool" = some none) (z2 : PySem.W.nsIn K mainGlobals "all" = some none) (z3 : PySem.W.nsIn K mainGlobals "zip" = some none) (z4 : PySem.W.nsIn K mainGlobals "isinstance" = some none) (z5 : PySem.W.nsIn K mainGlobals "str" = some none) (z6 : PySem.W.nsIn K mainGlobals "tuple" = some none) (z7 : PySem.W.nsIn K mainGlobals "int" = some none) (z8 : PySem.W.nsIn K mainGlobals "len" = some none) (z9 : PySem.W.nsIn K mainGlobals "range" = some none) (z10 : PySem.W.nsIn K mainGlobals "enumerate" = some none) (z11 : PySem.W.nsIn K mainGlobals "abs" = some none) (z12 : PySem.W.nsIn K mainGlobals "sorted" = some none) (z13 : PySem.W.nsIn K mainGlobals "list" = some none) (z14 : PySem.W.nsIn K mainGlobals "repr" = some none) (z15 : PySem.W.nsIn K mainGlobals "min" = some none) (z16 : PySem.W.nsIn K mainGlobals "max" = some none) (z17 : PySem.W.nsIn K mainGlobals "any" = some none) (z18 : PySem.W.nsIn K mainGlobals "dict" = some none) (z19 : PySem.W.nsIn K mainGlobals "sum" = some none) (z20 : PySem.W.nsIn K mainGlobals "reversed" = some none)
    (m1 : PySem.W.nsIn K mainGlobals "MOST_LETTERS" = some (some (.int 8 t1))) (m2 : PySem.W.nsIn K mainGlobals "HIGHEST_PRICE" = some (some (.int 1000000 t2))) :
    ∃ fd : FuncData, (∀ (s : Shared) (v : Value), BindsTo s fd ⟨[v], []⟩ [("_law_script", v)]) ∧ ∀ base : Heap, K.In base → base.Ns mainGlobals mg → FnG l.prog w K mg base CX0 9 fa fd ["_law_script"] (spLaw K) := by
  have e := hfa.symm.trans (PySem.W.mg_of X G a17)
  cases e
  have B : Bs mg t1 t2 := ⟨PySem.W.mg_none_of X G z0, PySem.W.mg_none_of X G z1, PySem.W.mg_none_of X G z2, PySem.W.mg_none_of X G z3, PySem.W.mg_none_of X G z4, PySem.W.mg_none_of X G z5, PySem.W.mg_none_of X G z6, PySem.W.mg_none_of X G z7, PySem.W.mg_none_of X G z8, PySem.W.mg_none_of X G z9, PySem.W.mg_none_of X G z10, PySem.W.mg_none_of X G z11, PySem.W.mg_none_of X G z12, PySem.W.mg_none_of X G z13, PySem.W.mg_none_of X G z14, PySem.W.mg_none_of X G z15, PySem.W.mg_none_of X G z16, PySem.W.mg_none_of X G z17, PySem.W.mg_none_of X G z18, PySem.W.mg_none_of X G z19, PySem.W.mg_none_of X G z20, PySem.W.mg_of X G m1, PySem.W.mg_of X G m2⟩
  have Dis_integer := defd X G a0 l0 c0 k0
  have Dis_ascending := defd X G a1 l1 c1 k1
  have Dis_name := defd X G a2 l2 c2 k2
  have Dare_prices := defd X G a3 l3 c3 k3
  have Dis_name_with_price := defd X G a4 l4 c4 k4
  have Dis_price := defd X G a5 l5 c5 k5
  have D_law_deck := defd X G a6 l6 c6 k6
  have D_law_draw := defd X G a7 l7 c7 k7
  have D_law_any := defd X G a8 l8 c8 k8
  have D_law_turned := defd X G a9 l9 c9 k9
  have D_law_names := defd X G a10 l10 c10 k10
  have D_law_odd := defd X G a11 l11 c11 k11
  have D_law_bent := defd X G a12 l12 c12 k12
  have D_law_is_number := defd X G a13 l13 c13 k13
  have D_law_is_name := defd X G a14 l14 c14 k14
  have D_law_are_costs := defd X G a15 l15 c15 k15
  have D_law_right := defd X G a16 l16 c16 k16
  refine ⟨PySem.W.fnOf "law" "law" (defArgs s_law) (defBody s_law) (defScope s_law) .none kV17 dc17 pm17 an17 cd17 ct17, fun s v => .of_eq rfl, fun base _ _ => ?_⟩
  have c_int := ok_is_integer (P := l.prog) (w := w) (base := base) B Dis_integer
  have c_asc := ok_is_ascending (P := l.prog) (w := w) (base := base) B Dis_ascending
  have c_name := ok_is_name (P := l.prog) (w := w) (base := base) B Dis_name
  have c_price := ok_is_price B Dis_price c_int
  have c_pair := ok_is_pair B Dis_name_with_price c_name c_price
  have c_prices := ok_are_prices B Dare_prices c_pair c_asc
  have c_deck := ok_deck (P := l.prog) (w := w) (base := base) B D_law_deck
  have c_draw0 := ok_draw (P := l.prog) (w := w) (base := base) B D_law_draw
  have c_draw := draw_a c_draw0
  have c_any := ok_any B D_law_any c_draw
  have c_turned := ok_turned B D_law_turned c_draw
  have c_names := ok_names B D_law_names c_draw c_any
  have c_odd := ok_odd B D_law_odd (ok_anyO B D_law_any c_draw0)
  have c_bent := bent_a (ok_bent B D_law_bent c_draw0 c_odd 3)
  have c_number := ok_is_number (P := l.prog) (w := w) (base := base) B D_law_is_number
  have c_lname := ok_l_is_name (P := l.prog) (w := w) (base := base) B D_law_is_name
  have c_costs := ok_are_costs B D_law_are_costs c_lname c_number
  have c_right := right_c (ok_right B D_law_right c_draw c_any c_names c_turned c_bent c_prices c_costs)
  exact ok_law B (fun_mk (st := s_law) l17 c17 k17) c_deck (by omega) c_right
end K37
end

section
set_option maxRecDepth 100000
open PySem PySem.W PyProof.Rows
set_option maxHeartbeats 0 in
theorem PySem.Challenge.cw_gridupgrade_k37_prices_of_any_value_holds : PySem.Challenge.rw_gridupgrade_k37_prices_of_any_value.Holds := by
  w_on; o_law; k_head; (case hw => w_witness2)
  k_fill
  refine Gd.walkG (l := PySem.Challenge.rw_gridupgrade_k37_prices_of_any_value) (n := 63) (k := 9) (x := "_law_script") (sp := K37.spLaw) rfl (by decide) rfl ⟨rfl, by decide, by decide⟩ (fun w h Y => PySem.W.kIn_of Y) ?F (fun _ _ a ns hl _ hS => ⟨a, ns, rfl, hS, hl, fun _ => rfl⟩)
  case F =>
    intro w mg fa h KX G hmg
    refine' K37.all_mk KX G hmg ?a0 ?l0 ?c0 ?k0 ?a1 ?l1 ?c1 ?k1 ?a2 ?l2 ?c2 ?k2 ?a3 ?l3 ?c3 ?k3 ?a4 ?l4 ?c4 ?k4 ?a5 ?l5 ?c5 ?k5 ?a6 ?l6 ?c6 ?k6 ?a7 ?l7 ?c7 ?k7 ?a8 ?l8 ?c8 ?k8 ?a9 ?l9 ?c9 ?k9 ?a10 ?l10 ?c10 ?k10 ?a11 ?l11 ?c11 ?k11 ?a12 ?l12 ?c12 ?k12 ?a13 ?l13 ?c13 ?k13 ?a14 ?l14 ?c14 ?k14 ?a15 ?l15 ?c15 ?k15 ?a16 ?l16 ?c16 ?k16 ?a17 ?l17 ?c17 ?k17 ?z0 ?z1 ?z2 ?z3 ?z4 ?z5 ?z6 ?z7 ?z8 ?z9 ?z10 ?z11 ?z12 ?z13 ?z14 ?z15 ?z16 ?z17 ?z18 ?z19 ?z20 ?m1 ?m2
    (case a0 => k_is)
    (case l0 => k_is)
    (case c0 => k_is)
    (case k0 => k_is)
    (case a1 => k_is)
    (case l1 => k_is)
    (case c1 => k_is)
    (case k1 => k_is)
    (case a2 => k_is)
    (case l2 => k_is)
    (case c2 => k_is)
    (case k2 => k_is)
    (case a3 => k_is)
    (case l3 => k_is)
    (case c3 => k_is)
    (case k3 => k_is)
    (case a4 => k_is)
    (case l4 => k_is)
    (case c4 => k_is)
    (case k4 => k_is)
    (case a5 => k_is)
    (case l5 => k_is)
    (case c5 => k_is)
    (case k5 => k_is)
    (case a6 => k_is)
    (case l6 => k_is)
    (case c6 => k_is)
    (case k6 => k_is)
    (case a7 => k_is)
    (case l7 => k_is)
    (case c7 => k_is)
    (case k7 => k_is)
    (case a8 => k_is)
    (case l8 => k_is)
    (case c8 => k_is)
    (case k8 => k_is)
    (case a9 => k_is)
    (case l9 => k_is)
    (case c9 => k_is)
    (case k9 => k_is)
    (case a10 => k_is)
    (case l10 => k_is)
    (case c10 => k_is)
    (case k10 => k_is)
    (case a11 => k_is)
    (case l11 => k_is)
    (case c11 => k_is)
    (case k11 => k_is)
    (case a12 => k_is)
    (case l12 => k_is)
    (case c12 => k_is)
    (case k12 => k_is)
    (case a13 => k_is)
    (case l13 => k_is)
    (case c13 => k_is)
    (case k13 => k_is)
    (case a14 => k_is)
    (case l14 => k_is)
    (case c14 => k_is)
    (case k14 => k_is)
    (case a15 => k_is)
    (case l15 => k_is)
    (case c15 => k_is)
    (case k15 => k_is)
    (case a16 => k_is)
    (case l16 => k_is)
    (case c16 => k_is)
    (case k16 => k_is)
    (case a17 => k_is)
    (case l17 => k_is)
    (case c17 => k_is)
    (case k17 => k_is)
    (case z0 => k_is)
    (case z1 => k_is)
    (case z2 => k_is)
    (case z3 => k_is)
    (case z4 => k_is)
    (case z5 => k_is)
    (case z6 => k_is)
    (case z7 => k_is)
    (case z8 => k_is)
    (case z9 => k_is)
    (case z10 => k_is)
    (case z11 => k_is)
    (case z12 => k_is)
    (case z13 => k_is)
    (case z14 => k_is)
    (case z15 => k_is)
    (case z16 => k_is)
    (case z17 => k_is)
    (case z18 => k_is)
    (case z19 => k_is)
    (case z20 => k_is)
    (case m1 => k_is)
    (case m2 => k_is)
end
